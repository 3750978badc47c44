/- A walk's state, said by two lists: what the slots hold, and which blocks of its own the call has; and a law for each kind of step. A walk's memory, said by a list of blocks of the call's own and a list of rows of words that are read; what each operation does to it. Walks of small questions: does a fraction fit, is a number real, is it 0. Numbers as values of six cells, and what they stand for. Sound and whole numbers, as questions of six parts. Fractions in lowest terms, and whole numbers of any sign, as values. Walks of the small functions of rows of bits. Are two rows of words the same? Numbers of machine words, and sameness. Walks of small numbers and of sameness. Fractions in lowest terms, as the document makes them. Walks of the document's functions over fractions. Walks of the document's sums of fractions. The document's -a - 1, and shifts of numbers. Walks of the document's -a - 1, and of shifts. How long numbers are in bits, and their opposites less one. Walks of the document's shifts, of lengths, of opposites less one, and of questions of sameness. How many bits of a number are 1. Walks of how many bits are 1. Rows of bits put together word by word. Walks of rows of bits put together. Numbers put together bit by bit. Walks of numbers put together bit by bit, and of Not. The fixed fact on bits. Walks of the fixed fact, and of sameness by the document. Walks of whole numbers of any sign. Walks of numbers over one bottom. Sound numbers as pairs of rational numbers. -/
import Derived.Test.YtbajcflbimmnhaaDoorBlk
import Derived.OrdersHeld
import Derived.Deep.RegionHeld3
import Derived.Laws.IdiomCopy
import Derived.ChangeKeysEq
import Derived.LoopN
import Derived.Deep.AppendLies
import Derived.Test.YtbajcflbimmnhaaDoorExG
import Derived.Test.YtbajcflbimmnhaaDoorNatN
import Derived.Test.YtbajcflbimmnhaaDoorNatP
import Derived.Test.YtbajcflbimmnhaaDoorNatM
import Derived.Test.YtbajcflbimmnhaaDoorNatK
import Derived.Test.YtbajcflbimmnhaaDoorNatY
import Derived.Test.YtbajcflbimmnhaaDoorGcdD
import Derived.Test.YtbajcflbimmnhaaDoorNatH
import Derived.Test.YtbajcflbimmnhaaDoorNatZ
import Derived.Test.YtbajcflbimmnhaaDoorGcdMath
import Derived.Deep.LoopGhost
import Derived.Test.YtbajcflbimmnhaaDoorNatL
import Derived.Test.YtbajcflbimmnhaaDoorBits
import Derived.Test.YtbajcflbimmnhaaDoorNatA
namespace Go.Proofs.YtbajcflbimmnhaaDoor
open Go.RowKit
set_option linter.unusedVariables false
set_option linter.unusedSimpArgs false

/-! ### Slots -/
def look : List (Nat × Value) → Nat → Option Value
  | [], _ => none
  | (k, v) :: t, n => cond (Nat.beq k n) (some v) (look t n)
/-- What an operand is. -/
def ev (l : List (Nat × Value)) : Operand → Option Value
  | .tmp k => look l k
  | .const v => some v
  | .global g => some (.pointer (some ⟨g, 0, none⟩))
  | .func f => some (.func (.func f) #[] #[])
def evs (l : List (Nat × Value)) : List Operand → Option (List Value)
  | [] => some []
  | x :: xs => match ev l x, evs l xs with | some v, some vs => some (v :: vs) | _, _ => none
def evp (l : List (Nat × Value)) : List (Nat × Operand) → Option (List (Nat × Value))
  | [] => some []
  | (i, x) :: xs => match ev l x, evp l xs with | some v, some vs => some ((i, v) :: vs) | _, _ => none
/-- The frame has n slots, and those that the list names hold what it says; no call waits for the end. -/
structure Sl (a : Act) (n : Nat) (l : List (Nat × Value)) : Prop where
  size : a.tmps.size = n
  holds : ∀ k v, look l k = some v → a.tmps[k]? = some v
  none_ : a.defers = []
section
variable {a : Act} {n : Nat} {l : List (Nat × Value)}
theorem Sl.ev (h : Sl a n l) {x : Operand} {v : Value} (hx : ev l x = some v) : a.eval x = v := by
  cases x with
  | tmp k =>
    have := h.holds k v hx
    simp [Act.eval, Array.getD_eq_getD_getElem?, this]
  | const u => simpa [YtbajcflbimmnhaaDoor.ev, Act.eval] using hx
  | global g => simpa [YtbajcflbimmnhaaDoor.ev, Act.eval] using hx
  | func f => simpa [YtbajcflbimmnhaaDoor.ev, Act.eval] using hx
theorem Sl.evs (h : Sl a n l) : ∀ {xs : List Operand} {vs : List Value}, evs l xs = some vs → xs.map a.eval = vs := by
  intro xs
  induction xs with
  | nil => intro vs hx; simp [YtbajcflbimmnhaaDoor.evs] at hx; simp [hx]
  | cons x xs ih =>
    intro vs hx
    unfold YtbajcflbimmnhaaDoor.evs at hx
    split at hx
    · rename_i v us h1 h2
      cases hx
      simp [h.ev h1, ih h2]
    · cases hx
theorem Sl.evp (h : Sl a n l) : ∀ {xs : List (Nat × Operand)} {vs : List (Nat × Value)}, evp l xs = some vs → xs.map (fun p => (p.1, a.eval p.2)) = vs := by
  intro xs
  induction xs with
  | nil => intro vs hx; simp [YtbajcflbimmnhaaDoor.evp] at hx; simp [hx]
  | cons x xs ih =>
    intro vs hx
    obtain ⟨i, x⟩ := x
    unfold YtbajcflbimmnhaaDoor.evp at hx
    split at hx
    · rename_i v us h1 h2
      cases hx
      simp [h.ev h1, ih h2]
    · cases hx
theorem Sl.put (h : Sl a n l) {d : Nat} (hd : Nat.blt d n = true) (v : Value) : Sl (a.put (some d) v) n ((d, v) :: l) := by
  refine ⟨by simp [Act.put, h.size], fun k u hk => ?_, by simp [Act.put, h.none_]⟩
  have hd' : d < a.tmps.size := by rw [h.size]; exact Nat.le_of_ble_eq_true hd
  unfold look at hk
  cases hb : Nat.beq d k with
  | true =>
    rw [hb] at hk
    have : d = k := Nat.eq_of_beq_eq_true hb
    subst this
    simp only [cond_true, Option.some.injEq] at hk
    subst hk
    simp [Act.put, Array.getElem?_setIfInBounds, hd']
  | false =>
    rw [hb] at hk
    have hne : d ≠ k := fun e => by rw [e, Nat.beq_refl] at hb; cases hb
    simp only [cond_false] at hk
    simp [Act.put, Array.getElem?_setIfInBounds, hne, h.holds k u hk]
theorem Sl.enter {args : List Value} {m : Nat} (hl : args.length ≤ m) : Sl { tmps := args.toArray ++ Array.replicate (m - args.toArray.size) undef, defers := [] } m (args.zipIdx.map fun p => (p.2, p.1)) := by
  refine ⟨by simp; omega, fun k v hk => ?_, rfl⟩
  have key : ∀ (xs : List Value) (o : Nat), look ((xs.zipIdx o).map fun p => (p.2, p.1)) k = some v → o ≤ k ∧ xs[k - o]? = some v := by
    intro xs
    induction xs with
    | nil => intro o h; simp [look] at h
    | cons x xs ih =>
      intro o h
      simp only [List.zipIdx_cons, List.map_cons, look] at h
      cases hb : Nat.beq o k with
      | true =>
        rw [hb] at h
        have : o = k := Nat.eq_of_beq_eq_true hb
        subst this
        simp only [cond_true, Option.some.injEq] at h
        simp [h]
      | false =>
        rw [hb] at h
        have hne : o ≠ k := fun e => by rw [e, Nat.beq_refl] at hb; cases hb
        simp only [cond_false] at h
        obtain ⟨h1, h2⟩ := ih _ h
        refine ⟨by omega, ?_⟩
        have : k - o = (k - (o + 1)) + 1 := by omega
        rw [this, List.getElem?_cons_succ]
        exact h2
  have h := (key args 0 hk).2
  simp only [Nat.sub_zero] at h
  have hlt : k < args.length := (List.getElem?_eq_some_iff.1 h).1
  rw [Array.getElem?_append_left (by simpa using hlt)]
  simpa using h
def AllIn (l : List (Nat × Value)) : List (Nat × Value) → Prop
  | [] => True
  | p :: t => look l p.1 = some p.2 ∧ AllIn l t
theorem Sl.keep (h : Sl a n l) (l' : List (Nat × Value)) (hs : AllIn l l') : Sl a n l' := by
  refine ⟨h.size, ?_, h.none_⟩
  induction l' with
  | nil => intro k v hk; simp [look] at hk
  | cons p t ih =>
    intro k v hk
    obtain ⟨d, u⟩ := p
    unfold look at hk
    cases hb : Nat.beq d k with
    | true =>
      rw [hb] at hk
      have : d = k := Nat.eq_of_beq_eq_true hb
      subst this
      simp only [cond_true, Option.some.injEq] at hk
      subst hk
      exact h.holds _ _ hs.1
    | false =>
      rw [hb] at hk
      exact ih hs.2 k v hk
theorem Sl.cut (h : Sl a n l) (l' : List (Nat × Value)) (hl : ∀ k v, look l' k = some v → look l k = some v) : Sl a n l' := ⟨h.size, fun k v hk => h.holds k v (hl k v hk), h.none_⟩
end

/-! ### What an operation does -/
/-- With these slots, in this world, the operation yields v and leaves w'. -/
def Does (P : Program) (l : List (Nat × Value)) (o : Oper) (w : World) (v : Value) (w' : World) : Prop :=
  ∀ ρ : Operand → Value, (∀ x u, ev l x = some u → ρ x = u) → (execOp ρ o).run P w = .ok (.value v) w'
/-- .. yields nothing (a store). -/
def Sets (P : Program) (l : List (Nat × Value)) (o : Oper) (w : World) (w' : World) : Prop :=
  ∀ ρ : Operand → Value, (∀ x u, ev l x = some u → ρ x = u) → (execOp ρ o).run P w = .ok .skip w'
/-- .. calls a function. -/
def Enters (P : Program) (l : List (Nat × Value)) (o : Oper) (w : World) (f : FuncId) (vs : List Value) : Prop :=
  ∀ ρ : Operand → Value, (∀ x u, ev l x = some u → ρ x = u) → (execOp ρ o).run P w = .ok (.enter f vs.toArray) w
/-- Its guard, if it has one, says yes. -/
def passes (l : List (Nat × Value)) (ops : List Oper) (o : Oper) : Bool :=
  match o.guard with
  | none => true
  | some (j, b) => match ops[j]? with
    | some oj => match oj.dst with
      | some d => match look l d with
        | some (.bool b') => b' == b
        | _ => false
      | none => false
    | none => false
/-- Its guard says no. -/
def stays (l : List (Nat × Value)) (ops : List Oper) (o : Oper) : Bool :=
  match o.guard with
  | none => false
  | some (j, b) => match ops[j]? with
    | some oj => match oj.dst with
      | some d => match look l d with
        | some (.bool b') => b' != b
        | _ => false
      | none => false
    | none => false
section
variable {P : Program} {ops : List Oper} {Q : Exit → Act → World → Prop} {a : Act} {w w' : World} {n : Nat} {l : List (Nat × Value)} {o : Oper} {v : Value} {rest : List Oper}
theorem Sl.wanted (h : Sl a n l) (hp : passes l ops o = true) : Region.wanted o (yielded ops.toArray a.tmps) = true := by
  unfold Region.wanted
  unfold passes at hp
  split at hp
  · rename_i hg; rw [hg]
  · rename_i j b hg
    rw [hg]
    split at hp
    · rename_i oj hj
      split at hp
      · rename_i d hd
        split at hp
        · rename_i b' hb
          have := h.holds d _ hb
          simp only [beq_iff_eq] at hp
          simp [yielded, hj, hd, this, hp]
        · cases hp
      · cases hp
    · cases hp
theorem Sl.unwanted (h : Sl a n l) (hp : stays l ops o = true) : Region.wanted o (yielded ops.toArray a.tmps) = false := by
  unfold Region.wanted
  unfold stays at hp
  split at hp
  · cases hp
  · rename_i j b hg
    rw [hg]
    split at hp
    · rename_i oj hj
      split at hp
      · rename_i d hd
        split at hp
        · rename_i b' hb
          have := h.holds d _ hb
          simp only [bne_iff_ne, ne_eq] at hp
          simp [yielded, hj, hd, this, hp]
        · cases hp
      · cases hp
    · cases hp
/-- One step of a region that goes in its text's order. -/
theorem seq_do (hA : Sl a n l) (hg : passes l ops o = true) {d : Nat} (hdst : o.dst = some d) (hd : Nat.blt d n = true) (he : Does P l o w v w')
    (hk : ∀ a', Sl a' n ((d, v) :: l) → wpList P ops.toArray Q rest a' w') : wpList P ops.toArray Q (o :: rest) a w := by
  unfold wpList
  rw [if_pos (hA.wanted hg)]
  refine .inl ?_
  unfold Oper.wp
  rw [he a.eval (fun x u hx => hA.ev hx), Oper.upon_value, hdst]
  exact hk _ (hA.put hd v)
theorem seq_set (hA : Sl a n l) (hg : passes l ops o = true) (hdst : o.dst = none) (he : Sets P l o w w')
    (hk : wpList P ops.toArray Q rest a w') : wpList P ops.toArray Q (o :: rest) a w := by
  unfold wpList
  rw [if_pos (hA.wanted hg)]
  refine .inl ?_
  unfold Oper.wp
  rw [he a.eval (fun x u hx => hA.ev hx), Oper.upon_skip, hdst]
  exact hk
theorem seq_skip (hA : Sl a n l) (hg : stays l ops o = true) {d : Nat} (hdst : o.dst = some d) (hd : Nat.blt d n = true)
    (hk : ∀ a', Sl a' n ((d, undef) :: l) → wpList P ops.toArray Q rest a' w) : wpList P ops.toArray Q (o :: rest) a w := by
  unfold wpList
  rw [hA.unwanted hg, if_neg (by simp), hdst]
  exact hk _ (hA.put hd undef)
theorem seq_call (hA : Sl a n l) (hg : passes l ops o = true) {d : Nat} (hdst : o.dst = some d) (hd : Nat.blt d n = true) {f : FuncId} {vs : List Value} (he : Enters P l o w f vs)
    {R : Ending → World → Prop} (hc : Calls P f vs.toArray w R)
    (hk : ∀ e w', R e w' → ∃ v, e = .returned v ∧ ∀ a', Sl a' n ((d, v) :: l) → wpList P ops.toArray Q rest a' w') : wpList P ops.toArray Q (o :: rest) a w := by
  unfold wpList
  rw [if_pos (hA.wanted hg)]
  refine .inl ?_
  unfold Oper.wp
  rw [he a.eval (fun x u hx => hA.ev hx), Oper.upon_enter]
  refine hc.mono ?_
  intro e w' hR
  obtain ⟨v, rfl, h⟩ := hk e w' hR
  simp only [hdst]
  exact h _ (hA.put hd v)
theorem seq_end (hk : Q .normal a w) : wpList P ops.toArray Q [] a w := hk
/-! .. and of a region that draws its order: S is what every world on the way meets. -/
variable {S : World → Prop} {md : Region.Mode} {fuel : Nat} {listed : Array Bool}
theorem any_take (hA : Sl a n l) (i : Nat) (hi : ops[i]? = some o) (hg : passes l ops o = true) {d : Nat} (hdst : o.dst = some d) (hd : Nat.blt d n = true) (hs : Region.noSelect ops.toArray = true) (hf : Region.free md ops.toArray listed i = true)
    (hr : (Region.ready md ops.toArray listed).contains i = true) (hQ : ∀ c a w, Q (.panic c) (a.put o.dst v) w → Q (.panic c) a w) (hS : S w) (he : ∀ w, S w → Does P l o w v w)
    (hk : ∀ a', Sl a' n ((d, v) :: l) → wpAnyH P md ops.toArray Q S fuel (listed.setIfInBounds i true) a' w) : wpAnyH P md ops.toArray Q S (fuel + 1) listed a w := by
  refine wpAnyH_take (i := i) (oi := o) (v := v) (by simpa using hi) hs hf hr hQ (Or.inl ⟨hA.wanted hg, fun w hw => he w hw a.eval (fun x u hx => hA.ev hx)⟩) hS ?_
  rw [hdst]
  exact hk _ (hA.put hd v)
theorem any_tk (hA : Sl a n l) (i : Nat) (hi : ops[i]? = some o) (hg : passes l ops o = true) {d : Nat} (hdst : o.dst = some d) (hd : Nat.blt d n = true) (hP : ∀ c a d v w, Q (.panic c) (Act.put a d v) w → Q (.panic c) a w) (hS : S w) (he : ∀ w, S w → Does P l o w v w)
    (hk : ∀ a', Sl a' n ((d, v) :: l) → wpAnyH P md ops.toArray Q S fuel (listed.setIfInBounds i true) a' w) (hs : Region.noSelect ops.toArray = true := by kernel_rfl) (hf : Region.free md ops.toArray listed i = true := by kernel_rfl) (hr : (Region.ready md ops.toArray listed).contains i = true := by kernel_rfl) : wpAnyH P md ops.toArray Q S (fuel + 1) listed a w :=
  any_take hA i hi hg hdst hd hs hf hr (fun c a w h => hP c a _ _ w h) hS he hk
/-- One operation of it. -/
theorem op_do (hA : Sl a n l) (i : Nat) (hi : ops[i]? = some o) (hg : passes l ops o = true) {d : Nat} (hdst : o.dst = some d) (hd : Nat.blt d n = true) (he : Does P l o w v w') (hS : S w')
    (hk : ∀ a', Sl a' n ((d, v) :: l) → wpAnyH P md ops.toArray Q S fuel (listed.setIfInBounds i true) a' w') : wpOp P ops.toArray Q i (fun a' w' => S w' ∧ wpAnyH P md ops.toArray Q S fuel (listed.setIfInBounds i true) a' w') a w := by
  unfold wpOp
  simp only [List.getElem?_toArray, hi]
  rw [if_pos (hA.wanted hg)]
  refine .inl ?_
  unfold Oper.wp
  rw [he a.eval (fun x u hx => hA.ev hx), Oper.upon_value, hdst]
  exact ⟨hS, hk _ (hA.put hd v)⟩
theorem op_set (hA : Sl a n l) (i : Nat) (hi : ops[i]? = some o) (hg : passes l ops o = true) (hdst : o.dst = none) (he : Sets P l o w w') (hS : S w')
    (hk : wpAnyH P md ops.toArray Q S fuel (listed.setIfInBounds i true) a w') : wpOp P ops.toArray Q i (fun a' w' => S w' ∧ wpAnyH P md ops.toArray Q S fuel (listed.setIfInBounds i true) a' w') a w := by
  unfold wpOp
  simp only [List.getElem?_toArray, hi]
  rw [if_pos (hA.wanted hg)]
  refine .inl ?_
  unfold Oper.wp
  rw [he a.eval (fun x u hx => hA.ev hx), Oper.upon_skip, hdst]
  exact ⟨hS, hk⟩
theorem op_call (hA : Sl a n l) (i : Nat) (hi : ops[i]? = some o) (hg : passes l ops o = true) {d : Nat} (hdst : o.dst = some d) (hd : Nat.blt d n = true)
    {f : FuncId} {vs : List Value} (he : Enters P l o w f vs) {R : Ending → World → Prop} (hc : Calls P f vs.toArray w R)
    (hk : ∀ e w', R e w' → ∃ v, e = .returned v ∧ S w' ∧ ∀ a', Sl a' n ((d, v) :: l) → wpAnyH P md ops.toArray Q S fuel (listed.setIfInBounds i true) a' w') : wpOp P ops.toArray Q i (fun a' w' => S w' ∧ wpAnyH P md ops.toArray Q S fuel (listed.setIfInBounds i true) a' w') a w := by
  unfold wpOp
  simp only [List.getElem?_toArray, hi]
  rw [if_pos (hA.wanted hg)]
  refine .inl ?_
  unfold Oper.wp
  rw [he a.eval (fun x u hx => hA.ev hx), Oper.upon_enter]
  refine hc.mono ?_
  intro e w' hR
  obtain ⟨v, rfl, h1, h2⟩ := hk e w' hR
  simp only [hdst]
  exact ⟨h1, h2 _ (hA.put hd v)⟩
/-- Nothing else may come up. -/
theorem any_one {i : Nat} (hr : Region.ready md ops.toArray listed = [i]) (h : wpOp P ops.toArray Q i (fun a' w' => S w' ∧ wpAnyH P md ops.toArray Q S fuel (listed.setIfInBounds i true) a' w') a w) : wpAnyH P md ops.toArray Q S (fuel + 1) listed a w :=
  wpAnyH_all hr (by simp) (fun j hj => by rw [List.mem_singleton] at hj; subst hj; exact h)
def AllOps (W : Nat → Prop) : List Nat → Prop
  | [] => True
  | i :: t => W i ∧ AllOps W t
theorem AllOps.get {W : Nat → Prop} : ∀ {rs : List Nat}, AllOps W rs → ∀ i ∈ rs, W i
  | _ :: _, h, i, hi => by
    rcases List.mem_cons.1 hi with rfl | hi
    · exact h.1
    · exact AllOps.get h.2 i hi
/-- Whichever comes up. -/
theorem any_many {rs : List Nat} (hr : Region.ready md ops.toArray listed = rs) (hne : rs ≠ []) (h : AllOps (fun i => wpOp P ops.toArray Q i (fun a' w' => S w' ∧ wpAnyH P md ops.toArray Q S fuel (listed.setIfInBounds i true) a' w') a w) rs) : wpAnyH P md ops.toArray Q S (fuel + 1) listed a w :=
  wpAnyH_all hr hne (fun i hi => h.get i hi)
theorem any_end (hr : Region.ready md ops.toArray listed = []) (hk : Q .normal a w) : wpAnyH P md ops.toArray Q S fuel listed a w := wpAnyH_done hr hk fuel
end
end Go.Proofs.YtbajcflbimmnhaaDoor
namespace Go.Proofs.YtbajcflbimmnhaaDoor
open Go.RowKit
set_option linter.unusedVariables false
set_option linter.unusedSimpArgs false

def noWord : Value → Bool
  | .int .u32 _ => false
  | _ => true
theorem noWord_ne {v : Value} (h : noWord v = true) : ∀ n, v ≠ .int .u32 n := by
  intro n e
  subst e
  cases h
/-- Their blocks are others, where they have any. -/
def Apart (x y : Option Addr) : Prop := ∀ a b, x = some a → y = some b → a.block ≠ b.block
def Off (x : Option Addr) (g : Nat) : Prop := ∀ a, x = some a → a.block ≠ g
/-- Memory: as it was at w0, but for new blocks: those of L hold these cells; R: what is read as rows of words; O: rows of words of the call's own, written in place. -/
structure St (w0 w : World) (L : List (Nat × List Value)) (R : List (Option Addr × List Nat)) (O : List (Option Addr × Nat × List Nat)) : Prop where
  bel : Below w0.heap.size w0 w
  own : ∀ p ∈ L, w0.heap.size ≤ p.1 ∧ Blk w p.1 p.2
  dis : L.Pairwise (fun p q => p.1 ≠ q.1)
  rds : ∀ r ∈ R, Rd w r.1 r.2
  rows : ∀ o ∈ O, Own w0.heap.size w o.1 o.2.1 o.2.2
  sepO : O.Pairwise (fun p q => Apart p.1 q.1)
  sepL : ∀ o ∈ O, ∀ p ∈ L, Off o.1 p.1
  sepR : ∀ o ∈ O, ∀ r ∈ R, r.2 ≠ [] → Apart o.1 r.1
section
variable {w0 w w' : World} {L : List (Nat × List Value)} {R : List (Option Addr × List Nat)} {O : List (Option Addr × Nat × List Nat)}
theorem St.start (w : World) : St w w [] [] [] := ⟨Below.refl _ _, by simp, .nil, by simp, by simp, .nil, by simp, by simp⟩
theorem St.addR (h : St w0 w L R []) {so : Option Addr} {l : List Nat} (hr : Rd w so l) : St w0 w L ((so, l) :: R) [] :=
  ⟨h.bel, h.own, h.dis, fun r hm => by rcases List.mem_cons.1 hm with rfl | hm; exact hr; exact h.rds r hm, by simp, .nil, by simp, by simp⟩
theorem St.rd (h : St w0 w L R O) (k : Nat) {so : Option Addr} {l : List Nat} (hk : R[k]? = some (so, l)) : Rd w so l := h.rds _ (List.mem_of_getElem? hk)
theorem St.row (h : St w0 w L R O) (k : Nat) {so : Option Addr} {c : Nat} {l : List Nat} (hk : O[k]? = some (so, c, l)) : Own w0.heap.size w so c l := h.rows _ (List.mem_of_getElem? hk)
theorem St.call (h : St w0 w L R O) (hb : Below w.heap.size w w') : St w0 w' L R O :=
  ⟨chain2 h.bel hb, fun p hp => ⟨(h.own p hp).1, (h.own p hp).2.below hb⟩, h.dis, fun r hr => (h.rds r hr).below hb, fun o ho => (h.rows o ho).below hb, h.sepO, h.sepL, h.sepR⟩
theorem St.drew (h : St w0 w L R O) : St w0 w.drew L R O := ⟨h.bel.drew, fun p hp => ⟨(h.own p hp).1, (h.own p hp).2.drew⟩, h.dis, fun r hr => (h.rds r hr).drew, fun o ho => (h.rows o ho).drew, h.sepO, h.sepL, h.sepR⟩
theorem St.lt (h : St w0 w L R O) : ∀ p ∈ L, p.1 < w.heap.size := fun p hp => (h.own p hp).2.lt
theorem St.new (h : St w0 w L R O) (vs : List Value) (t : TypeId) (hno : vs.all noWord = true) : St w0 (w.alloc (.cells vs.toArray t)) ((w.heap.size, vs) :: L) R O := by
  have hb : Below w.heap.size w (w.alloc (.cells vs.toArray t)) := (Below.refl _ _).alloc (Nat.le_refl _) _
  have h' := h.call hb
  refine ⟨h'.bel, fun p hp => ?_, List.pairwise_cons.2 ⟨fun q hq => Nat.ne_of_gt (h.lt q hq), h.dis⟩, h'.rds, h'.rows, h.sepO, fun o ho p hp => ?_, h.sepR⟩
  · rcases List.mem_cons.1 hp with rfl | hp
    · exact ⟨h.bel.size, Blk.new w vs t (fun v hv => noWord_ne (List.all_eq_true.1 hno v hv))⟩
    · exact h'.own p hp
  · rcases List.mem_cons.1 hp with rfl | hp
    · exact fun a ha => Nat.ne_of_lt ((h.rows o ho).lt a ha).2
    · exact h.sepL o ho p hp
theorem St.blk (h : St w0 w L R O) (k : Nat) {g : Nat} {vs : List Value} (hk : L[k]? = some (g, vs)) : Blk w g vs := (h.own _ (List.mem_of_getElem? hk)).2
theorem St.subL (h : St w0 w L R O) (L' : List (Nat × List Value)) (hs : L'.Sublist L) : St w0 w L' R O := ⟨h.bel, fun p hp => h.own p (hs.subset hp), h.dis.sublist hs, h.rds, h.rows, h.sepO, fun o ho p hp => h.sepL o ho p (hs.subset hp), h.sepR⟩
theorem St.subO (h : St w0 w L R O) (O' : List (Option Addr × Nat × List Nat)) (hs : O'.Sublist O) : St w0 w L R O' := ⟨h.bel, h.own, h.dis, h.rds, fun o ho => h.rows o (hs.subset ho), h.sepO.sublist hs, fun o ho => h.sepL o (hs.subset ho), fun o ho => h.sepR o (hs.subset ho)⟩
/-- The blocks in another order: 'ks' are their places. -/
theorem St.pickL (h : St w0 w L R O) (L' : List (Nat × List Value)) (ks : List Nat) (hs : ks.map (fun k => L[k]?) = L'.map some) (hn : ks.Nodup) : St w0 w L' R O := by
  have hlen : ks.length = L'.length := by have := congrArg List.length hs; simpa using this
  have at_ : ∀ i (h1 : i < L'.length), ∃ h2 : i < ks.length, L[ks[i]]? = some L'[i] := by
    intro i h1
    have h2 : i < ks.length := by omega
    refine ⟨h2, ?_⟩
    have := congrArg (fun l => l[i]?) hs
    simpa [h1, h2] using this
  have mem : ∀ p ∈ L', p ∈ L := fun p hp => by
    obtain ⟨i, hi, rfl⟩ := List.mem_iff_getElem.1 hp
    obtain ⟨_, e⟩ := at_ i hi
    exact List.mem_of_getElem? e
  refine ⟨h.bel, fun p hp => h.own p (mem p hp), ?_, h.rds, h.rows, h.sepO, fun o ho p hp => h.sepL o ho p (mem p hp), h.sepR⟩
  rw [List.pairwise_iff_getElem]
  intro i j hi hj hij
  obtain ⟨hi2, ei⟩ := at_ i hi
  obtain ⟨hj2, ej⟩ := at_ j hj
  have hne : ks[i] ≠ ks[j] := fun e => by
    have := (List.nodup_iff_pairwise_ne.1 hn)
    rw [List.pairwise_iff_getElem] at this
    exact this i j hi2 hj2 hij e
  have hp := List.pairwise_iff_getElem.1 h.dis
  obtain ⟨a1, b1⟩ := List.getElem?_eq_some_iff.1 ei
  obtain ⟨a2, b2⟩ := List.getElem?_eq_some_iff.1 ej
  rcases Nat.lt_or_gt_of_ne hne with hlt | hlt
  · have := hp _ _ a1 a2 hlt
    rw [b1, b2] at this
    exact this
  · have := hp _ _ a2 a1 hlt
    rw [b1, b2] at this
    exact fun e => this e.symm
def AllR (R : List (Option Addr × List Nat)) : List (Option Addr × List Nat) → Prop
  | [] => True
  | r :: t => (∃ k : Nat, R[k]? = some r) ∧ AllR R t
theorem AllR.mem : ∀ {R' : List (Option Addr × List Nat)}, AllR R R' → ∀ r ∈ R', r ∈ R
  | r :: t, hs, x, hx => by
    rcases List.mem_cons.1 hx with rfl | hx
    · obtain ⟨⟨k, hk⟩, _⟩ := hs
      exact List.mem_of_getElem? hk
    · exact AllR.mem hs.2 x hx
theorem St.pickR (h : St w0 w L R O) (R' : List (Option Addr × List Nat)) (hs : AllR R R') : St w0 w L R' O :=
  ⟨h.bel, h.own, h.dis, fun r hr => h.rds r (hs.mem r hr), h.rows, h.sepO, h.sepL, fun o ho r hr => h.sepR o ho r (hs.mem r hr)⟩
/-- A part of the state. -/
theorem St.pickRL {L' : List (Nat × List Value)} {R' : List (Option Addr × List Nat)} (h : St w0 w L R O) (hR : AllR R R') (ks : List Nat) (hs : ks.map (fun k => L[k]?) = L'.map some) (hn : ks.Nodup) : St w0 w L' R' O := (h.pickR R' hR).pickL L' ks hs hn
theorem St.part {L' : List (Nat × List Value)} {R' : List (Option Addr × List Nat)} {O' : List (Option Addr × Nat × List Nat)} (h : St w0 w L R O) (hL : L'.Sublist L) (hR : AllR R R') (hO : O'.Sublist O) : St w0 w L' R' O' := ((h.pickR R' hR).subL L' hL).subO O' hO
theorem St.partD {L' : List (Nat × List Value)} {R' : List (Option Addr × List Nat)} {O' : List (Option Addr × Nat × List Nat)} (h : St w0 w L R O) (hL : L'.Sublist L) (n : Nat) (hR : R.drop n = R') (hO : O'.Sublist O) : St w0 w L' R' O' := by
  subst hR
  refine St.subO (St.subL ⟨h.bel, h.own, h.dis, fun r hr => h.rds r (List.mem_of_mem_drop hr), h.rows, h.sepO, h.sepL, fun o ho r hr => h.sepR o ho r (List.mem_of_mem_drop hr)⟩ L' hL) O' hO
theorem St.cell (h : St w0 w L R O) (k : Nat) {g : Nat} {vs : List Value} (hk : L[k]? = some (g, vs)) (i : Nat) {v : Value} (hi : vs[i]? = some v) : w.cell? ⟨g, i, none⟩ = some v :=
  (h.own _ (List.mem_of_getElem? hk)).2.cell i v hi
theorem pairwise_set {L : List (Nat × List Value)} (h : L.Pairwise (fun p q => p.1 ≠ q.1)) {k g : Nat} {vs us : List Value} (hk : L[k]? = some (g, vs)) : (L.set k (g, us)).Pairwise (fun p q => p.1 ≠ q.1) := by
  have e : (L.set k (g, us)).map Prod.fst = L.map Prod.fst := by
    rw [List.map_set]
    apply List.ext_getElem?
    intro i
    by_cases hi : k = i
    · subst hi
      have hlt : k < (L.map Prod.fst).length := by simpa using (List.getElem?_eq_some_iff.1 hk).1
      rw [List.getElem?_set_self hlt]
      simp [hk]
    · rw [List.getElem?_set_ne hi]
  have h1 : (L.map Prod.fst).Pairwise (· ≠ ·) := List.pairwise_map.2 h
  rw [← e] at h1
  exact List.pairwise_map.1 h1
theorem other_of {L : List (Nat × List Value)} (h : L.Pairwise (fun p q => p.1 ≠ q.1)) {k g : Nat} {vs us : List Value} (hk : L[k]? = some (g, vs)) {p : Nat × List Value} (hp : p ∈ L.set k (g, us)) : p = (g, us) ∨ (p ∈ L ∧ g ≠ p.1) := by
  obtain ⟨i, hi⟩ := List.mem_iff_getElem?.1 hp
  by_cases e : k = i
  · subst e
    have hlt : k < L.length := (List.getElem?_eq_some_iff.1 hk).1
    rw [List.getElem?_set_self hlt] at hi
    exact .inl (Option.some.inj hi).symm
  · rw [List.getElem?_set_ne e] at hi
    refine .inr ⟨List.mem_of_getElem? hi, ?_⟩
    have h1 := List.pairwise_iff_getElem.1 h
    obtain ⟨hk1, hk2⟩ := List.getElem?_eq_some_iff.1 hk
    obtain ⟨hi1, hi2⟩ := List.getElem?_eq_some_iff.1 hi
    rcases Nat.lt_or_gt_of_ne e with hlt | hlt
    · have := h1 k i hk1 hi1 hlt
      rw [hk2, hi2] at this
      exact this
    · have := h1 i k hi1 hk1 hlt
      rw [hk2, hi2] at this
      exact fun e => this e.symm
theorem grown_set (w : World) (g i : Nat) (v : Value) : w.grownBy (w.setCell ⟨g, i, none⟩ v) (some g) :=
  ⟨rfl, rfl, rfl, by simp, fun k hk hne => Below.heap_setCell w ⟨g, i, none⟩ v k (fun e => hne (by rw [e]))⟩
theorem St.set (h : St w0 w L R O) (k : Nat) {g : Nat} {vs : List Value} (hk : L[k]? = some (g, vs)) (i : Nat) (hi : i < vs.length) (v : Value) (hv : noWord v = true) : St w0 (w.setCell ⟨g, i, none⟩ v) (L.set k (g, vs.set i v)) R O := by
  have hm := List.mem_of_getElem? hk
  have ho := h.own _ hm
  refine ⟨h.bel.setCell (p := ⟨g, i, none⟩) ho.1 v, fun p hp => ?_, pairwise_set h.dis hk, fun r hr => ho.2.rd (h.rds r hr) i v hi, fun o hO => (h.rows o hO).kept (grown_set w g i v) (fun a ha e => h.sepL o hO _ hm a ha (by simpa using e)), h.sepO, fun o hO p hp => ?_, h.sepR⟩
  · rcases other_of h.dis hk hp with rfl | ⟨hp, hne⟩
    · exact ⟨ho.1, ho.2.set i v hi (noWord_ne hv)⟩
    · exact ⟨(h.own p hp).1, (h.own p hp).2.far hne i v⟩
  · rcases other_of h.dis hk hp with rfl | ⟨hp, hne⟩
    · exact (show Off o.1 g from h.sepL o hO _ hm)
    · exact h.sepL o hO p hp
def over : List Value → Nat → List Value → List Value
  | vs, _, [] => vs
  | vs, o, c :: cs => over (vs.set o c) (o + 1) cs
theorem St.sets {g : Nat} : ∀ (cs : List Value) (w : World) (L : List (Nat × List Value)) (vs : List Value) (o : Nat), St w0 w L R O → ∀ k, L[k]? = some (g, vs) → o + cs.length ≤ vs.length → cs.all noWord = true → St w0 (w.setCells g o cs) (L.set k (g, over vs o cs)) R O
  | [], w, L, vs, o, h, k, hk, _, _ => by
    have : L.set k (g, over vs o []) = L := by
      apply List.ext_getElem?
      intro i
      by_cases hi : k = i
      · subst hi
        rw [List.getElem?_set_self (List.getElem?_eq_some_iff.1 hk).1, hk]
        rfl
      · rw [List.getElem?_set_ne hi]
    rw [this]
    exact h
  | c :: cs, w, L, vs, o, h, k, hk, hl, hc => by
    simp only [List.all_cons, Bool.and_eq_true] at hc
    simp only [List.length_cons] at hl
    have h1 := h.set k hk o (by omega) c hc.1
    have hk1 : (L.set k (g, vs.set o c))[k]? = some (g, vs.set o c) := List.getElem?_set_self (List.getElem?_eq_some_iff.1 hk).1
    have h2 := St.sets cs _ _ (vs.set o c) (o + 1) h1 k hk1 (by rw [List.length_set]; omega) hc.2
    rw [List.set_set] at h2
    exact h2
/-! Rows of the call's own. -/
theorem Blk.grown {g : Nat} {vs : List Value} (h : Blk w g vs) {row : Option Nat} (hg : w.grownBy w' row) (hne : some g ≠ row) : Blk w' g vs := by
  have e := hg.block g h.lt hne
  exact ⟨Nat.lt_of_lt_of_le h.lt hg.size, fun i v hv => (World.cell?_of_block (w := w) (a := ⟨g, i, none⟩) e).trans (h.cell i v hv), fun i => (World.frozen?_of_block (w := w) (a := ⟨g, i, none⟩) e).trans (h.froz i), h.no⟩
theorem othersO {k : Nat} {o u p : Option Addr × Nat × List Nat} (h : O.Pairwise (fun p q => Apart p.1 q.1)) (hk : O[k]? = some o) (hp : p ∈ O.set k u) : p = u ∨ (p ∈ O ∧ Apart o.1 p.1) := by
  obtain ⟨i, hi⟩ := List.mem_iff_getElem?.1 hp
  by_cases e : k = i
  · subst e
    rw [List.getElem?_set_self (List.getElem?_eq_some_iff.1 hk).1] at hi
    exact .inl (Option.some.inj hi).symm
  · rw [List.getElem?_set_ne e] at hi
    refine .inr ⟨List.mem_of_getElem? hi, ?_⟩
    have h1 := List.pairwise_iff_getElem.1 h
    obtain ⟨hk1, hk2⟩ := List.getElem?_eq_some_iff.1 hk
    obtain ⟨hi1, hi2⟩ := List.getElem?_eq_some_iff.1 hi
    rcases Nat.lt_or_gt_of_ne e with hlt | hlt
    · have := h1 k i hk1 hi1 hlt
      rw [hk2, hi2] at this
      exact this
    · have := h1 i k hi1 hk1 hlt
      rw [hk2, hi2] at this
      exact fun a b ha hb e => this b a hb ha e.symm
/-- One row is changed, or lies anew in a block that is made now; all else stays. -/
theorem St.turn (h : St w0 w L R O) (k : Nat) {ao : Option Addr} {c : Nat} {l : List Nat} (hk : O[k]? = some (ao, c, l)) {bo : Option Addr} {c' : Nat} {l' : List Nat} (hg : w.grownBy w' (Value.slice ao l.length c).ownBlock) (ho : Own w0.heap.size w' bo c' l') (hat : ∀ b, bo = some b → (∃ a, ao = some a ∧ a.block = b.block) ∨ b.block = w.heap.size) :
    St w0 w' L R (O.set k (bo, c', l')) := by
  have hm := List.mem_of_getElem? hk
  have hrow := h.rows _ hm
  have blk : ∀ a, ao = some a → (Value.slice ao l.length c).ownBlock = some a.block := fun a ha => by rw [ha]; rfl
  have far : ∀ g, Off ao g → some g ≠ (Value.slice ao l.length c).ownBlock := fun g hg e => by
    cases hao : ao with
    | none => rw [hao] at e; simp [Value.ownBlock] at e
    | some a => rw [blk a hao] at e; exact hg a hao (by simpa using e.symm)
  -- what lies off the old row and is there lies off the new one
  have off : ∀ g, Off ao g → g < w.heap.size → Off bo g := fun g hg hlt b hb e => by
    rcases hat b hb with ⟨a, ha, e1⟩ | e1
    · exact hg a ha (e1.trans e)
    · omega
  refine ⟨h.bel.grown hg h.bel.size (fun j hj => ?_), fun p hp => ⟨(h.own p hp).1, (h.own p hp).2.grown hg (far _ (h.sepL _ hm p hp))⟩, h.dis, fun r hr => ?_, fun o hO => ?_, ?_, fun o hO p hp => ?_, fun o hO r hr hne => ?_⟩
  · cases hao : ao with
    | none => rw [hao] at hj; simp [Value.ownBlock] at hj
    | some a => rw [blk a hao] at hj; cases hj; exact (hrow.lt a hao).1
  · by_cases hne : r.2 = []
    · rw [hne]; exact Rd.nil _ _
    · exact (h.rds r hr).grown hg (fun a ha => far _ (fun x hx e => h.sepR _ hm r hr hne x a hx ha e))
  · rcases othersO h.sepO hk hO with rfl | ⟨hO, hap⟩
    · exact ho
    · exact (h.rows o hO).kept hg (fun a ha => far _ (fun x hx e => hap x a hx ha e))
  · have key : ∀ o ∈ O, Apart ao o.1 → Apart bo o.1 := fun o hO hap b x hb hx e => off x.block (fun y hy ey => hap y x hy hx ey) ((h.rows o hO).lt x hx).2 b hb e
    rw [List.pairwise_iff_getElem]
    intro i j hi hj hij
    have hi' : i < O.length := by simpa using hi
    have hj' : j < O.length := by simpa using hj
    have h1 := List.pairwise_iff_getElem.1 h.sepO
    obtain ⟨hk1, hk2⟩ := List.getElem?_eq_some_iff.1 hk
    rw [List.getElem_set, List.getElem_set]
    by_cases e1 : k = i
    · subst e1
      rw [if_pos rfl, if_neg (by omega)]
      have := h1 k j hi' hj' hij
      rw [hk2] at this
      exact key _ (List.getElem_mem hj') this
    · rw [if_neg e1]
      by_cases e2 : k = j
      · subst e2
        rw [if_pos rfl]
        have := h1 i k hi' hj' hij
        rw [hk2] at this
        exact fun x b hx hb e => key _ (List.getElem_mem hi') (fun p q hp hq e => this q p hq hp e.symm) b x hb hx e.symm
      · rw [if_neg e2]
        exact h1 i j hi' hj' hij
  · rcases othersO h.sepO hk hO with rfl | ⟨hO, _⟩
    · exact off _ (h.sepL _ hm p hp) (h.lt p hp)
    · exact h.sepL o hO p hp
  · rcases othersO h.sepO hk hO with rfl | ⟨hO, _⟩
    · intro b x hb hx e
      obtain ⟨bb, of_, e1, hlt, _⟩ := (h.rds r hr).pos hne
      rw [e1] at hx
      cases hx
      exact off bb (fun y hy ey => h.sepR _ hm r hr hne y ⟨bb, of_, none⟩ hy e1 ey) hlt b hb e
    · exact h.sepR o hO r hr hne
theorem St.setRow (h : St w0 w L R O) (k : Nat) {g c : Nat} {l : List Nat} (hk : O[k]? = some (some ⟨g, 0, none⟩, c, l)) (j d : Nat) (hd : d < 4294967296) : St w0 (w.setCell ⟨g, j, none⟩ (.int .u32 ((d : Nat) : Int))) L R (O.set k (some ⟨g, 0, none⟩, c, l.set j d)) :=
  h.turn k hk (by exact grown_set w g j _) ((h.row k hk).set j d hd) (fun b hb => by cases hb; exact .inl ⟨_, rfl, rfl⟩)
/-! ### The types -/
/-- A struct type of n cells. -/
structure IsS (P : Program) (t : TypeId) (n : Nat) : Prop where
  und : ∃ fs, P.underlying t = some (.struct fs)
  size : (P.info? t).map (·.size) = some n
theorem info_size {P : Program} {t : TypeId} {n : Nat} (h : (P.info? t).map (·.size) = some n) : ∃ i, P.info? t = some i ∧ i.size = n := by
  cases hi : P.info? t with
  | none => rw [hi] at h; cases h
  | some i => rw [hi] at h; exact ⟨i, rfl, by simpa using h⟩
/-- A type of one cell. -/
structure Is1 (P : Program) (t : TypeId) : Prop where
  und : ∃ d, P.underlying t = some d ∧ (match d with | .struct _ | .array _ _ => false | _ => true) = true
  size : (P.info? t).map (·.size) = some 1
/-- Field f of a struct type lies at this cell. -/
def FieldAt (P : Program) (s : TypeId) (f off : Nat) : Prop := ∃ fs fld, P.underlying s = some (.struct fs) ∧ fs[f]? = some fld ∧ fld.offset = off ∧ (P.info? fld.type).map (fun i => Nat.beq i.size 0) = some false

variable {P : Program}
theorem addr_add (g o j : Nat) : (⟨g, o, none⟩ : Addr).add j = ⟨g, o + j, none⟩ := by unfold Addr.add; split <;> simp_all
theorem run_loadS {t : TypeId} {n : Nat} (ht : IsS P t n) {g o : Nat} (cs : List Value) (hl : cs.length = n) (hc : ∀ j v, cs[j]? = some v → w.cell? ⟨g, o + j, none⟩ = some v) : (loadVar t ⟨g, o, none⟩).run P w = .ok (.agg cs.toArray) w := by
  obtain ⟨fs, hu⟩ := ht.und
  obtain ⟨i, hi, hn⟩ := info_size ht.size
  have h1 : (isAgg t).run P w = .ok true w := by simp [isAgg, run_underlying hu]
  have h2 : (sizeOf t).run P w = .ok cs.length w := by simp [sizeOf, typeInfo, hi, hn, hl]
  have h3 := run_loadCells_list (P := P) w ⟨g, o, none⟩ cs (fun j v hj => by rw [addr_add]; exact hc j v hj)
  simp only [loadVar, Sem.run_bind, h1, Result.andThen_ok, if_true, h2, h3, Sem.run_pure]
theorem run_load1 {t : TypeId} (ht : Is1 P t) {a : Addr} {v : Value} (hc : w.cell? a = some v) : (loadVar t a).run P w = .ok v w := by
  obtain ⟨d, hu, hd⟩ := ht.und
  have h1 : (isAgg t).run P w = .ok false w := by
    cases d <;> first | (simp at hd; done) | simp [isAgg, run_underlying hu]
  simp only [loadVar, Sem.run_bind, h1, Result.andThen_ok, if_false, Bool.false_eq_true]
  simp [hc]

variable {l : List (Nat × Value)} {dst : Option Tmp} {ty : TypeId} {pos : String} {after : Array Edge} {guard : Option (Nat × Bool)} {v : Value}
theorem does_move {x : Operand} (hx : ev l x = some v) : Does P l ⟨dst, .move x, ty, pos, after, guard⟩ w v w := fun ρ h => by
  simp only [execOp, h x v hx]; rfl
theorem does_assign {x : Operand} (hx : ev l x = some v) : Does P l ⟨dst, .assign x, ty, pos, after, guard⟩ w v w := fun ρ h => by
  simp only [execOp, h x v hx]; rfl
theorem does_pick {c x y : Operand} {b : Bool} {u u' : Value} (hc : ev l c = some (.bool b)) (hx : ev l x = some u) (hy : ev l y = some u') (hv : v = cond b u u') : Does P l ⟨dst, .pick c x y, ty, pos, after, guard⟩ w v w := fun ρ h => by
  subst hv
  simp only [execOp, h c _ hc, h x _ hx, h y _ hy]
  cases b <;> rfl
theorem does_extract {x : Operand} {vs : List Value} {i : Nat} (hx : ev l x = some (.tuple vs.toArray)) (hi : vs[i]? = some v) : Does P l ⟨dst, .extract x i, ty, pos, after, guard⟩ w v w := fun ρ h => by
  simp only [execOp, h x _ hx, Instr.extract, List.getElem?_toArray, hi]; rfl
theorem does_load {t : TypeId} {x : Operand} {a : Addr} (hx : ev l x = some (.pointer (some a))) (hr : (loadVar t a).run P w = .ok v w) : Does P l ⟨dst, .load t x, ty, pos, after, guard⟩ w v w := fun ρ h => by
  simp only [execOp, h x _ hx, Instr.loadAt, Instr.sureAddr, Sem.run_bind, Sem.run_pure, Result.andThen_ok, hr]
/-- A struct out of a block of the call's own. -/
theorem does_loadS (hS : St w0 w L R O) {t : TypeId} {n : Nat} (ht : IsS P t n) {x : Operand} {g o : Nat} (hx : ev l x = some (.pointer (some ⟨g, o, none⟩))) (k : Nat) {vs cs : List Value} (hk : L[k]? = some (g, vs)) (hcs : (vs.drop o).take n = cs) (hl : cs.length = n) :
    Does P l ⟨dst, .load t x, ty, pos, after, guard⟩ w (.agg cs.toArray) w :=
  does_load hx (run_loadS ht cs hl (fun j v hj => hS.cell k hk (o + j) (by
    have hjn : j < n := by rw [← hl]; exact (List.getElem?_eq_some_iff.1 hj).1
    rw [← hcs, List.getElem?_take, if_pos hjn, List.getElem?_drop] at hj
    exact hj)))
theorem does_load1 (hS : St w0 w L R O) {t : TypeId} (ht : Is1 P t) {x : Operand} {g o : Nat} (hx : ev l x = some (.pointer (some ⟨g, o, none⟩))) (k : Nat) {vs : List Value} (hk : L[k]? = some (g, vs)) (hv : vs[o]? = some v) :
    Does P l ⟨dst, .load t x, ty, pos, after, guard⟩ w v w := does_load hx (run_load1 ht (hS.cell k hk o hv))
/-- .. out of a block that was there before the call. -/
theorem does_loadSF (hS : St w0 w L R O) {g : Nat} {vs : List Value} (hF : Blk w0 g vs) {t : TypeId} {n : Nat} (ht : IsS P t n) {x : Operand} {o : Nat} (hx : ev l x = some (.pointer (some ⟨g, o, none⟩))) {cs : List Value} (hcs : (vs.drop o).take n = cs) (hl : cs.length = n) :
    Does P l ⟨dst, .load t x, ty, pos, after, guard⟩ w (.agg cs.toArray) w :=
  does_load hx (run_loadS ht cs hl (fun j v hj => (hF.below hS.bel).cell (o + j) v (by
    have hjn : j < n := by rw [← hl]; exact (List.getElem?_eq_some_iff.1 hj).1
    rw [← hcs, List.getElem?_take, if_pos hjn, List.getElem?_drop] at hj
    exact hj)))
theorem Rd.addr {so : Option Addr} {l : List Nat} {i : Nat} (h : Rd w so l) (hi : i < l.length) : ∃ b off, so = some ⟨b, off, none⟩ := by
  obtain ⟨b, off, h1, _⟩ := h.pos (fun e => by rw [e] at hi; simp at hi)
  exact ⟨b, off, h1⟩
theorem Rd.at_ {so : Option Addr} {l : List Nat} {i b off : Nat} (h : Rd w so l) (hso : so = some ⟨b, off, none⟩) (hi : i < l.length) : w.cell? ⟨b, off + i, none⟩ = some (.int .u32 ((l.getD i 0 : Nat) : Int)) := by
  obtain ⟨b', off', h1, _, h3⟩ := h.pos (fun e => by rw [e] at hi; simp at hi)
  rw [hso] at h1
  cases h1
  exact h3 i hi
theorem does_loadRow {so : Option Addr} {us : List Nat} {i b off : Nat} (h : Rd w so us) (hso : so = some ⟨b, off, none⟩) (hi : i < us.length) {t : TypeId} (ht : Is1 P t) {x : Operand} (hx : ev l x = some (.pointer (some ⟨b, off + i, none⟩))) :
    Does P l ⟨dst, .load t x, ty, pos, after, guard⟩ w (.int .u32 ((us.getD i 0 : Nat) : Int)) w := does_load hx (run_load1 ht (h.at_ hso hi))
theorem does_field {s : TypeId} {x : Operand} {f g o off o' : Nat} (hf : FieldAt P s f off) (hx : ev l x = some (.pointer (some ⟨g, o, none⟩))) (ho : o + off = o') : Does P l ⟨dst, .fieldAddr s x f, ty, pos, after, guard⟩ w (.pointer (some ⟨g, o', none⟩)) w := fun ρ h => by
  obtain ⟨fs, fld, hu, hff, hoff, hm⟩ := hf
  obtain ⟨i, hi, hz⟩ : ∃ i, P.info? fld.type = some i ∧ i.size ≠ 0 := by
    cases hi : P.info? fld.type with
    | none => rw [hi] at hm; cases hm
    | some i =>
      rw [hi] at hm
      refine ⟨i, rfl, fun e => ?_⟩
      simp [e] at hm
  subst ho
  have h2 : (sizeOf fld.type).run P w = .ok i.size w := by simp [sizeOf, typeInfo, hi]
  simp only [execOp, h x _ hx, Instr.fieldAt, Sem.run_bind, run_underlying hu, Result.andThen_ok, hff, Instr.sureAddr, Sem.run_pure, fieldPlace, h2, if_neg hz, addr_add, hoff]
theorem does_box {t : TypeId} {x : Operand} {u : Value} (hx : ev l x = some u) {vs : List Value} (hc : u.cells = vs.toArray) : Does P l ⟨dst, .box t x, ty, pos, after, guard⟩ w (.pointer (some ⟨w.heap.size, 0, none⟩)) (w.alloc (.cells vs.toArray t)) := fun ρ h => by
  simp only [execOp, h x _ hx, ← hc]; rfl
theorem does_alloc {t : TypeId} {z : Value} (hz : (P.info? t).map (·.zero) = some (some z)) {vs : List Value} (hc : z.cells = vs.toArray) : Does P l ⟨dst, .alloc t, ty, pos, after, guard⟩ w (.pointer (some ⟨w.heap.size, 0, none⟩)) (w.alloc (.cells vs.toArray t)) := fun ρ h => by
  cases hi : P.info? t with
  | none => rw [hi] at hz; cases hz
  | some i =>
    rw [hi] at hz
    simp only [Option.map_some, Option.some.injEq] at hz
    have h1 : (zeroValue t).run P w = .ok z w := by simp [zeroValue, typeInfo, hi, hz]
    simp only [execOp, Instr.alloc, Sem.run_bind, h1, Result.andThen_ok, ← hc]
    rfl
theorem does_build {t : TypeId} {parts : List (Nat × Operand)} {pv : List (Nat × Value)} (hp : evp l parts = some pv) (hb : ∀ w, (Instr.build t pv.toArray).run P w = .ok v w) : Does P l ⟨dst, .build t parts.toArray, ty, pos, after, guard⟩ w v w := fun ρ h => by
  have e : parts.toArray.map (fun p => (p.1, ρ p.2)) = pv.toArray := by
    simp only [List.map_toArray]
    congr 1
    have : ∀ (xs : List (Nat × Operand)) (vs : List (Nat × Value)), evp l xs = some vs → xs.map (fun p => (p.1, ρ p.2)) = vs := by
      intro xs
      induction xs with
      | nil => intro vs hx; simp [evp] at hx; simp [hx]
      | cons x xs ih =>
        intro vs hx
        obtain ⟨i, x⟩ := x
        unfold evp at hx
        split at hx
        · rename_i v us h1 h2
          cases hx
          simp [h _ _ h1, ih _ h2]
        · cases hx
    exact this parts pv hp
  have e' : (parts.toArray.map fun (i, x) => (i, ρ x)) = pv.toArray := e
  simp only [execOp, e', Sem.run_bind, hb w, Result.andThen_ok, Sem.run_pure]
theorem does_buildSlice {t : TypeId} {n : Nat} {parts : List (Nat × Operand)} {pv : List (Nat × Value)} (hp : evp l parts = some pv) {w' : World} (hb : (Instr.buildSlice t n pv.toArray).run P w = .ok v w') : Does P l ⟨dst, .buildSlice t n parts.toArray, ty, pos, after, guard⟩ w v w' := fun ρ h => by
  have e : parts.toArray.map (fun p => (p.1, ρ p.2)) = pv.toArray := by
    simp only [List.map_toArray]
    congr 1
    have : ∀ (xs : List (Nat × Operand)) (vs : List (Nat × Value)), evp l xs = some vs → xs.map (fun p => (p.1, ρ p.2)) = vs := by
      intro xs
      induction xs with
      | nil => intro vs hx; simp [evp] at hx; simp [hx]
      | cons x xs ih =>
        intro vs hx
        obtain ⟨i, x⟩ := x
        unfold evp at hx
        split at hx
        · rename_i v us h1 h2
          cases hx
          simp [h _ _ h1, ih _ h2]
        · cases hx
    exact this parts pv hp
  have e' : (parts.toArray.map fun (i, x) => (i, ρ x)) = pv.toArray := e
  simp only [execOp, e', Sem.run_bind, hb, Result.andThen_ok, Sem.run_pure]
theorem does_len {x : Operand} {t e : TypeId} {so : Option Addr} {n c : Nat} (hu : P.underlying t = some (.slice e)) (hx : ev l x = some (.slice so n c)) : Does P l ⟨dst, .call ⟨.builtin .len, #[x], #[t]⟩, ty, pos, after, guard⟩ w (.int .i64 n) w := fun ρ h => by
  have := h x _ hx
  simp [go_sem, this, Builtin.len_, run_underlying hu, goInt]
theorem does_bin {b : BinOp} {t t' : TypeId} {x y : Operand} {u u' : Value} (hx : ev l x = some u) (hy : ev l y = some u') (hr : ∀ w, (do eqGuard b t x y u u'; binOp b t u u' : Sem Value).run P w = .ok v w) : Does P l ⟨dst, .binOp b t x y t', ty, pos, after, guard⟩ w v w := fun ρ h => by
  simp only [execOp, h x _ hx, h y _ hy]
  rw [Sem.run_bind, hr w]
  rfl
theorem does_un {b : UnOp} {t : TypeId} {x : Operand} {u : Value} (hx : ev l x = some u) (hr : ∀ w, (Op.unary b u).run P w = .ok v w) : Does P l ⟨dst, .unOp b t x, ty, pos, after, guard⟩ w v w := fun ρ h => by
  simp only [execOp, h x _ hx, Sem.run_bind, hr w, Result.andThen_ok, Sem.run_pure]
theorem sets_store {t : TypeId} {x y : Operand} {g o : Nat} {u : Value} {cs : List Value} (hx : ev l x = some (.pointer (some ⟨g, o, none⟩))) (hy : ev l y = some u) (hc : u.cells = cs.toArray) (hn : (P.info? t).map (·.size) = some cs.length)
    (hS : St w0 w L R O) (k : Nat) {vs : List Value} (hk : L[k]? = some (g, vs)) (hl : Nat.ble (o + cs.length) vs.length = true) (h1 : cs.all Value.oneCell' = true) : Sets P l ⟨dst, .store t x y, ty, pos, after, guard⟩ w (w.setCells g o cs) := fun ρ h => by
  obtain ⟨i, hi, hsz⟩ := info_size hn
  have hl' : o + cs.length ≤ vs.length := Nat.le_of_ble_eq_true hl
  have hb := (hS.own _ (List.mem_of_getElem? hk)).2
  have h2 : (sizeOf t).run P w = .ok cs.length w := by simp [sizeOf, typeInfo, hi, hsz]
  have h3 := run_storeCells_cells (P := P) g o cs 0 w (fun j hj => by
      have hlt : o + 0 + j < vs.length := by omega
      rw [hb.cell (o + 0 + j) vs[o + 0 + j] (List.getElem?_eq_getElem hlt)]; rfl) (fun j hj => hb.froz _) (fun v hv => List.all_eq_true.1 h1 v hv)
  rw [Nat.add_zero] at h3
  have h4 : u.cells.toList = cs := by rw [hc]
  simp only [execOp, h x _ hx, h y _ hy, Instr.storeAt, Instr.sureAddr, Sem.run_bind, Sem.run_pure, Result.andThen_ok, storeVar, h2, hc, List.size_toArray, ne_eq, not_true_eq_false, if_false, List.toList_toArray, h3]
theorem enters_func {x : Operand} {f : FuncId} {args : List Operand} {ts : Array TypeId} {vs : List Value} (hx : ev l x = some (.func (.func f) #[] #[])) (ha : evs l args = some vs) (hf : ∀ w, (invoke (.fn (.func f) #[]) vs.toArray).run P w = .ok (.enter f vs.toArray) w) :
    Enters P l ⟨dst, .call ⟨.value x, args.toArray, ts⟩, ty, pos, after, guard⟩ w f vs := fun ρ h => by
  have e : args.map ρ = vs := by
    have : ∀ (xs : List Operand) (vs : List Value), evs l xs = some vs → xs.map ρ = vs := by
      intro xs
      induction xs with
      | nil => intro vs hx; simp [evs] at hx; simp [hx]
      | cons x xs ih =>
        intro vs hx
        unfold evs at hx
        split at hx
        · rename_i v us h1 h2
          cases hx
          simp [h _ _ h1, ih _ h2]
        · cases hx
    exact this args vs ha
  have := hf w
  simp [execOp, resolve, h x _ hx, Deferred.ofValue, e, this]

/-! ### Steps that make or change memory, the world behind them a letter -/
section
variable {ops : List Oper} {Q : Exit → Act → World → Prop} {a : Act} {n : Nat} {o : Oper} {rest : List Oper} {d : Nat}
theorem seq_new (hA : Sl a n l) (hS : St w0 w L R O) (hg : passes l ops o = true) (hdst : o.dst = some d) (hd : Nat.blt d n = true) {vs : List Value} {t : TypeId} (val : Nat → Value) (he : Does P l o w (val w.heap.size) (w.alloc (.cells vs.toArray t))) (hno : vs.all noWord = true)
    (hk : ∀ g w', St w0 w' ((g, vs) :: L) R O → ∀ a', Sl a' n ((d, val g) :: l) → wpList P ops.toArray Q rest a' w') : wpList P ops.toArray Q (o :: rest) a w :=
  seq_do hA hg hdst hd he (hk _ _ (hS.new vs t hno))
theorem seq_store (hA : Sl a n l) (hS : St w0 w L R O) (hg : passes l ops o = true) (hdst : o.dst = none) {g q : Nat} {cs vs us : List Value} (he : Sets P l o w (w.setCells g q cs)) (k : Nat) (hk0 : L[k]? = some (g, vs)) (hl : Nat.ble (q + cs.length) vs.length = true) (hno : cs.all noWord = true) (hus : over vs q cs = us)
    (hk : ∀ w', St w0 w' (L.set k (g, us)) R O → wpList P ops.toArray Q rest a w') : wpList P ops.toArray Q (o :: rest) a w :=
  seq_set hA hg hdst he (hk _ (by subst hus; exact St.sets cs w L vs q hS k hk0 (Nat.le_of_ble_eq_true hl) hno))
variable {S : World → Prop} {md : Region.Mode} {fuel : Nat} {listed : Array Bool}
theorem op_new (hA : Sl a n l) (hS : St w0 w L R O) (i : Nat) (hi : ops[i]? = some o) (hg : passes l ops o = true) (hdst : o.dst = some d) (hd : Nat.blt d n = true) {vs : List Value} {t : TypeId} (val : Nat → Value) (he : Does P l o w (val w.heap.size) (w.alloc (.cells vs.toArray t))) (hno : vs.all noWord = true)
    (hk : ∀ g w', St w0 w' ((g, vs) :: L) R O → S w' ∧ ∀ a', Sl a' n ((d, val g) :: l) → wpAnyH P md ops.toArray Q S fuel (listed.setIfInBounds i true) a' w') : wpOp P ops.toArray Q i (fun a' w' => S w' ∧ wpAnyH P md ops.toArray Q S fuel (listed.setIfInBounds i true) a' w') a w :=
  op_do hA i hi hg hdst hd he (hk _ _ (hS.new vs t hno)).1 (hk _ _ (hS.new vs t hno)).2
theorem op_store (hA : Sl a n l) (hS : St w0 w L R O) (i : Nat) (hi : ops[i]? = some o) (hg : passes l ops o = true) (hdst : o.dst = none) {g q : Nat} {cs vs us : List Value} (he : Sets P l o w (w.setCells g q cs)) (k : Nat) (hk0 : L[k]? = some (g, vs)) (hl : Nat.ble (q + cs.length) vs.length = true) (hno : cs.all noWord = true) (hus : over vs q cs = us)
    (hk : ∀ w', St w0 w' (L.set k (g, us)) R O → S w' ∧ wpAnyH P md ops.toArray Q S fuel (listed.setIfInBounds i true) a w') : wpOp P ops.toArray Q i (fun a' w' => S w' ∧ wpAnyH P md ops.toArray Q S fuel (listed.setIfInBounds i true) a' w') a w := by
  have h := hk _ (by subst hus; exact St.sets cs w L vs q hS k hk0 (Nat.le_of_ble_eq_true hl) hno)
  exact op_set hA i hi hg hdst he h.1 h.2
/-! Rows of the call's own: made, written, appended to. -/
/-- A region that draws its order. -/
theorem wp_draw {id : Nat} (hm : P.follows .mixedOrders = true) (h : wpAnyH P .any ops.toArray Q S ops.length (Array.replicate ops.length false) a w.drew) : (Code.region id ops.toArray true).wp P Q a w :=
  wp_region_held (S := S) hm (by simpa using h)
end
/-! ### The end -/
def resOf (P : Program) (l : List (Nat × Value)) (w : World) : ResultVar → Value → Prop
  | .tmp t, v => look l t = some v
  | .cell c t, v => ∃ p, look l c = some (.pointer (some p)) ∧ (loadVar t p).run P w = .ok v w
def AllRes (P : Program) (l : List (Nat × Value)) (w : World) : List ResultVar → List Value → Prop
  | [], [] => True
  | r :: rs, v :: vs => resOf P l w r v ∧ AllRes P l w rs vs
  | _, _ => False
theorem AllRes.nil : AllRes P l w [] [] := trivial
theorem AllRes.cons {r : ResultVar} {v : Value} {rs : List ResultVar} {vs : List Value} (h : resOf P l w r v) (t : AllRes P l w rs vs) : AllRes P l w (r :: rs) (v :: vs) := ⟨h, t⟩
section
variable {a : Act} {n : Nat} {fn : Func} {Z : Ending → World → Prop}
theorem res_tmp {t : Tmp} (h : look l t = some v) : resOf P l w (.tmp t) v := h
theorem res_cell (hS : St w0 w L R O) {c : Tmp} {t : TypeId} {m : Nat} (ht : IsS P t m) {g o : Nat} (hx : look l c = some (.pointer (some ⟨g, o, none⟩))) (k : Nat) {vs cs : List Value} (hk : L[k]? = some (g, vs)) (hcs : (vs.drop o).take m = cs) (hl : cs.length = m) : resOf P l w (.cell c t) (.agg cs.toArray) :=
  ⟨_, hx, run_loadS ht cs hl (fun j v hj => hS.cell k hk (o + j) (by
    have hjn : j < m := by rw [← hl]; exact (List.getElem?_eq_some_iff.1 hj).1
    rw [← hcs, List.getElem?_take, if_pos hjn, List.getElem?_drop] at hj
    exact hj))⟩
def resSem (tmps : Array Value) : ResultVar → Sem Value
  | .tmp t => pure (tmps.getD t undef)
  | .cell c t => do loadVar t (← asAddr (tmps.getD c undef))
def packed : List Value → Value
  | [x] => x
  | xs => .tuple xs.toArray
theorem Sl.res (hA : Sl a n l) {r : ResultVar} (h : resOf P l w r v) : (resSem a.tmps r).run P w = .ok v w := by
  cases r with
  | tmp t =>
    have := hA.holds t v h
    simp [resSem, Array.getD_eq_getD_getElem?, this]
  | cell c t =>
    obtain ⟨p, hp, hr⟩ := h
    have := hA.holds c _ hp
    simp [resSem, Array.getD_eq_getD_getElem?, this, asAddr, hr]
theorem results_list (hA : Sl a n l) : ∀ (rs : List ResultVar) (vs : List Value), AllRes P l w rs vs → Sem.run P (rs.mapM (resSem a.tmps)) w = .ok vs w
  | [], [], _ => by simp
  | [], _ :: _, h => h.elim
  | _ :: _, [], h => h.elim
  | r :: rs, v :: vs, h => by
    have e1 := hA.res h.1
    have e2 := results_list hA rs vs h.2
    simp only [List.mapM_cons, Sem.run_bind, e1, Result.andThen_ok, e2, Sem.run_pure]
/-- The function's end: what it answers. -/
theorem ends (hA : Sl a n l) {rs : List ResultVar} (hrs : fn.results = rs.toArray) {vs : List Value} (hvs : AllRes P l w rs vs) (hv : packed vs = v) (hz : Z (.returned v) w) : bodyPost P fn Z .ret a w := by
  refine ⟨hA.none_, v, ?_, hz⟩
  have e := results_list hA rs vs hvs
  subst hv
  have e' : results fn a.tmps = (do let us ← fn.results.mapM (resSem a.tmps); pure (if h : us.size = 1 then us[0] else .tuple us)) := by
    unfold results
    congr 1
  have e2 : Sem.run P (List.toArray <$> rs.mapM (resSem a.tmps)) w = .ok vs.toArray w := by
    show Sem.run P (rs.mapM (resSem a.tmps) >>= fun us => pure us.toArray) w = _
    rw [Sem.run_bind, e]
    rfl
  rw [e', hrs, List.mapM_toArray, Sem.run_bind, e2, Result.andThen_ok]
  match vs with
  | [] => simp [packed]
  | [x] => simp [packed]
  | x :: y :: r => simp [packed]
end
/-- A call, by a walk of its body from what its slots hold at the start. -/
theorem walk_of {f : FuncId} {fn : Func} {c : Code} {args : List Value} {n : Nat} {Z : Ending → World → Prop} (hf : P.funcs[f]? = some fn) (hb : fn.body = some c) (hn : fn.ntmps = n) (hl : Nat.ble args.length n = true) (hs : (args.zipIdx.map fun p => (p.2, p.1)) = l)
    (h : ∀ Q : Exit → Act → World → Prop, (∀ a w, bodyPost P fn Z .ret a w → Q .ret a w) → (∀ a w, bodyPost P fn Z .ret a w → Q .normal a w) → (∀ c a d v w, Q (.panic c) (Act.put a d v) w → Q (.panic c) a w) → ∀ a, Sl a n l → c.wp P Q a w) : Calls P f args.toArray w Z := by
  subst hs
  refine calls_of_wp hf hb (h _ (fun _ _ h => h) (fun _ _ h => h) (fun c a d v w h => ?_) _ ?_)
  · cases d <;> exact h
  · rw [hn]
    exact Sl.enter (Nat.le_of_ble_eq_true hl)
/-! ### Loops -/
section
variable {Q : Exit → Act → World → Prop} {a : Act} {c : Code}
theorem rounds_k {m : Nat} (h : ∀ K : Act → World → Prop, (∀ a w, Code.rounds P c Q m a w → K a w) → c.wp P (Exit.then K Q) a w) : Code.rounds P c Q (m + 1) a w := h _ (fun _ _ h => h)
theorem rounds_mono : ∀ n m, n ≤ m → ∀ a w, Code.rounds P c Q n a w → Code.rounds P c Q m a w
  | 0, _, _, _, _, h => h.elim
  | n + 1, 0, hl, _, _, _ => by omega
  | n + 1, m + 1, hl, a, w, h => Code.wp_mono (fun e a w q => by
      cases e <;> first | exact rounds_mono n m (by omega) _ _ q | exact q) h
/-- A loop, by a number that falls. -/
theorem wp_loop_n (I : Nat → Act → World → Prop) (N : Nat) (h0 : I N a w) (round : ∀ m a w, I m a w → ∀ K : Act → World → Prop, (∀ m' a' w', m' < m → I m' a' w' → K a' w') → c.wp P (Exit.then K Q) a w) : (Code.loop c).wp P Q a w := by
  have key : ∀ m a w, I m a w → Code.rounds P c Q (m + 1) a w := by
    intro m
    induction m using Nat.strongRecOn with
    | _ m ih =>
      intro a w h
      exact round m a w h _ (fun m' a' w' hm h' => rounds_mono (m' + 1) m (by omega) _ _ (ih m' hm a' w' h'))
  exact wp_loop_rounds (N + 1) (key N a w h0)
end
theorem does_indexI {t : TypeId} {x i : Operand} {u u' : Value} (hx : ev l x = some u) (hi : ev l i = some u') (hr : ∀ w, (Instr.indexAt t u u').run P w = .ok v w) : Does P l ⟨dst, .indexAddr t x i, ty, pos, after, guard⟩ w v w := fun ρ h => by
  simp only [execOp, h x _ hx, h i _ hi, Sem.run_bind, hr w, Result.andThen_ok, Sem.run_pure]
/-- The place of an element of a row of words. -/
theorem run_indexU {t e : TypeId} (hu : P.underlying t = some (.slice e)) (he : (P.info? e).map (·.size) = some 1) {g o n c k : Nat} (hk : k < n) : ∀ w, (Instr.indexAt t (.slice (some ⟨g, o, none⟩) n c) (.int .i64 (k : Nat))).run P w = .ok (.pointer (some ⟨g, o + k, none⟩)) w := fun w => by
  obtain ⟨i, hi, hs⟩ := info_size he
  have h2 : (sizeOf e).run P w = .ok 1 w := by simp [sizeOf, typeInfo, hi, hs]
  have h3 : (0 : Int) ≤ (k : Nat) ∧ ((k : Nat) : Int) < (n : Nat) := ⟨by omega, by omega⟩
  simp [Instr.indexAt, asIntOf, run_underlying hu, h2, h3, addr_add]
  intro h
  omega
theorem does_indexRow {t e : TypeId} (hu : P.underlying t = some (.slice e)) (he : (P.info? e).map (·.size) = some 1) {x i : Operand} {so : Option Addr} {b off n c k : Nat} {z : Int} (hx : ev l x = some (.slice so n c)) (hi : ev l i = some (.int .i64 z)) (hz : z = (k : Nat)) (hso : so = some ⟨b, off, none⟩) (hk : k < n) :
    Does P l ⟨dst, .indexAddr t x i, ty, pos, after, guard⟩ w (.pointer (some ⟨b, off + k, none⟩)) w := by
  subst hso hz
  exact does_indexI hx hi (run_indexU hu he hk)
theorem does_convert {s d : TypeId} {x : Operand} {u : Value} (hx : ev l x = some u) (hr : ∀ w, (convert s d u).run P w = .ok v w) : Does P l ⟨dst, .convert s d x, ty, pos, after, guard⟩ w v w := fun ρ h => by
  simp only [execOp, h x _ hx, Sem.run_bind, hr w, Result.andThen_ok, Sem.run_pure]
theorem does_builtin {b : Builtin} {xs : List Operand} {ts : Array TypeId} {vs : List Value} (hx : evs l xs = some vs) (hr : ∀ w cs, (builtin b ts ty cs vs.toArray).run P w = .ok (.value v) w) : Does P l ⟨dst, .call ⟨.builtin b, xs.toArray, ts⟩, ty, pos, after, guard⟩ w v w := fun ρ h => by
  have e : xs.map ρ = vs := by
    have : ∀ (xs : List Operand) (vs : List Value), evs l xs = some vs → xs.map ρ = vs := by
      intro xs
      induction xs with
      | nil => intro vs hx; simp [evs] at hx; simp [hx]
      | cons x xs ih =>
        intro vs hx
        unfold evs at hx
        split at hx
        · rename_i v us h1 h2
          cases hx
          simp [h _ _ h1, ih _ h2]
        · cases hx
    exact this xs vs hx
  rw [BigFrame.execOp_builtin]
  simp only [List.map_toArray, e, hr]

/-! ### Operators -/
section
variable {t : TypeId} {x y : Operand} {k : IntKind} {a b : Int}
theorem bin_lss : ∀ w, (do eqGuard .lss t x y (.int k a) (.int k b); binOp .lss t (.int k a) (.int k b) : Sem Value).run P w = .ok (.bool (decide (a < b))) w := fun w => by simp [go_sem]
theorem bin_leq : ∀ w, (do eqGuard .leq t x y (.int k a) (.int k b); binOp .leq t (.int k a) (.int k b) : Sem Value).run P w = .ok (.bool (decide (a ≤ b))) w := fun w => by simp [go_sem]
theorem bin_gtr : ∀ w, (do eqGuard .gtr t x y (.int k a) (.int k b); binOp .gtr t (.int k a) (.int k b) : Sem Value).run P w = .ok (.bool (decide (b < a))) w := fun w => by simp [go_sem]
theorem bin_geq : ∀ w, (do eqGuard .geq t x y (.int k a) (.int k b); binOp .geq t (.int k a) (.int k b) : Sem Value).run P w = .ok (.bool (decide (b ≤ a))) w := fun w => by simp [go_sem]
theorem bin_eql : ∀ w, (do eqGuard .eql t x y (.int k a) (.int k b); binOp .eql t (.int k a) (.int k b) : Sem Value).run P w = .ok (.bool (a == b)) w := fun w => by simp [go_sem]
theorem bin_neq : ∀ w, (do eqGuard .neq t x y (.int k a) (.int k b); binOp .neq t (.int k a) (.int k b) : Sem Value).run P w = .ok (.bool (a != b)) w := fun w => by simp [go_sem]
theorem i64In {a : Int} (h0 : -9223372036854775808 ≤ a) (h1 : a ≤ 9223372036854775807) : IntKind.i64.wrap a = a := IntWalk.i64_in a ⟨h0, h1⟩
theorem bin_add (h : k.wrap (a + b) = a + b) : ∀ w, (do eqGuard .add t x y (.int k a) (.int k b); binOp .add t (.int k a) (.int k b) : Sem Value).run P w = .ok (.int k (a + b)) w := fun w => by simp [go_sem, h]
theorem bin_sub (h : k.wrap (a - b) = a - b) : ∀ w, (do eqGuard .sub t x y (.int k a) (.int k b); binOp .sub t (.int k a) (.int k b) : Sem Value).run P w = .ok (.int k (a - b)) w := fun w => by simp [go_sem, h]
theorem un_neg (h : k.wrap (-a) = -a) : ∀ w, (Op.unary .neg (.int k a)).run P w = .ok (.int k (-a)) w := fun w => by simp [go_sem, h]
theorem bin_eqlB (hu : P.underlying t = some .bool) {c d : Bool} : ∀ w, (do eqGuard .eql t x y (.bool c) (.bool d); binOp .eql t (.bool c) (.bool d) : Sem Value).run P w = .ok (.bool (c == d)) w := fun w => by
  simp [go_sem, hu, run_underlying hu]
theorem bin_neqB (hu : P.underlying t = some .bool) {c d : Bool} : ∀ w, (do eqGuard .neq t x y (.bool c) (.bool d); binOp .neq t (.bool c) (.bool d) : Sem Value).run P w = .ok (.bool (!(c == d))) w := fun w => by
  simp [go_sem, hu, run_underlying hu]
theorem un_not {c : Bool} : ∀ w, (Op.unary .not (.bool c)).run P w = .ok (.bool (!c)) w := fun w => by simp [go_sem]
end
end
end Go.Proofs.YtbajcflbimmnhaaDoor
namespace Go.Proofs.YtbajcflbimmnhaaDoor
open Go.RowKit
set_option linter.unusedVariables false
set_option linter.unusedSimpArgs false

set_option maxHeartbeats 1000000 in
set_option maxRecDepth 1000000 in
theorem fits_any {w : World} {b : Bool} {to_ bo : Option Addr} {top bot : List Nat} (tc bc : Nat) (ht : Rd w to_ top) (hb : Rd w bo bot) (lt : top.length ≤ 9223372036854775807) (lb : bot.length ≤ 9223372036854775807) :
    Calls Tryd.prog 65 #[.agg #[.bool b, .slice to_ top.length tc, .slice bo bot.length bc]] w fun e w' => e = .returned (.bool (sound top && sound bot)) ∧ Below w.heap.size w w' := by
  obtain ⟨m, HM⟩ : ∃ n, Hid (top.length = n) := ⟨_, rfl⟩
  obtain ⟨n, HN⟩ : ∃ n, Hid (bot.length = n) := ⟨_, rfl⟩
  rw [HM.out, HN.out]
  have hal : Below w.heap.size w (w.alloc (.cells #[.bool b, .slice to_ m tc, .slice bo n bc] 25)) := (Below.refl _ _).alloc (Nat.le_refl _) _
  have c1 := sound_any tc (ht.below hal) lt
  have c2 := sound_any bc (hb.below hal) lb
  rw [HM.out] at c1
  rw [HN.out] at c2
  have HC1 : Hid _ := c1
  have HC2 : Hid _ := c2
  have HAL : Hid _ := hal
  obtain ⟨z, hz⟩ : ∃ z, sound top = z := ⟨_, rfl⟩
  rw [hz] at HC1 ⊢
  clear c1 c2 ht hb lt lb hz hal
  cases z with
  | false =>
    go_enter Tryd.func65, Tryd.ntmps65
    go_wp2_with fail
    refine Calls.mono HC1.out ?_
    rintro e w' ⟨rfl, hw'⟩
    have hw' := hw'.symm
    subst hw'
    go_wp2
    go_ret
    exact ⟨rfl, HAL.out⟩
  | true =>
    rw [Bool.true_and]
    go_enter Tryd.func65, Tryd.ntmps65
    go_wp2_with fail
    refine Calls.mono HC1.out ?_
    rintro e w' ⟨rfl, hw'⟩
    have hw' := hw'.symm
    subst hw'
    go_wp2_with fail
    refine Calls.mono HC2.out ?_
    rintro e w' ⟨rfl, hw'⟩
    have hw' := hw'.symm
    subst hw'
    go_wp2
    go_ret
    exact ⟨rfl, HAL.out⟩

set_option maxHeartbeats 1000000 in
set_option maxRecDepth 1000000 in
theorem isReal_any {w : World} {b1 b2 : Bool} {o1 o2 o3 o4 : Option Addr} {m1 m2 m3 m4 c1 c2 c3 c4 : Nat} (h : m3 ≤ 9223372036854775807) :
    Calls Tryd.prog 68 #[.agg #[.bool b1, .slice o1 m1 c1, .slice o2 m2 c2, .bool b2, .slice o3 m3 c3, .slice o4 m4 c4]] w fun e w' => e = .returned (.bool (decide (m3 = 0))) ∧ Below w.heap.size w w' := by
  have HAL : Hid (∀ o, Below w.heap.size w (w.alloc o)) := fun o => (Below.refl _ _).alloc (Nat.le_refl _) o
  by_cases hm : m3 = 0
  · subst hm
    go_enter Tryd.func68, Tryd.ntmps68
    go_wp2
    go_ret
    exact ⟨rfl, HAL.out _⟩
  · have e : decide (m3 = 0) = false := decide_eq_false hm
    rw [e]
    have hm1 : ((m3 : Int) == 0) = false := by simp; omega
    clear e
    go_enter Tryd.func68, Tryd.ntmps68
    go_wp2
    go_ret
    exact ⟨rfl, HAL.out _⟩

set_option maxHeartbeats 1000000 in
set_option maxRecDepth 1000000 in
theorem isZero_any {w : World} {b1 b2 : Bool} {o1 o2 o3 o4 : Option Addr} {m1 m2 m3 m4 c1 c2 c3 c4 : Nat} (h1 : m1 ≤ 9223372036854775807) (h : m3 ≤ 9223372036854775807) :
    Calls Tryd.prog 30 #[.agg #[.bool b1, .slice o1 m1 c1, .slice o2 m2 c2, .bool b2, .slice o3 m3 c3, .slice o4 m4 c4]] w fun e w' => e = .returned (.bool (decide (m1 = 0) && decide (m3 = 0))) ∧ Below w.heap.size w w' := by
  have HAL : Hid (∀ o, Below w.heap.size w (w.alloc o)) := fun o => (Below.refl _ _).alloc (Nat.le_refl _) o
  by_cases hm0 : m1 = 0
  · subst hm0
    by_cases hm : m3 = 0
    · subst hm
      go_enter Tryd.func30, Tryd.ntmps30
      go_wp2
      go_ret
      exact ⟨rfl, HAL.out _⟩
    · have e : decide (m3 = 0) = false := decide_eq_false hm
      rw [e]
      have hm1 : ((m3 : Int) == 0) = false := by simp; omega
      clear e
      go_enter Tryd.func30, Tryd.ntmps30
      go_wp2
      go_ret
      exact ⟨rfl, HAL.out _⟩
  · have e : decide (m1 = 0) = false := decide_eq_false hm0
    rw [e, Bool.false_and]
    have hm1 : ((m1 : Int) == 0) = false := by simp; omega
    clear e
    go_enter Tryd.func30, Tryd.ntmps30
    go_wp2
    go_ret
    exact ⟨rfl, HAL.out _⟩
end Go.Proofs.YtbajcflbimmnhaaDoor
namespace Go.Proofs.YtbajcflbimmnhaaDoor
open Go.RowKit
set_option linter.unusedVariables false
set_option linter.unusedSimpArgs false

theorem below_eq {w w' : World} (h : w' = w) : Below w.heap.size w w' := h ▸ Below.refl _ _
/-- A slice of words: what it reads as; room only where there is memory. -/
structure Sc (w : World) (o : Option Addr) (c : Nat) (l : List Nat) : Prop where
  rd : Rd w o l
  nil : o = none → c = 0
  cap : l.length ≤ c
theorem Sc.below {w w' : World} {o : Option Addr} {c : Nat} {l : List Nat} (h : Sc w o c l) (hb : Below w.heap.size w w') : Sc w' o c l := ⟨h.rd.below hb, h.nil, h.cap⟩
theorem Own.sc {B : Nat} {w : World} {o : Option Addr} {c : Nat} {l : List Nat} (h : Own B w o c l) : Sc w o c l := ⟨h.rd, h.nocap, h.caps⟩
theorem Sc.none (w : World) : Sc w none 0 [] := ⟨Rd.nil _ _, fun _ => rfl, Nat.le_refl _⟩
/-- A number of two fractions: its signs, tops and bottoms. -/
structure Q6 where
  b1 : Bool
  t1 : List Nat
  q1 : List Nat
  b2 : Bool
  t2 : List Nat
  q2 : List Nat
/-- The value of six cells: signs, and slices of so many words. -/
def numV (q : Q6) (o1 : Option Addr) (c1 : Nat) (o2 : Option Addr) (c2 : Nat) (o3 : Option Addr) (c3 : Nat) (o4 : Option Addr) (c4 : Nat) : Value :=
  .agg #[.bool q.b1, .slice o1 q.t1.length c1, .slice o2 q.q1.length c2, .bool q.b2, .slice o3 q.t2.length c3, .slice o4 q.q2.length c4]
structure Nm (w : World) (q : Q6) (o1 : Option Addr) (c1 : Nat) (o2 : Option Addr) (c2 : Nat) (o3 : Option Addr) (c3 : Nat) (o4 : Option Addr) (c4 : Nat) : Prop where
  s1 : Sc w o1 c1 q.t1
  s2 : Sc w o2 c2 q.q1
  s3 : Sc w o3 c3 q.t2
  s4 : Sc w o4 c4 q.q2
/-- The number without anything. -/
def Q6.zero : Q6 := ⟨false, [], [], false, [], []⟩
/-- A whole number of a sign and a size. -/
def Q6.whole (b : Bool) (x : Nat) : Q6 := ⟨b, words x, [1], false, [], [1]⟩
/-- A number and an error's number are answered. -/
def AnsN (w : World) (r : Q6 × Int) (e : Ending) (w' : World) : Prop := ∃ o1 c1 o2 c2 o3 c3 o4 c4, e = .returned (.tuple #[numV r.1 o1 c1 o2 c2 o3 c3 o4 c4, .int .i64 r.2]) ∧ Nm w' r.1 o1 c1 o2 c2 o3 c3 o4 c4 ∧ Below w.heap.size w w'
/-- A number is answered. -/
def AnsV (w : World) (q : Q6) (e : Ending) (w' : World) : Prop := ∃ o1 c1 o2 c2 o3 c3 o4 c4, e = .returned (numV q o1 c1 o2 c2 o3 c3 o4 c4) ∧ Nm w' q o1 c1 o2 c2 o3 c3 o4 c4 ∧ Below w.heap.size w w'
/-- A whole number, unless it is too long. -/
def bigS (b : Bool) (z : Nat) : Q6 × Int := if (words z).length ≤ 512 then (Q6.whole b z, 0) else (Q6.zero, 4)
theorem bigS_pos {b : Bool} {z : Nat} (h : (words z).length ≤ 512) : bigS b z = (Q6.whole b z, 0) := by unfold bigS; rw [if_pos h]
theorem bigS_neg {b : Bool} {z : Nat} (h : ¬ (words z).length ≤ 512) : bigS b z = (Q6.zero, 4) := by unfold bigS; rw [if_neg h]

theorem words_one : words 1 = [1] := by rw [words_pos (by omega)]; simp [words_zero]
theorem of_one (w : World) : Calls Tryd.prog 35 #[.int .u64 1] w (Row1 w [1]) := by
  have h := of_any 1 w (by omega)
  rw [words_one] at h
  exact h
theorem sound_of_words {x : Nat} (h : (words x).length ≤ 512) : sound (words x) = true := (sound_iff _).2 ⟨h, words_top x⟩
theorem sub_words {w : World} {ao bo : Option Addr} {x y : Nat} (ca cb : Nat) (ha : Rd w ao (words x)) (hb : Rd w bo (words y)) (hx : (words x).length ≤ 512) (hy : y ≤ x) :
    Calls Tryd.prog 105 #[.slice ao (words x).length ca, .slice bo (words y).length cb] w fun e w' => ∃ ro rc, e = .returned (.tuple #[.slice ro (words (x - y)).length rc, .int .i64 0]) ∧ Own w.heap.size w' ro rc (words (x - y)) ∧ Below w.heap.size w w' := by
  have hl := words_mono hy
  have h := sub_any ca cb ha hb (by omega) (by omega)
  have e : subS (words x) (words y) = (words (x - y), 0) := by
    unfold subS
    simp only [sound_of_words hx, sound_of_words (Nat.le_trans hl hx), val_words, Bool.and_self, if_true]
    rw [if_neg (by omega)]
  rw [e] at h
  exact h
theorem add_words {w : World} {ao bo : Option Addr} {x y : Nat} (ca cb : Nat) (ha : Rd w ao (words x)) (hb : Rd w bo (words y)) (hx : (words x).length ≤ 512) (hy : (words y).length ≤ 512) :
    Calls Tryd.prog 107 #[.slice ao (words x).length ca, .slice bo (words y).length cb] w (Ans w (fitS (x + y))) := by
  have h := add_any ca cb ha hb (by omega) (by omega)
  have e : addS (words x) (words y) = fitS (x + y) := by
    unfold addS
    simp only [sound_of_words hx, sound_of_words hy, val_words, Bool.and_self, if_true]
  rw [e] at h
  exact h
theorem add_fit {w : World} {ao bo : Option Addr} {x y : Nat} (ca cb : Nat) (ha : Rd w ao (words x)) (hb : Rd w bo (words y)) (hx : (words x).length ≤ 512) (hy : (words y).length ≤ 512) (h : (words (x + y)).length ≤ 512) :
    Calls Tryd.prog 107 #[.slice ao (words x).length ca, .slice bo (words y).length cb] w fun e w' => ∃ ro rc, e = .returned (.tuple #[.slice ro (words (x + y)).length rc, .int .i64 0]) ∧ Own w.heap.size w' ro rc (words (x + y)) ∧ Below w.heap.size w w' := by
  have := add_words ca cb ha hb hx hy
  unfold fitS at this
  rw [if_pos h] at this
  exact this
theorem add_big {w : World} {ao bo : Option Addr} {x y : Nat} (ca cb : Nat) (ha : Rd w ao (words x)) (hb : Rd w bo (words y)) (hx : (words x).length ≤ 512) (hy : (words y).length ≤ 512) (h : ¬ (words (x + y)).length ≤ 512) :
    Calls Tryd.prog 107 #[.slice ao (words x).length ca, .slice bo (words y).length cb] w fun e w' => ∃ ro rc, e = .returned (.tuple #[.slice ro 0 rc, .int .i64 4]) ∧ Own w.heap.size w' ro rc [] ∧ Below w.heap.size w w' := by
  have := add_words ca cb ha hb hx hy
  unfold fitS at this
  rw [if_neg h] at this
  exact this
theorem words_toNat (b : Bool) : (words b.toNat).length ≤ 1 := words_length_le (by cases b <;> decide)
end Go.Proofs.YtbajcflbimmnhaaDoor
namespace Go.Proofs.YtbajcflbimmnhaaDoor
open Go.RowKit
set_option linter.unusedVariables false
set_option linter.unusedSimpArgs false

/-- How long an argument's lists can be. -/
structure LenQ (q : Q6) : Prop where
  l1 : q.t1.length ≤ 9223372036854775807
  l2 : q.q1.length ≤ 9223372036854775807
  l3 : q.t2.length ≤ 9223372036854775807
  l4 : q.q2.length ≤ 9223372036854775807
def soundQ (q : Q6) : Bool := soundN q.b1 q.t1 q.q1 q.b2 q.t2 q.q2
def wholeQ (q : Q6) : Bool := soundQ q && (decide (q.t2.length = 0) && decide (q.q1 = [1]))
theorem soundQ_any {w : World} {q : Q6} {o1 o2 o3 o4 : Option Addr} {c1 c2 c3 c4 : Nat} (h : Nm w q o1 c1 o2 c2 o3 c3 o4 c4) (hl : LenQ q) {r : Bool} (hr : soundQ q = r) :
    Calls Tryd.prog 29 #[numV q o1 c1 o2 c2 o3 c3 o4 c4] w fun e w' => e = .returned (.bool r) ∧ Below w.heap.size w w' := by
  subst hr
  exact soundN_any c1 c2 c3 c4 h.s1.rd h.s2.rd h.s3.rd h.s4.rd hl.l1 hl.l2 hl.l3 hl.l4 h.s1.nil h.s2.nil h.s3.nil h.s4.nil
theorem isRealQ_any {w : World} {q : Q6} {o1 o2 o3 o4 : Option Addr} {c1 c2 c3 c4 : Nat} (hl : LenQ q) {r : Bool} (hr : decide (q.t2.length = 0) = r) :
    Calls Tryd.prog 68 #[numV q o1 c1 o2 c2 o3 c3 o4 c4] w fun e w' => e = .returned (.bool r) ∧ Below w.heap.size w w' := by
  subst hr
  exact isReal_any hl.l3
theorem isOneQ_any {w : World} {ao : Option Addr} {l : List Nat} (ca : Nat) (ha : Rd w ao l) (hl : l.length ≤ 9223372036854775807) {r : Bool} (hr : decide (l = [1]) = r) :
    Calls Tryd.prog 82 #[.slice ao l.length ca] w fun e w' => e = .returned (.bool r) ∧ w' = w := by
  subst hr
  exact isOne_any ca ha hl
/-- What is asked of numbers whose bits are wanted. -/
def want1 (q : Q6) : Int := if soundQ q = true then (if wholeQ q = true then 0 else 10) else 2
end Go.Proofs.YtbajcflbimmnhaaDoor
namespace Go.Proofs.YtbajcflbimmnhaaDoor
open Go.RowKit
set_option linter.unusedVariables false
set_option linter.unusedSimpArgs false

/-- z over d, in lowest terms. -/
def rb (z : Int) : Bool := decide (z < 0)
def rt (z : Int) (d : Nat) : Nat := z.natAbs / Nat.gcd z.natAbs d
def rq (z : Int) (d : Nat) : Nat := d / Nat.gcd z.natAbs d
def AnsF (w : World) (b : Bool) (t q : List Nat) (e : Ending) (w' : World) : Prop := ∃ o1 c1 o2 c2, e = .returned (.agg #[.bool b, .slice o1 t.length c1, .slice o2 q.length c2]) ∧ Sc w' o1 c1 t ∧ Sc w' o2 c2 q ∧ Below w.heap.size w w'
theorem gcd_ne {x d : Nat} (h : d ≠ 0) : Nat.gcd x d ≠ 0 := fun e => h (Nat.eq_zero_of_gcd_eq_zero_right e)
theorem div_len {x g k : Nat} (h : (words x).length ≤ k) : (words (x / g)).length ≤ k := Nat.le_trans (words_mono (Nat.div_le_self x g)) h
theorem gcd_len {x d k : Nat} (hd : d ≠ 0) (h : (words d).length ≤ k) : (words (Nat.gcd x d)).length ≤ k := Nat.le_trans (words_mono (Nat.gcd_le_right x (by omega))) h
theorem words_len_pos {x : Nat} : 0 < (words x).length ↔ x ≠ 0 := by
  rw [List.length_pos_iff]
  exact not_congr words_eq_nil
/-- A whole number of any sign is answered. -/
def AnsZ (w : World) (z : Int) (e : Ending) (w' : World) : Prop := ∃ o c, e = .returned (.agg #[.bool (rb z), .slice o (words z.natAbs).length c]) ∧ Sc w' o c (words z.natAbs) ∧ Below w.heap.size w w'
theorem AnsZ.sgn {w w' : World} {b b' : Bool} {n : Nat} {z : Int} {o : Option Addr} {c : Nat} (hz : sgn b n = z) (hb : rb (sgn b n) = b') (hs : Sc w' o c (words n)) (hbel : Below w.heap.size w w') : AnsZ w z (.returned (.agg #[.bool b', .slice o (words n).length c])) w' := by
  subst hz hb
  refine ⟨o, c, ?_, ?_, hbel⟩
  · rw [sgn_abs]
  · rw [sgn_abs]; exact hs
theorem sgn_rb (z : Int) : sgn (rb z) z.natAbs = z := by unfold sgn rb; by_cases h : z < 0 <;> simp [h] <;> omega
theorem zs_opp (z : Int) : sgn (!rb z) z.natAbs = -z := by unfold sgn rb; by_cases h : z < 0 <;> simp [h] <;> omega
theorem zs_add {x y : Int} (h : (rb x == rb y) = true) : sgn (rb x) (x.natAbs + y.natAbs) = x + y := by
  have h := eq_of_beq h
  unfold rb at *
  unfold sgn
  by_cases h1 : x < 0 <;> by_cases h2 : y < 0 <;> simp [h1, h2] at h ⊢ <;> omega
theorem zs_sub {x y : Int} (h : (rb x == rb y) = false) (hl : y.natAbs ≤ x.natAbs) : sgn (rb x) (x.natAbs - y.natAbs) = x + y := by
  have h := ne_of_beq_false h
  unfold rb at *
  unfold sgn
  by_cases h1 : x < 0 <;> by_cases h2 : y < 0 <;> simp [h1, h2] at h ⊢ <;> omega
theorem zs_times (x y : Int) : sgn (!(rb x == rb y)) (x.natAbs * y.natAbs) = x * y := by
  rw [← Int.natAbs_mul]
  have key : (!(rb x == rb y)) = rb (x * y) ∨ x * y = 0 := by
    unfold rb
    rcases Int.lt_trichotomy x 0 with h1 | h1 | h1
    · rcases Int.lt_trichotomy y 0 with h2 | h2 | h2
      · left; have := Int.mul_pos_of_neg_of_neg h1 h2; simp [h1, h2]; omega
      · right; rw [h2, Int.mul_zero]
      · left; have := Int.mul_neg_of_neg_of_pos h1 h2; simp [h1, this]; omega
    · right; rw [h1, Int.zero_mul]
    · rcases Int.lt_trichotomy y 0 with h2 | h2 | h2
      · left; have := Int.mul_neg_of_pos_of_neg h1 h2; simp [h2, this]; omega
      · right; rw [h2, Int.mul_zero]
      · left
        have h3 := Int.mul_pos h1 h2
        have a1 : ¬ x < 0 := by omega
        have a2 : ¬ y < 0 := by omega
        have a3 : ¬ x * y < 0 := by omega
        simp [a1, a2, a3]
  rcases key with h | h
  · rw [h]; exact sgn_rb _
  · rw [h]; simp [sgn]
theorem abs_mul_len {x y : Int} {k m : Nat} (hx : (words x.natAbs).length ≤ k) (hy : (words y.natAbs).length ≤ m) : (words (x * y).natAbs).length ≤ k + m := by rw [Int.natAbs_mul]; exact words_mul_length hx hy
theorem abs_add_len {x y : Int} {k : Nat} (hx : (words x.natAbs).length ≤ k) (hy : (words y.natAbs).length ≤ k) : (words (x + y).natAbs).length ≤ k + 1 := Nat.le_trans (words_mono (Int.natAbs_add_le x y)) (words_add_length hx hy)
/-- (x + y i) over d is answered. -/
def AnsR (w : World) (x y : Int) (d : Nat) (e : Ending) (w' : World) : Prop := ∃ o1 c1 o2 c2 o3 c3, e = .returned (.agg #[.bool (rb x), .slice o1 (words x.natAbs).length c1, .bool (rb y), .slice o2 (words y.natAbs).length c2, .slice o3 (words d).length c3]) ∧ Sc w' o1 c1 (words x.natAbs) ∧ Sc w' o2 c2 (words y.natAbs) ∧ Sc w' o3 c3 (words d) ∧ Below w.heap.size w w'
/-- .. in lowest terms, unless that is too long. -/
def setQ (x y : Int) (d : Nat) : Q6 × Int :=
  if (words (rt x d)).length ≤ 512 ∧ (words (rq x d)).length ≤ 512 ∧ (words (rt y d)).length ≤ 512 ∧ (words (rq y d)).length ≤ 512 then (⟨rb x, words (rt x d), words (rq x d), rb y, words (rt y d), words (rq y d)⟩, 0) else (Q6.zero, 4)
theorem sound_len (x : Nat) : sound (words x) = decide ((words x).length ≤ 512) := by
  by_cases h : (words x).length ≤ 512
  · rw [sound_of_words h, decide_eq_true h]
  · rw [decide_eq_false h]
    cases hs : sound (words x) with
    | false => rfl
    | true => exact absurd ((sound_iff _).1 hs).1 h
theorem fracS_words {b : Bool} {x y : Nat} (hx : (words x).length ≤ 512) (hy : (words y).length ≤ 512) : fracS b (words x) (words y) = (!(decide ((words y).length = 0) || (decide ((words x).length = 0) && b)) && decide (words (Nat.gcd x y) = [1])) := by
  unfold fracS gcdS
  simp only [sound_of_words hx, sound_of_words hy, val_words, Bool.and_self, if_true, decide_true, Bool.true_and]
end Go.Proofs.YtbajcflbimmnhaaDoor
namespace Go.Proofs.YtbajcflbimmnhaaDoor
open Go.RowKit
set_option linter.unusedVariables false
set_option linter.unusedSimpArgs false
set_option maxRecDepth 100000
theorem BiA_is1_23 : Is1 Tryd.prog 23 := ⟨⟨_, Tryd.underlying23, rfl⟩, by kernel_rfl⟩
theorem BiA_is1_4 : Is1 Tryd.prog 4 := ⟨⟨_, Tryd.underlying4, rfl⟩, by kernel_rfl⟩
theorem BiA_fld_25_0 : FieldAt Tryd.prog 25 0 0 := ⟨_, _, Tryd.underlying25, rfl, rfl, by kernel_rfl⟩
theorem BiA_fld_25_1 : FieldAt Tryd.prog 25 1 1 := ⟨_, _, Tryd.underlying25, rfl, rfl, by kernel_rfl⟩
theorem BiA_fld_25_2 : FieldAt Tryd.prog 25 2 2 := ⟨_, _, Tryd.underlying25, rfl, rfl, by kernel_rfl⟩
theorem BiA_fld_27_0 : FieldAt Tryd.prog 27 0 0 := ⟨_, _, Tryd.underlying27, rfl, rfl, by kernel_rfl⟩
theorem BiA_fld_99_0 : FieldAt Tryd.prog 99 0 0 := ⟨_, _, Tryd.underlying99, rfl, rfl, by kernel_rfl⟩
theorem BiA_fld_99_1 : FieldAt Tryd.prog 99 1 1 := ⟨_, _, Tryd.underlying99, rfl, rfl, by kernel_rfl⟩
theorem BiA_isS_27 : IsS Tryd.prog 27 6 := ⟨⟨_, Tryd.underlying27⟩, by kernel_rfl⟩
theorem BiA_isS_99 : IsS Tryd.prog 99 2 := ⟨⟨_, Tryd.underlying99⟩, by kernel_rfl⟩
theorem turnStep_any {w : World} (b : Bool) : Calls Tryd.prog 106 #[.bool b] w (Row1 w (words b.toNat)) := by
 cases b
 · have hS : St w w [] [] [] := St.start w
   refine walk_of (l := [(0, .bool false)]) Tryd.func106 rfl Tryd.ntmps106 rfl rfl ?_
   intro Q hret hnorm hP a hA
   refine wp_seq_k (fun K1 hK1 => ?_)
   refine wp_region_lit ?_
   refine seq_do hA rfl rfl rfl (does_assign rfl) ?_
   intro a hA
   refine seq_end ?_
   refine hK1 _ _ ?_
   refine wp_seq_k (fun K2 hK2 => ?_)
   refine wp_seq_k (fun K3 hK3 => ?_)
   refine wp_region_lit ?_
   refine seq_do hA rfl rfl rfl (does_move rfl) ?_
   intro a hA
   refine seq_end ?_
   refine hK3 _ _ ?_
   refine wp_cond_false (hA.ev rfl) ?_
   refine wp_skip ?_
   refine hK2 _ _ ?_
   refine wp_seq_k (fun K4 hK4 => ?_)
   refine wp_region_lit ?_
   refine seq_call hA rfl rfl rfl (enters_func  rfl rfl (fun w => by kernel_rfl)) (of_any 0 _ (by decide)) ?_
   rintro _ w9 ⟨ro5, rc6, rfl, ho7, hb8⟩
   replace hS := hS.call hb8
   replace hS := hS.addR ho7.rd
   refine ⟨_, rfl, ?_⟩
   intro a hA
   refine seq_do hA rfl rfl rfl (does_assign rfl) ?_
   intro a hA
   refine seq_end ?_
   refine hK4 _ _ ?_
   refine wp_ret ?_
   refine hret _ _ ?_
   refine ends (v := .slice ro5 ((words 0).length) rc6) hA rfl (.cons (res_tmp rfl) .nil) rfl ?_
   exact ⟨_, _, rfl, ho7, hS.bel⟩
 · have hS : St w w [] [] [] := St.start w
   refine walk_of (l := [(0, .bool true)]) Tryd.func106 rfl Tryd.ntmps106 rfl rfl ?_
   intro Q hret hnorm hP a hA
   refine wp_seq_k (fun K1 hK1 => ?_)
   refine wp_region_lit ?_
   refine seq_do hA rfl rfl rfl (does_assign rfl) ?_
   intro a hA
   refine seq_end ?_
   refine hK1 _ _ ?_
   refine wp_seq_k (fun K2 hK2 => ?_)
   refine wp_seq_k (fun K3 hK3 => ?_)
   refine wp_region_lit ?_
   refine seq_do hA rfl rfl rfl (does_move rfl) ?_
   intro a hA
   refine seq_end ?_
   refine hK3 _ _ ?_
   refine wp_cond_true (hA.ev rfl) ?_
   refine wp_seq_k (fun K4 hK4 => ?_)
   refine wp_region_lit ?_
   refine seq_call hA rfl rfl rfl (enters_func  rfl rfl (fun w => by kernel_rfl)) (of_any 1 _ (by decide)) ?_
   rintro _ w9 ⟨ro5, rc6, rfl, ho7, hb8⟩
   replace hS := hS.call hb8
   replace hS := hS.addR ho7.rd
   refine ⟨_, rfl, ?_⟩
   intro a hA
   refine seq_do hA rfl rfl rfl (does_assign rfl) ?_
   intro a hA
   refine seq_end ?_
   refine hK4 _ _ ?_
   refine wp_ret ?_
   refine hret _ _ ?_
   refine ends (v := .slice ro5 ((words 1).length) rc6) hA rfl (.cons (res_tmp rfl) .nil) rfl ?_
   exact ⟨_, _, rfl, ho7, hS.bel⟩
theorem rowOf_any {w : World} {b : Bool} {x : Nat} {a1 a2 a3 a4 : Option Addr} {ac1 ac2 ac3 ac4 : Nat} (ha : Nm w (Q6.whole b x) a1 ac1 a2 ac2 a3 ac3 a4 ac4) (hx : (words x).length ≤ 512) (hb : b.toNat ≤ x) :
    Calls Tryd.prog 76 #[numV (Q6.whole b x) a1 ac1 a2 ac2 a3 ac3 a4 ac4] w fun e w' => ∃ ro rc, e = .returned (.agg #[.bool b, .slice ro (words (x - b.toNat)).length rc]) ∧ Sc w' ro rc (words (x - b.toNat)) ∧ Below w.heap.size w w' := by
 have hS : St w w [] [(a4, [1]), (a3, []), (a2, [1]), (a1, words x)] [] := ((((St.start w).addR ha.s1.rd).addR ha.s2.rd).addR ha.s3.rd).addR ha.s4.rd
 refine walk_of (l := [(0, .agg #[.bool b, .slice a1 ((words x).length) ac1, .slice a2 1 ac2, .bool false, .slice a3 0 ac3, .slice a4 1 ac4])]) Tryd.func76 rfl Tryd.ntmps76 rfl rfl ?_
 intro Q hret hnorm hP a hA
 refine wp_seq_k (fun K1 hK1 => ?_)
 refine wp_region_lit ?_
 refine seq_new hA hS rfl rfl rfl (fun g => .pointer (some ⟨g, 0, none⟩)) (does_box rfl rfl) rfl ?_
 intro g2 w3 hS a hA
 refine seq_new (vs := [.bool false, .slice none 0 0]) (t := 99) hA hS rfl rfl rfl (fun g => .pointer (some ⟨g, 0, none⟩)) (does_alloc (z := .agg #[.bool false, .slice none 0 0]) (by kernel_rfl) rfl) rfl ?_
 intro g4 w5 hS a hA
 refine seq_end ?_
 refine hK1 _ _ ?_
 refine wp_seq_k (fun K6 hK6 => ?_)
 refine wp_draw (S := fun w1 => St w w1 [(g4, [.bool false, .slice none 0 0]), (g2, [.bool b, .slice a1 ((words x).length) ac1, .slice a2 1 ac2, .bool false, .slice a3 0 ac3, .slice a4 1 ac4])] [(a4, [1]), (a3, []), (a2, [1]), (a1, words x)] []) (by kernel_rfl) ?_
 replace hS := hS.drew
 refine any_tk (v := .pointer (some ⟨g2, 0, none⟩)) hA 0 rfl rfl rfl rfl hP hS (fun w1 hS => does_field BiA_fld_27_0 rfl rfl) ?_
 intro a hA
 refine any_tk (v := .pointer (some ⟨g2, 1, none⟩)) hA 1 rfl rfl rfl rfl hP hS (fun w1 hS => does_field BiA_fld_25_1 rfl rfl) ?_
 intro a hA
 refine any_tk hA 2 rfl rfl rfl rfl hP hS (fun w1 hS => does_load1 hS BiA_is1_23 rfl 1 rfl rfl) ?_
 intro a hA
 refine any_tk (v := .pointer (some ⟨g2, 0, none⟩)) hA 3 rfl rfl rfl rfl hP hS (fun w1 hS => does_field BiA_fld_27_0 rfl rfl) ?_
 intro a hA
 refine any_tk (v := .pointer (some ⟨g2, 0, none⟩)) hA 4 rfl rfl rfl rfl hP hS (fun w1 hS => does_field BiA_fld_25_0 rfl rfl) ?_
 intro a hA
 refine any_tk hA 5 rfl rfl rfl rfl hP hS (fun w1 hS => does_load1 hS BiA_is1_4 rfl 1 rfl rfl) ?_
 intro a hA
 refine any_one (by kernel_rfl) (op_call hA 6 rfl rfl rfl rfl (enters_func  rfl rfl (fun w => by kernel_rfl)) (turnStep_any b) ?_)
 rintro _ w11 ⟨ro7, rc8, rfl, ho9, hb10⟩
 replace hS := hS.call hb10
 replace hS := hS.addR ho9.rd
 refine ⟨_, rfl, (hS.partD (.refl _) 1 rfl (.refl _)), ?_⟩
 intro a hA
 refine any_one (by kernel_rfl) (op_call hA 7 rfl rfl rfl rfl (enters_func  rfl rfl (fun w => by kernel_rfl)) (sub_words (x := x) (y := b.toNat) ac1 rc8 (hS.rd 4 rfl) (hS.rd 0 rfl) hx hb) ?_)
 rintro _ w16 ⟨ro12, rc13, rfl, ho14, hb15⟩
 replace hS := hS.call hb15
 replace hS := hS.addR ho14.rd
 refine ⟨_, rfl, (hS.partD (.refl _) 2 rfl (.refl _)), ?_⟩
 intro a hA
 refine any_tk hA 8 rfl rfl rfl rfl hP (hS.partD (.refl _) 2 rfl (.refl _)) (fun w1 hS => does_move rfl) ?_
 intro a hA
 refine any_tk (v := .slice ro12 ((words (x - b.toNat)).length) rc13) hA 9 rfl rfl rfl rfl hP (hS.partD (.refl _) 2 rfl (.refl _)) (fun w1 hS => does_extract (vs := [.slice ro12 ((words (x - b.toNat)).length) rc13, .int .i64 0]) rfl rfl) ?_
 intro a hA
 refine any_tk (v := .int .i64 0) hA 10 rfl rfl rfl rfl hP (hS.partD (.refl _) 2 rfl (.refl _)) (fun w1 hS => does_extract (vs := [.slice ro12 ((words (x - b.toNat)).length) rc13, .int .i64 0]) rfl rfl) ?_
 intro a hA
 refine any_tk hA 11 rfl rfl rfl rfl hP (hS.partD (.refl _) 2 rfl (.refl _)) (fun w1 hS => does_assign rfl) ?_
 intro a hA
 refine any_tk hA 12 rfl rfl rfl rfl hP (hS.partD (.refl _) 2 rfl (.refl _)) (fun w1 hS => does_assign rfl) ?_
 intro a hA
 refine any_end (by kernel_rfl) ?_
 refine hK6 _ _ ?_
 refine wp_seq_k (fun K17 hK17 => ?_)
 refine wp_region_lit ?_
 refine seq_do (v := .pointer (some ⟨g2, 0, none⟩)) hA rfl rfl rfl (does_field BiA_fld_27_0 rfl rfl) ?_
 intro a hA
 refine seq_do (v := .pointer (some ⟨g2, 0, none⟩)) hA rfl rfl rfl (does_field BiA_fld_25_0 rfl rfl) ?_
 intro a hA
 refine seq_do hA rfl rfl rfl (does_load1 hS BiA_is1_4 rfl 1 rfl rfl) ?_
 intro a hA
 refine seq_do hA rfl rfl rfl (does_move rfl) ?_
 intro a hA
 refine seq_do (v := .agg #[.bool b, .slice ro12 ((words (x - b.toNat)).length) rc13]) hA rfl rfl rfl (does_build rfl (fun w => by kernel_rfl)) ?_
 intro a hA
 refine seq_store (us := [.bool b, .slice ro12 ((words (x - b.toNat)).length) rc13]) hA hS rfl rfl (sets_store rfl rfl rfl (by kernel_rfl) hS 0 rfl rfl rfl) 0 rfl rfl rfl rfl ?_
 intro w18 hS
 refine seq_end ?_
 refine hK17 _ _ ?_
 refine wp_ret ?_
 refine hret _ _ ?_
 refine ends (v := .agg #[.bool b, .slice ro12 ((words (x - b.toNat)).length) rc13]) hA rfl (.cons (res_cell hS BiA_isS_99 rfl 0 rfl (cs := [.bool b, .slice ro12 ((words (x - b.toNat)).length) rc13]) rfl rfl) .nil) rfl ?_
 exact ⟨_, _, rfl, ⟨(hS.rd 0 rfl), ho14.nocap, ho14.caps⟩, hS.bel⟩
theorem wholeV_any {w : World} (b : Bool) {so : Option Addr} {c : Nat} {x : Nat} (hs : Sc w so c (words x)) : Calls Tryd.prog 97 #[.bool b, .slice so (words x).length c] w (AnsV w (Q6.whole b x)) := by
 have hS : St w w [] [(so, words x)] [] := (St.start w).addR hs.rd
 refine walk_of (l := [(0, .bool b), (1, .slice so ((words x).length) c)]) Tryd.func97 rfl Tryd.ntmps97 rfl rfl ?_
 intro Q hret hnorm hP a hA
 refine wp_seq_k (fun K1 hK1 => ?_)
 refine wp_region_lit ?_
 refine seq_new (vs := [.bool false, .slice none 0 0, .slice none 0 0, .bool false, .slice none 0 0, .slice none 0 0]) (t := 27) hA hS rfl rfl rfl (fun g => .pointer (some ⟨g, 0, none⟩)) (does_alloc (z := .agg #[.bool false, .slice none 0 0, .slice none 0 0, .bool false, .slice none 0 0, .slice none 0 0]) (by kernel_rfl) rfl) rfl ?_
 intro g2 w3 hS a hA
 refine seq_end ?_
 refine hK1 _ _ ?_
 refine wp_seq_k (fun K4 hK4 => ?_)
 refine wp_region_lit ?_
 refine seq_do hA rfl rfl rfl (does_move rfl) ?_
 intro a hA
 refine seq_do hA rfl rfl rfl (does_move rfl) ?_
 intro a hA
 refine seq_call hA rfl rfl rfl (enters_func  rfl rfl (fun w => by kernel_rfl)) (of_one _) ?_
 rintro _ w9 ⟨ro5, rc6, rfl, ho7, hb8⟩
 replace hS := hS.call hb8
 replace hS := hS.addR ho7.rd
 refine ⟨_, rfl, ?_⟩
 intro a hA
 refine seq_do (v := .agg #[.bool b, .slice so ((words x).length) c, .slice ro5 1 rc6]) hA rfl rfl rfl (does_build rfl (fun w => by kernel_rfl)) ?_
 intro a hA
 refine seq_call hA rfl rfl rfl (enters_func  rfl rfl (fun w => by kernel_rfl)) (of_one _) ?_
 rintro _ w14 ⟨ro10, rc11, rfl, ho12, hb13⟩
 replace hS := hS.call hb13
 replace hS := hS.addR ho12.rd
 refine ⟨_, rfl, ?_⟩
 intro a hA
 refine seq_do (v := .agg #[.bool false, .slice none 0 0, .slice ro10 1 rc11]) hA rfl rfl rfl (does_build rfl (fun w => by kernel_rfl)) ?_
 intro a hA
 refine seq_do (v := .agg #[.bool b, .slice so ((words x).length) c, .slice ro5 1 rc6, .bool false, .slice none 0 0, .slice ro10 1 rc11]) hA rfl rfl rfl (does_build rfl (fun w => by kernel_rfl)) ?_
 intro a hA
 refine seq_store (us := [.bool b, .slice so ((words x).length) c, .slice ro5 1 rc6, .bool false, .slice none 0 0, .slice ro10 1 rc11]) hA hS rfl rfl (sets_store rfl rfl rfl (by kernel_rfl) hS 0 rfl rfl rfl) 0 rfl rfl rfl rfl ?_
 intro w15 hS
 refine seq_end ?_
 refine hK4 _ _ ?_
 refine wp_ret ?_
 refine hret _ _ ?_
 refine ends (v := .agg #[.bool b, .slice so ((words x).length) c, .slice ro5 1 rc6, .bool false, .slice none 0 0, .slice ro10 1 rc11]) hA rfl (.cons (res_cell hS BiA_isS_27 rfl 0 rfl (cs := [.bool b, .slice so ((words x).length) c, .slice ro5 1 rc6, .bool false, .slice none 0 0, .slice ro10 1 rc11]) rfl rfl) .nil) rfl ?_
 exact ⟨so, c, ro5, rc6, none, 0, ro10, rc11, rfl, ⟨⟨(hS.rd 2 rfl), hs.nil, hs.cap⟩, ⟨(hS.rd 1 rfl), ho7.nocap, ho7.caps⟩, (Sc.none _), ⟨(hS.rd 0 rfl), ho12.nocap, ho12.caps⟩⟩, hS.bel⟩
theorem number_any {w : World} {b : Bool} {ro : Option Addr} {rc y : Nat} (hr : Sc w ro rc (words y)) (hy : (words y).length ≤ 512) :
    Calls Tryd.prog 78 #[.agg #[.bool b, .slice ro (words y).length rc]] w (AnsN w (bigS b (y + b.toNat))) := by
 by_cases hf : (words (y + b.toNat)).length ≤ 512
 · have hS : St w w [] [(ro, words y)] [] := (St.start w).addR hr.rd
   refine walk_of (l := [(0, .agg #[.bool b, .slice ro ((words y).length) rc])]) Tryd.func78 rfl Tryd.ntmps78 rfl rfl ?_
   intro Q hret hnorm hP a hA
   refine wp_seq_k (fun K1 hK1 => ?_)
   refine wp_region_lit ?_
   refine seq_new hA hS rfl rfl rfl (fun g => .pointer (some ⟨g, 0, none⟩)) (does_box rfl rfl) rfl ?_
   intro g2 w3 hS a hA
   refine seq_new (vs := [.bool false, .slice none 0 0, .slice none 0 0, .bool false, .slice none 0 0, .slice none 0 0]) (t := 27) hA hS rfl rfl rfl (fun g => .pointer (some ⟨g, 0, none⟩)) (does_alloc (z := .agg #[.bool false, .slice none 0 0, .slice none 0 0, .bool false, .slice none 0 0, .slice none 0 0]) (by kernel_rfl) rfl) rfl ?_
   intro g4 w5 hS a hA
   refine seq_do hA rfl rfl rfl (does_assign rfl) ?_
   intro a hA
   refine seq_end ?_
   refine hK1 _ _ ?_
   refine wp_seq_k (fun K6 hK6 => ?_)
   refine wp_draw (S := fun w1 => St w w1 [(g4, [.bool false, .slice none 0 0, .slice none 0 0, .bool false, .slice none 0 0, .slice none 0 0]), (g2, [.bool b, .slice ro ((words y).length) rc])] [(ro, words y)] []) (by kernel_rfl) ?_
   replace hS := hS.drew
   refine any_tk (v := .pointer (some ⟨g2, 1, none⟩)) hA 0 rfl rfl rfl rfl hP hS (fun w1 hS => does_field BiA_fld_99_1 rfl rfl) ?_
   intro a hA
   refine any_tk hA 1 rfl rfl rfl rfl hP hS (fun w1 hS => does_load1 hS BiA_is1_23 rfl 1 rfl rfl) ?_
   intro a hA
   refine any_tk (v := .pointer (some ⟨g2, 0, none⟩)) hA 2 rfl rfl rfl rfl hP hS (fun w1 hS => does_field BiA_fld_99_0 rfl rfl) ?_
   intro a hA
   refine any_tk hA 3 rfl rfl rfl rfl hP hS (fun w1 hS => does_load1 hS BiA_is1_4 rfl 1 rfl rfl) ?_
   intro a hA
   refine any_one (by kernel_rfl) (op_call hA 4 rfl rfl rfl rfl (enters_func  rfl rfl (fun w => by kernel_rfl)) (turnStep_any b) ?_)
   rintro _ w11 ⟨ro7, rc8, rfl, ho9, hb10⟩
   replace hS := hS.call hb10
   replace hS := hS.addR ho9.rd
   refine ⟨_, rfl, (hS.partD (.refl _) 1 rfl (.refl _)), ?_⟩
   intro a hA
   refine any_one (by kernel_rfl) (op_call hA 5 rfl rfl rfl rfl (enters_func  rfl rfl (fun w => by kernel_rfl)) (add_fit (x := y) (y := b.toNat) rc rc8 (hS.rd 1 rfl) (hS.rd 0 rfl) hy (Nat.le_trans (words_toNat b) (by decide)) hf) ?_)
   rintro _ w16 ⟨ro12, rc13, rfl, ho14, hb15⟩
   replace hS := hS.call hb15
   replace hS := hS.addR ho14.rd
   refine ⟨_, rfl, (hS.partD (.refl _) 2 rfl (.refl _)), ?_⟩
   intro a hA
   refine any_tk hA 6 rfl rfl rfl rfl hP (hS.partD (.refl _) 2 rfl (.refl _)) (fun w1 hS => does_move rfl) ?_
   intro a hA
   refine any_tk (v := .slice ro12 ((words (y + b.toNat)).length) rc13) hA 7 rfl rfl rfl rfl hP (hS.partD (.refl _) 2 rfl (.refl _)) (fun w1 hS => does_extract (vs := [.slice ro12 ((words (y + b.toNat)).length) rc13, .int .i64 0]) rfl rfl) ?_
   intro a hA
   refine any_tk (v := .int .i64 0) hA 8 rfl rfl rfl rfl hP (hS.partD (.refl _) 2 rfl (.refl _)) (fun w1 hS => does_extract (vs := [.slice ro12 ((words (y + b.toNat)).length) rc13, .int .i64 0]) rfl rfl) ?_
   intro a hA
   refine any_tk hA 9 rfl rfl rfl rfl hP (hS.partD (.refl _) 2 rfl (.refl _)) (fun w1 hS => does_assign rfl) ?_
   intro a hA
   refine any_tk hA 10 rfl rfl rfl rfl hP (hS.partD (.refl _) 2 rfl (.refl _)) (fun w1 hS => does_assign rfl) ?_
   intro a hA
   refine any_end (by kernel_rfl) ?_
   refine hK6 _ _ ?_
   refine wp_seq_k (fun K17 hK17 => ?_)
   refine wp_seq_k (fun K18 hK18 => ?_)
   refine wp_region_lit ?_
   refine seq_do hA rfl rfl rfl (does_move rfl) ?_
   intro a hA
   refine seq_do (v := .bool false) hA rfl rfl rfl (does_bin rfl rfl (fun w => by kernel_rfl)) ?_
   intro a hA
   refine seq_end ?_
   refine hK18 _ _ ?_
   refine wp_cond_false (hA.ev rfl) ?_
   refine wp_skip ?_
   refine hK17 _ _ ?_
   refine wp_seq_k (fun K19 hK19 => ?_)
   refine wp_region_lit ?_
   refine seq_do (v := .pointer (some ⟨g2, 0, none⟩)) hA rfl rfl rfl (does_field BiA_fld_99_0 rfl rfl) ?_
   intro a hA
   refine seq_do hA rfl rfl rfl (does_load1 hS BiA_is1_4 rfl 1 rfl rfl) ?_
   intro a hA
   refine seq_do hA rfl rfl rfl (does_move rfl) ?_
   intro a hA
   refine seq_call hA rfl rfl rfl (enters_func  rfl rfl (fun w => by kernel_rfl)) (wholeV_any b ⟨(hS.rd 0 rfl), ho14.nocap, ho14.caps⟩) ?_
   rintro _ w23 ⟨p20_1, p20_c1, p20_2, p20_c2, p20_3, p20_c3, p20_4, p20_c4, rfl, hn21, hb22⟩
   replace hS := hS.call hb22
   replace hS := hS.addR hn21.s1.rd
   replace hS := hS.addR hn21.s2.rd
   replace hS := hS.addR hn21.s3.rd
   replace hS := hS.addR hn21.s4.rd
   refine ⟨_, rfl, ?_⟩
   intro a hA
   refine seq_store (us := [.bool b, .slice p20_1 ((words (y + b.toNat)).length) p20_c1, .slice p20_2 1 p20_c2, .bool false, .slice p20_3 0 p20_c3, .slice p20_4 1 p20_c4]) hA hS rfl rfl (sets_store rfl rfl rfl (by kernel_rfl) hS 0 rfl rfl rfl) 0 rfl rfl rfl rfl ?_
   intro w24 hS
   refine seq_do hA rfl rfl rfl (does_assign rfl) ?_
   intro a hA
   refine seq_end ?_
   refine hK19 _ _ ?_
   refine wp_ret ?_
   refine hret _ _ ?_
   refine ends (v := .tuple #[.agg #[.bool b, .slice p20_1 ((words (y + b.toNat)).length) p20_c1, .slice p20_2 1 p20_c2, .bool false, .slice p20_3 0 p20_c3, .slice p20_4 1 p20_c4], .int .i64 0]) hA rfl (.cons (res_cell hS BiA_isS_27 rfl 0 rfl (cs := [.bool b, .slice p20_1 ((words (y + b.toNat)).length) p20_c1, .slice p20_2 1 p20_c2, .bool false, .slice p20_3 0 p20_c3, .slice p20_4 1 p20_c4]) rfl rfl) (.cons (res_tmp rfl) .nil)) rfl ?_
   rw [bigS_pos hf]
   exact ⟨p20_1, p20_c1, p20_2, p20_c2, p20_3, p20_c3, p20_4, p20_c4, rfl, ⟨⟨(hS.rd 3 rfl), hn21.s1.nil, hn21.s1.cap⟩, ⟨(hS.rd 2 rfl), hn21.s2.nil, hn21.s2.cap⟩, ⟨(hS.rd 1 rfl), hn21.s3.nil, hn21.s3.cap⟩, ⟨(hS.rd 0 rfl), hn21.s4.nil, hn21.s4.cap⟩⟩, hS.bel⟩
 · have hS : St w w [] [(ro, words y)] [] := (St.start w).addR hr.rd
   refine walk_of (l := [(0, .agg #[.bool b, .slice ro ((words y).length) rc])]) Tryd.func78 rfl Tryd.ntmps78 rfl rfl ?_
   intro Q hret hnorm hP a hA
   refine wp_seq_k (fun K1 hK1 => ?_)
   refine wp_region_lit ?_
   refine seq_new hA hS rfl rfl rfl (fun g => .pointer (some ⟨g, 0, none⟩)) (does_box rfl rfl) rfl ?_
   intro g2 w3 hS a hA
   refine seq_new (vs := [.bool false, .slice none 0 0, .slice none 0 0, .bool false, .slice none 0 0, .slice none 0 0]) (t := 27) hA hS rfl rfl rfl (fun g => .pointer (some ⟨g, 0, none⟩)) (does_alloc (z := .agg #[.bool false, .slice none 0 0, .slice none 0 0, .bool false, .slice none 0 0, .slice none 0 0]) (by kernel_rfl) rfl) rfl ?_
   intro g4 w5 hS a hA
   refine seq_do hA rfl rfl rfl (does_assign rfl) ?_
   intro a hA
   refine seq_end ?_
   refine hK1 _ _ ?_
   refine wp_seq_k (fun K6 hK6 => ?_)
   refine wp_draw (S := fun w1 => St w w1 [(g4, [.bool false, .slice none 0 0, .slice none 0 0, .bool false, .slice none 0 0, .slice none 0 0]), (g2, [.bool b, .slice ro ((words y).length) rc])] [(ro, words y)] []) (by kernel_rfl) ?_
   replace hS := hS.drew
   refine any_tk (v := .pointer (some ⟨g2, 1, none⟩)) hA 0 rfl rfl rfl rfl hP hS (fun w1 hS => does_field BiA_fld_99_1 rfl rfl) ?_
   intro a hA
   refine any_tk hA 1 rfl rfl rfl rfl hP hS (fun w1 hS => does_load1 hS BiA_is1_23 rfl 1 rfl rfl) ?_
   intro a hA
   refine any_tk (v := .pointer (some ⟨g2, 0, none⟩)) hA 2 rfl rfl rfl rfl hP hS (fun w1 hS => does_field BiA_fld_99_0 rfl rfl) ?_
   intro a hA
   refine any_tk hA 3 rfl rfl rfl rfl hP hS (fun w1 hS => does_load1 hS BiA_is1_4 rfl 1 rfl rfl) ?_
   intro a hA
   refine any_one (by kernel_rfl) (op_call hA 4 rfl rfl rfl rfl (enters_func  rfl rfl (fun w => by kernel_rfl)) (turnStep_any b) ?_)
   rintro _ w11 ⟨ro7, rc8, rfl, ho9, hb10⟩
   replace hS := hS.call hb10
   replace hS := hS.addR ho9.rd
   refine ⟨_, rfl, (hS.partD (.refl _) 1 rfl (.refl _)), ?_⟩
   intro a hA
   refine any_one (by kernel_rfl) (op_call hA 5 rfl rfl rfl rfl (enters_func  rfl rfl (fun w => by kernel_rfl)) (add_big (x := y) (y := b.toNat) rc rc8 (hS.rd 1 rfl) (hS.rd 0 rfl) hy (Nat.le_trans (words_toNat b) (by decide)) hf) ?_)
   rintro _ w16 ⟨ro12, rc13, rfl, ho14, hb15⟩
   replace hS := hS.call hb15
   replace hS := hS.addR ho14.rd
   refine ⟨_, rfl, (hS.partD (.refl _) 2 rfl (.refl _)), ?_⟩
   intro a hA
   refine any_tk hA 6 rfl rfl rfl rfl hP (hS.partD (.refl _) 2 rfl (.refl _)) (fun w1 hS => does_move rfl) ?_
   intro a hA
   refine any_tk (v := .slice ro12 0 rc13) hA 7 rfl rfl rfl rfl hP (hS.partD (.refl _) 2 rfl (.refl _)) (fun w1 hS => does_extract (vs := [.slice ro12 0 rc13, .int .i64 4]) rfl rfl) ?_
   intro a hA
   refine any_tk (v := .int .i64 4) hA 8 rfl rfl rfl rfl hP (hS.partD (.refl _) 2 rfl (.refl _)) (fun w1 hS => does_extract (vs := [.slice ro12 0 rc13, .int .i64 4]) rfl rfl) ?_
   intro a hA
   refine any_tk hA 9 rfl rfl rfl rfl hP (hS.partD (.refl _) 2 rfl (.refl _)) (fun w1 hS => does_assign rfl) ?_
   intro a hA
   refine any_tk hA 10 rfl rfl rfl rfl hP (hS.partD (.refl _) 2 rfl (.refl _)) (fun w1 hS => does_assign rfl) ?_
   intro a hA
   refine any_end (by kernel_rfl) ?_
   refine hK6 _ _ ?_
   refine wp_seq_k (fun K17 hK17 => ?_)
   refine wp_seq_k (fun K18 hK18 => ?_)
   refine wp_region_lit ?_
   refine seq_do hA rfl rfl rfl (does_move rfl) ?_
   intro a hA
   refine seq_do (v := .bool true) hA rfl rfl rfl (does_bin rfl rfl (fun w => by kernel_rfl)) ?_
   intro a hA
   refine seq_end ?_
   refine hK18 _ _ ?_
   refine wp_cond_true (hA.ev rfl) ?_
   refine wp_seq_k (fun K19 hK19 => ?_)
   refine wp_region_lit ?_
   refine seq_do (v := .agg #[.bool false, .slice none 0 0, .slice none 0 0, .bool false, .slice none 0 0, .slice none 0 0]) hA rfl rfl rfl (does_build rfl (fun w => by kernel_rfl)) ?_
   intro a hA
   refine seq_do hA rfl rfl rfl (does_move rfl) ?_
   intro a hA
   refine seq_store (us := [.bool false, .slice none 0 0, .slice none 0 0, .bool false, .slice none 0 0, .slice none 0 0]) hA hS rfl rfl (sets_store rfl rfl rfl (by kernel_rfl) hS 0 rfl rfl rfl) 0 rfl rfl rfl rfl ?_
   intro w20 hS
   refine seq_do hA rfl rfl rfl (does_assign rfl) ?_
   intro a hA
   refine seq_end ?_
   refine hK19 _ _ ?_
   refine wp_ret ?_
   refine hret _ _ ?_
   refine ends (v := .tuple #[.agg #[.bool false, .slice none 0 0, .slice none 0 0, .bool false, .slice none 0 0, .slice none 0 0], .int .i64 4]) hA rfl (.cons (res_cell hS BiA_isS_27 rfl 0 rfl (cs := [.bool false, .slice none 0 0, .slice none 0 0, .bool false, .slice none 0 0, .slice none 0 0]) rfl rfl) (.cons (res_tmp rfl) .nil)) rfl ?_
   rw [bigS_neg hf]
   exact ⟨none, 0, none, 0, none, 0, none, 0, rfl, ⟨(Sc.none _), (Sc.none _), (Sc.none _), (Sc.none _)⟩, hS.bel⟩
theorem turned_any {w : World} {b : Bool} {ro : Option Addr} {n rc : Nat} : Calls Tryd.prog 77 #[.agg #[.bool b, .slice ro n rc]] w fun e w' => e = .returned (.agg #[.bool (!b), .slice ro n rc]) ∧ Below w.heap.size w w' := by
 have hS : St w w [] [] [] := St.start w
 refine walk_of (l := [(0, .agg #[.bool b, .slice ro n rc])]) Tryd.func77 rfl Tryd.ntmps77 rfl rfl ?_
 intro Q hret hnorm hP a hA
 refine wp_seq_k (fun K1 hK1 => ?_)
 refine wp_region_lit ?_
 refine seq_new hA hS rfl rfl rfl (fun g => .pointer (some ⟨g, 0, none⟩)) (does_box rfl rfl) rfl ?_
 intro g2 w3 hS a hA
 refine seq_new (vs := [.bool false, .slice none 0 0]) (t := 99) hA hS rfl rfl rfl (fun g => .pointer (some ⟨g, 0, none⟩)) (does_alloc (z := .agg #[.bool false, .slice none 0 0]) (by kernel_rfl) rfl) rfl ?_
 intro g4 w5 hS a hA
 refine seq_end ?_
 refine hK1 _ _ ?_
 refine wp_seq_k (fun K6 hK6 => ?_)
 refine wp_region_lit ?_
 refine seq_do (v := .pointer (some ⟨g2, 0, none⟩)) hA rfl rfl rfl (does_field BiA_fld_99_0 rfl rfl) ?_
 intro a hA
 refine seq_do hA rfl rfl rfl (does_load1 hS BiA_is1_4 rfl 1 rfl rfl) ?_
 intro a hA
 refine seq_do (v := .bool (!b)) hA rfl rfl rfl (does_un rfl un_not) ?_
 intro a hA
 refine seq_do (v := .pointer (some ⟨g2, 1, none⟩)) hA rfl rfl rfl (does_field BiA_fld_99_1 rfl rfl) ?_
 intro a hA
 refine seq_do hA rfl rfl rfl (does_load1 hS BiA_is1_23 rfl 1 rfl rfl) ?_
 intro a hA
 refine seq_do (v := .agg #[.bool (!b), .slice ro n rc]) hA rfl rfl rfl (does_build rfl (fun w => by kernel_rfl)) ?_
 intro a hA
 refine seq_store (us := [.bool (!b), .slice ro n rc]) hA hS rfl rfl (sets_store rfl rfl rfl (by kernel_rfl) hS 0 rfl rfl rfl) 0 rfl rfl rfl rfl ?_
 intro w7 hS
 refine seq_end ?_
 refine hK6 _ _ ?_
 refine wp_ret ?_
 refine hret _ _ ?_
 refine ends (v := .agg #[.bool (!b), .slice ro n rc]) hA rfl (.cons (res_cell hS BiA_isS_99 rfl 0 rfl (cs := [.bool (!b), .slice ro n rc]) rfl rfl) .nil) rfl ?_
 exact ⟨rfl, hS.bel⟩
theorem wholeQ_any {w : World} {q : Q6} {a1 a2 a3 a4 : Option Addr} {ac1 ac2 ac3 ac4 : Nat} (ha : Nm w q a1 ac1 a2 ac2 a3 ac3 a4 ac4) (hl : LenQ q) {r : Bool} (hr : wholeQ q = r) : Calls Tryd.prog 104 #[numV q a1 ac1 a2 ac2 a3 ac3 a4 ac4] w fun e w' => e = .returned (.bool r) ∧ Below w.heap.size w w' := by
 have hS : St w w [] [(a4, q.q2), (a3, q.t2), (a2, q.q1), (a1, q.t1)] [] := ((((St.start w).addR ha.s1.rd).addR ha.s2.rd).addR ha.s3.rd).addR ha.s4.rd
 refine walk_of (l := [(0, .agg #[.bool q.b1, .slice a1 q.t1.length ac1, .slice a2 q.q1.length ac2, .bool q.b2, .slice a3 q.t2.length ac3, .slice a4 q.q2.length ac4])]) Tryd.func104 rfl Tryd.ntmps104 rfl rfl ?_
 intro Q hret hnorm hP a hA
 refine wp_seq_k (fun K1 hK1 => ?_)
 refine wp_region_lit ?_
 refine seq_new hA hS rfl rfl rfl (fun g => .pointer (some ⟨g, 0, none⟩)) (does_box rfl rfl) rfl ?_
 intro g2 w3 hS a hA
 refine seq_do hA rfl rfl rfl (does_assign rfl) ?_
 intro a hA
 refine seq_end ?_
 refine hK1 _ _ ?_
 refine wp_seq_k (fun K4 hK4 => ?_)
 refine wp_region_lit ?_
 refine seq_do hA rfl rfl rfl (does_loadS hS BiA_isS_27 rfl 0 rfl (cs := [.bool q.b1, .slice a1 q.t1.length ac1, .slice a2 q.q1.length ac2, .bool q.b2, .slice a3 q.t2.length ac3, .slice a4 q.q2.length ac4]) rfl rfl) ?_
 intro a hA
 rcases Bool.eq_false_or_eq_true (soundQ q) with hb5 | hb5
 · refine seq_call hA rfl rfl rfl (enters_func  rfl rfl (fun w => by kernel_rfl)) (soundQ_any (show Nm _ _ a1 ac1 a2 ac2 a3 ac3 a4 ac4 from ⟨⟨(hS.rd 3 rfl), ha.s1.nil, ha.s1.cap⟩, ⟨(hS.rd 2 rfl), ha.s2.nil, ha.s2.cap⟩, ⟨(hS.rd 1 rfl), ha.s3.nil, ha.s3.cap⟩, ⟨(hS.rd 0 rfl), ha.s4.nil, ha.s4.cap⟩⟩) hl hb5) ?_
   rintro _ w7 ⟨rfl, hb6⟩
   replace hS := hS.call hb6
   refine ⟨_, rfl, ?_⟩
   intro a hA
   refine seq_do hA rfl rfl rfl (does_move rfl) ?_
   intro a hA
   refine seq_do hA rfl rfl rfl (does_loadS hS BiA_isS_27 rfl 0 rfl (cs := [.bool q.b1, .slice a1 q.t1.length ac1, .slice a2 q.q1.length ac2, .bool q.b2, .slice a3 q.t2.length ac3, .slice a4 q.q2.length ac4]) rfl rfl) ?_
   intro a hA
   rcases Bool.eq_false_or_eq_true (decide (q.t2.length = 0)) with hb8 | hb8
   · have hb8' := of_decide_eq_true hb8
     refine seq_call hA rfl rfl rfl (enters_func  rfl rfl (fun w => by kernel_rfl)) (isRealQ_any hl hb8) ?_
     rintro _ w10 ⟨rfl, hb9⟩
     replace hS := hS.call hb9
     refine ⟨_, rfl, ?_⟩
     intro a hA
     refine seq_do (v := .bool true) hA rfl rfl rfl (does_pick rfl rfl rfl rfl) ?_
     intro a hA
     refine seq_do hA rfl rfl rfl (does_move rfl) ?_
     intro a hA
     refine seq_do (v := .pointer (some ⟨g2, 0, none⟩)) hA rfl rfl rfl (does_field BiA_fld_27_0 rfl rfl) ?_
     intro a hA
     refine seq_do (v := .pointer (some ⟨g2, 2, none⟩)) hA rfl rfl rfl (does_field BiA_fld_25_2 rfl rfl) ?_
     intro a hA
     refine seq_do hA rfl rfl rfl (does_load1 hS BiA_is1_23 rfl 0 rfl rfl) ?_
     intro a hA
     rcases Bool.eq_false_or_eq_true (decide (q.q1 = [1])) with hb11 | hb11
     · have hb11' := of_decide_eq_true hb11
       refine seq_call hA rfl rfl rfl (enters_func  rfl rfl (fun w => by kernel_rfl)) (isOneQ_any _ (hS.rd 2 rfl) hl.l2 hb11) ?_
       rintro _ w13 ⟨rfl, hb12⟩
       replace hb12 := below_eq hb12
       replace hS := hS.call hb12
       refine ⟨_, rfl, ?_⟩
       intro a hA
       refine seq_do (v := .bool true) hA rfl rfl rfl (does_pick rfl rfl rfl rfl) ?_
       intro a hA
       refine seq_do hA rfl rfl rfl (does_assign rfl) ?_
       intro a hA
       refine seq_end ?_
       refine hK4 _ _ ?_
       refine wp_ret ?_
       refine hret _ _ ?_
       refine ends (v := .bool true) hA rfl (.cons (res_tmp rfl) .nil) rfl ?_
       subst hr
       exact ⟨by unfold wholeQ; rw [hb5, hb8, hb11]; try rfl, hS.bel⟩
     · have hb11' := of_decide_eq_false hb11
       refine seq_call hA rfl rfl rfl (enters_func  rfl rfl (fun w => by kernel_rfl)) (isOneQ_any _ (hS.rd 2 rfl) hl.l2 hb11) ?_
       rintro _ w15 ⟨rfl, hb14⟩
       replace hb14 := below_eq hb14
       replace hS := hS.call hb14
       refine ⟨_, rfl, ?_⟩
       intro a hA
       refine seq_do (v := .bool false) hA rfl rfl rfl (does_pick rfl rfl rfl rfl) ?_
       intro a hA
       refine seq_do hA rfl rfl rfl (does_assign rfl) ?_
       intro a hA
       refine seq_end ?_
       refine hK4 _ _ ?_
       refine wp_ret ?_
       refine hret _ _ ?_
       refine ends (v := .bool false) hA rfl (.cons (res_tmp rfl) .nil) rfl ?_
       subst hr
       exact ⟨by unfold wholeQ; rw [hb5, hb8, hb11]; try rfl, hS.bel⟩
   · have hb8' := of_decide_eq_false hb8
     refine seq_call hA rfl rfl rfl (enters_func  rfl rfl (fun w => by kernel_rfl)) (isRealQ_any hl hb8) ?_
     rintro _ w17 ⟨rfl, hb16⟩
     replace hS := hS.call hb16
     refine ⟨_, rfl, ?_⟩
     intro a hA
     refine seq_do (v := .bool false) hA rfl rfl rfl (does_pick rfl rfl rfl rfl) ?_
     intro a hA
     refine seq_do hA rfl rfl rfl (does_move rfl) ?_
     intro a hA
     refine seq_skip hA rfl rfl rfl ?_
     intro a hA
     refine seq_skip hA rfl rfl rfl ?_
     intro a hA
     refine seq_skip hA rfl rfl rfl ?_
     intro a hA
     refine seq_skip hA rfl rfl rfl ?_
     intro a hA
     refine seq_do (v := .bool false) hA rfl rfl rfl (does_pick rfl rfl rfl rfl) ?_
     intro a hA
     refine seq_do hA rfl rfl rfl (does_assign rfl) ?_
     intro a hA
     refine seq_end ?_
     refine hK4 _ _ ?_
     refine wp_ret ?_
     refine hret _ _ ?_
     refine ends (v := .bool false) hA rfl (.cons (res_tmp rfl) .nil) rfl ?_
     subst hr
     exact ⟨by unfold wholeQ; rw [hb5, hb8]; try rfl, hS.bel⟩
 · refine seq_call hA rfl rfl rfl (enters_func  rfl rfl (fun w => by kernel_rfl)) (soundQ_any (show Nm _ _ a1 ac1 a2 ac2 a3 ac3 a4 ac4 from ⟨⟨(hS.rd 3 rfl), ha.s1.nil, ha.s1.cap⟩, ⟨(hS.rd 2 rfl), ha.s2.nil, ha.s2.cap⟩, ⟨(hS.rd 1 rfl), ha.s3.nil, ha.s3.cap⟩, ⟨(hS.rd 0 rfl), ha.s4.nil, ha.s4.cap⟩⟩) hl hb5) ?_
   rintro _ w19 ⟨rfl, hb18⟩
   replace hS := hS.call hb18
   refine ⟨_, rfl, ?_⟩
   intro a hA
   refine seq_do hA rfl rfl rfl (does_move rfl) ?_
   intro a hA
   refine seq_skip hA rfl rfl rfl ?_
   intro a hA
   refine seq_skip hA rfl rfl rfl ?_
   intro a hA
   refine seq_do (v := .bool false) hA rfl rfl rfl (does_pick rfl rfl rfl rfl) ?_
   intro a hA
   refine seq_do hA rfl rfl rfl (does_move rfl) ?_
   intro a hA
   refine seq_skip hA rfl rfl rfl ?_
   intro a hA
   refine seq_skip hA rfl rfl rfl ?_
   intro a hA
   refine seq_skip hA rfl rfl rfl ?_
   intro a hA
   refine seq_skip hA rfl rfl rfl ?_
   intro a hA
   refine seq_do (v := .bool false) hA rfl rfl rfl (does_pick rfl rfl rfl rfl) ?_
   intro a hA
   refine seq_do hA rfl rfl rfl (does_assign rfl) ?_
   intro a hA
   refine seq_end ?_
   refine hK4 _ _ ?_
   refine wp_ret ?_
   refine hret _ _ ?_
   refine ends (v := .bool false) hA rfl (.cons (res_tmp rfl) .nil) rfl ?_
   subst hr
   exact ⟨by unfold wholeQ; rw [hb5]; try rfl, hS.bel⟩
theorem want1_any {w : World} {q : Q6} {a1 a2 a3 a4 : Option Addr} {ac1 ac2 ac3 ac4 : Nat} (ha : Nm w q a1 ac1 a2 ac2 a3 ac3 a4 ac4) (hl : LenQ q) {g : Nat} (hg : Blk w g [.bool q.b1, .slice a1 q.t1.length ac1, .slice a2 q.q1.length ac2, .bool q.b2, .slice a3 q.t2.length ac3, .slice a4 q.q2.length ac4]) {r : Int} (hr : want1 q = r) : Calls Tryd.prog 75 #[.slice (some ⟨g, 0, none⟩) 1 1] w fun e w' => e = .returned (.int .i64 r) ∧ Below w.heap.size w w' := by
 have hS : St w w [] [(a4, q.q2), (a3, q.t2), (a2, q.q1), (a1, q.t1)] [] := ((((St.start w).addR ha.s1.rd).addR ha.s2.rd).addR ha.s3.rd).addR ha.s4.rd
 refine walk_of (l := [(0, .slice (some ⟨g, 0, none⟩) 1 1)]) Tryd.func75 rfl Tryd.ntmps75 rfl rfl ?_
 intro Q hret hnorm hP a hA
 refine wp_seq_k (fun K1 hK1 => ?_)
 refine wp_region_lit ?_
 refine seq_do hA rfl rfl rfl (does_assign rfl) ?_
 intro a hA
 refine seq_end ?_
 refine hK1 _ _ ?_
 refine wp_seq_k (fun K2 hK2 => ?_)
 refine wp_seq_k (fun K3 hK3 => ?_)
 refine wp_region_lit ?_
 refine seq_do hA rfl rfl rfl (does_move rfl) ?_
 intro a hA
 refine seq_do (v := .int .i64 1) hA rfl rfl rfl (does_len Tryd.underlying92 rfl) ?_
 intro a hA
 refine seq_do hA rfl rfl rfl (does_move rfl) ?_
 intro a hA
 refine seq_end ?_
 refine hK3 _ _ ?_
 refine wp_block ?_
 refine wp_loop_rounds 12 ?_
 refine rounds_k (fun K4 hK4 => ?_)
 refine wp_seq_k (fun K5 hK5 => ?_)
 refine wp_region_lit ?_
 refine seq_do (v := .bool true) hA rfl rfl rfl (does_bin rfl rfl (fun w => by kernel_rfl)) ?_
 intro a hA
 refine seq_end ?_
 refine hK5 _ _ ?_
 refine wp_seq_k (fun K6 hK6 => ?_)
 refine wp_cond_true (hA.ev rfl) ?_
 refine wp_skip ?_
 refine hK6 _ _ ?_
 refine wp_seq_k (fun K7 hK7 => ?_)
 refine wp_block ?_
 refine wp_seq_k (fun K8 hK8 => ?_)
 refine wp_region_lit ?_
 refine seq_do (v := .pointer (some ⟨g, 0, none⟩)) hA rfl rfl rfl (does_indexI rfl rfl (fun w => by kernel_rfl)) ?_
 intro a hA
 refine seq_do hA rfl rfl rfl (does_loadSF hS hg BiA_isS_27 rfl (cs := [.bool q.b1, .slice a1 q.t1.length ac1, .slice a2 q.q1.length ac2, .bool q.b2, .slice a3 q.t2.length ac3, .slice a4 q.q2.length ac4]) rfl rfl) ?_
 intro a hA
 refine seq_new (vs := [.bool false, .slice none 0 0, .slice none 0 0, .bool false, .slice none 0 0, .slice none 0 0]) (t := 27) hA hS rfl rfl rfl (fun g => .pointer (some ⟨g, 0, none⟩)) (does_alloc (z := .agg #[.bool false, .slice none 0 0, .slice none 0 0, .bool false, .slice none 0 0, .slice none 0 0]) (by kernel_rfl) rfl) rfl ?_
 intro g9 w10 hS a hA
 refine seq_store (us := [.bool q.b1, .slice a1 q.t1.length ac1, .slice a2 q.q1.length ac2, .bool q.b2, .slice a3 q.t2.length ac3, .slice a4 q.q2.length ac4]) hA hS rfl rfl (sets_store rfl rfl rfl (by kernel_rfl) hS 0 rfl rfl rfl) 0 rfl rfl rfl rfl ?_
 intro w11 hS
 refine seq_end ?_
 refine hK8 _ _ ?_
 refine wp_seq_k (fun K12 hK12 => ?_)
 refine wp_region_lit ?_
 refine seq_do hA rfl rfl rfl (does_loadS hS BiA_isS_27 rfl 0 rfl (cs := [.bool q.b1, .slice a1 q.t1.length ac1, .slice a2 q.q1.length ac2, .bool q.b2, .slice a3 q.t2.length ac3, .slice a4 q.q2.length ac4]) rfl rfl) ?_
 intro a hA
 rcases Bool.eq_false_or_eq_true (soundQ q) with hb13 | hb13
 · refine seq_call hA rfl rfl rfl (enters_func  rfl rfl (fun w => by kernel_rfl)) (soundQ_any (show Nm _ _ a1 ac1 a2 ac2 a3 ac3 a4 ac4 from ⟨⟨(hS.rd 3 rfl), ha.s1.nil, ha.s1.cap⟩, ⟨(hS.rd 2 rfl), ha.s2.nil, ha.s2.cap⟩, ⟨(hS.rd 1 rfl), ha.s3.nil, ha.s3.cap⟩, ⟨(hS.rd 0 rfl), ha.s4.nil, ha.s4.cap⟩⟩) hl hb13) ?_
   rintro _ w15 ⟨rfl, hb14⟩
   replace hS := hS.call hb14
   refine ⟨_, rfl, ?_⟩
   intro a hA
   refine seq_do (v := .bool false) hA rfl rfl rfl (does_un rfl un_not) ?_
   intro a hA
   refine seq_end ?_
   refine hK12 _ _ ?_
   refine wp_cond_false (hA.ev rfl) ?_
   refine wp_skip ?_
   refine hK7 _ _ ?_
   refine wp_region_lit ?_
   refine seq_do (v := .int .i64 1) hA rfl rfl rfl (does_bin rfl rfl (fun w => by kernel_rfl)) ?_
   intro a hA
   refine seq_do hA rfl rfl rfl (does_move rfl) ?_
   intro a hA
   refine seq_end ?_
   refine hK4 _ _ ?_
   refine rounds_k (fun K16 hK16 => ?_)
   refine wp_seq_k (fun K17 hK17 => ?_)
   refine wp_region_lit ?_
   refine seq_do (v := .bool false) hA rfl rfl rfl (does_bin rfl rfl (fun w => by kernel_rfl)) ?_
   intro a hA
   refine seq_end ?_
   refine hK17 _ _ ?_
   refine wp_seq_k (fun K18 hK18 => ?_)
   refine wp_cond_false (hA.ev rfl) ?_
   refine wp_exit ?_
   refine hK2 _ _ ?_
   refine wp_seq_k (fun K19 hK19 => ?_)
   refine wp_seq_k (fun K20 hK20 => ?_)
   refine wp_region_lit ?_
   refine seq_do hA rfl rfl rfl (does_move rfl) ?_
   intro a hA
   refine seq_do (v := .int .i64 1) hA rfl rfl rfl (does_len Tryd.underlying92 rfl) ?_
   intro a hA
   refine seq_do hA rfl rfl rfl (does_move rfl) ?_
   intro a hA
   refine seq_end ?_
   refine hK20 _ _ ?_
   refine wp_block ?_
   refine wp_loop_rounds 12 ?_
   refine rounds_k (fun K21 hK21 => ?_)
   refine wp_seq_k (fun K22 hK22 => ?_)
   refine wp_region_lit ?_
   refine seq_do (v := .bool true) hA rfl rfl rfl (does_bin rfl rfl (fun w => by kernel_rfl)) ?_
   intro a hA
   refine seq_end ?_
   refine hK22 _ _ ?_
   refine wp_seq_k (fun K23 hK23 => ?_)
   refine wp_cond_true (hA.ev rfl) ?_
   refine wp_skip ?_
   refine hK23 _ _ ?_
   refine wp_seq_k (fun K24 hK24 => ?_)
   refine wp_block ?_
   refine wp_seq_k (fun K25 hK25 => ?_)
   refine wp_region_lit ?_
   refine seq_do (v := .pointer (some ⟨g, 0, none⟩)) hA rfl rfl rfl (does_indexI rfl rfl (fun w => by kernel_rfl)) ?_
   intro a hA
   refine seq_do hA rfl rfl rfl (does_loadSF hS hg BiA_isS_27 rfl (cs := [.bool q.b1, .slice a1 q.t1.length ac1, .slice a2 q.q1.length ac2, .bool q.b2, .slice a3 q.t2.length ac3, .slice a4 q.q2.length ac4]) rfl rfl) ?_
   intro a hA
   refine seq_new (vs := [.bool false, .slice none 0 0, .slice none 0 0, .bool false, .slice none 0 0, .slice none 0 0]) (t := 27) hA hS rfl rfl rfl (fun g => .pointer (some ⟨g, 0, none⟩)) (does_alloc (z := .agg #[.bool false, .slice none 0 0, .slice none 0 0, .bool false, .slice none 0 0, .slice none 0 0]) (by kernel_rfl) rfl) rfl ?_
   intro g26 w27 hS a hA
   refine seq_store (us := [.bool q.b1, .slice a1 q.t1.length ac1, .slice a2 q.q1.length ac2, .bool q.b2, .slice a3 q.t2.length ac3, .slice a4 q.q2.length ac4]) hA hS rfl rfl (sets_store rfl rfl rfl (by kernel_rfl) hS 0 rfl rfl rfl) 0 rfl rfl rfl rfl ?_
   intro w28 hS
   refine seq_end ?_
   refine hK25 _ _ ?_
   refine wp_seq_k (fun K29 hK29 => ?_)
   refine wp_region_lit ?_
   refine seq_do hA rfl rfl rfl (does_loadS hS BiA_isS_27 rfl 0 rfl (cs := [.bool q.b1, .slice a1 q.t1.length ac1, .slice a2 q.q1.length ac2, .bool q.b2, .slice a3 q.t2.length ac3, .slice a4 q.q2.length ac4]) rfl rfl) ?_
   intro a hA
   rcases Bool.eq_false_or_eq_true (wholeQ q) with hb30 | hb30
   · refine seq_call hA rfl rfl rfl (enters_func  rfl rfl (fun w => by kernel_rfl)) (wholeQ_any (show Nm _ _ a1 ac1 a2 ac2 a3 ac3 a4 ac4 from ⟨⟨(hS.rd 3 rfl), ha.s1.nil, ha.s1.cap⟩, ⟨(hS.rd 2 rfl), ha.s2.nil, ha.s2.cap⟩, ⟨(hS.rd 1 rfl), ha.s3.nil, ha.s3.cap⟩, ⟨(hS.rd 0 rfl), ha.s4.nil, ha.s4.cap⟩⟩) hl hb30) ?_
     rintro _ w32 ⟨rfl, hb31⟩
     replace hS := hS.call hb31
     refine ⟨_, rfl, ?_⟩
     intro a hA
     refine seq_do (v := .bool false) hA rfl rfl rfl (does_un rfl un_not) ?_
     intro a hA
     refine seq_end ?_
     refine hK29 _ _ ?_
     refine wp_cond_false (hA.ev rfl) ?_
     refine wp_skip ?_
     refine hK24 _ _ ?_
     refine wp_region_lit ?_
     refine seq_do (v := .int .i64 1) hA rfl rfl rfl (does_bin rfl rfl (fun w => by kernel_rfl)) ?_
     intro a hA
     refine seq_do hA rfl rfl rfl (does_move rfl) ?_
     intro a hA
     refine seq_end ?_
     refine hK21 _ _ ?_
     refine rounds_k (fun K33 hK33 => ?_)
     refine wp_seq_k (fun K34 hK34 => ?_)
     refine wp_region_lit ?_
     refine seq_do (v := .bool false) hA rfl rfl rfl (does_bin rfl rfl (fun w => by kernel_rfl)) ?_
     intro a hA
     refine seq_end ?_
     refine hK34 _ _ ?_
     refine wp_seq_k (fun K35 hK35 => ?_)
     refine wp_cond_false (hA.ev rfl) ?_
     refine wp_exit ?_
     refine hK19 _ _ ?_
     refine wp_seq_k (fun K36 hK36 => ?_)
     refine wp_region_lit ?_
     refine seq_do hA rfl rfl rfl (does_assign rfl) ?_
     intro a hA
     refine seq_end ?_
     refine hK36 _ _ ?_
     refine wp_ret ?_
     refine hret _ _ ?_
     refine ends (v := .int .i64 0) hA rfl (.cons (res_tmp rfl) .nil) rfl ?_
     subst hr
     exact ⟨by simp [want1, hb13, hb30], hS.bel⟩
   · refine seq_call hA rfl rfl rfl (enters_func  rfl rfl (fun w => by kernel_rfl)) (wholeQ_any (show Nm _ _ a1 ac1 a2 ac2 a3 ac3 a4 ac4 from ⟨⟨(hS.rd 3 rfl), ha.s1.nil, ha.s1.cap⟩, ⟨(hS.rd 2 rfl), ha.s2.nil, ha.s2.cap⟩, ⟨(hS.rd 1 rfl), ha.s3.nil, ha.s3.cap⟩, ⟨(hS.rd 0 rfl), ha.s4.nil, ha.s4.cap⟩⟩) hl hb30) ?_
     rintro _ w38 ⟨rfl, hb37⟩
     replace hS := hS.call hb37
     refine ⟨_, rfl, ?_⟩
     intro a hA
     refine seq_do (v := .bool true) hA rfl rfl rfl (does_un rfl un_not) ?_
     intro a hA
     refine seq_end ?_
     refine hK29 _ _ ?_
     refine wp_cond_true (hA.ev rfl) ?_
     refine wp_seq_k (fun K39 hK39 => ?_)
     refine wp_region_lit ?_
     refine seq_do hA rfl rfl rfl (does_assign rfl) ?_
     intro a hA
     refine seq_end ?_
     refine hK39 _ _ ?_
     refine wp_ret ?_
     refine hret _ _ ?_
     refine ends (v := .int .i64 10) hA rfl (.cons (res_tmp rfl) .nil) rfl ?_
     subst hr
     exact ⟨by simp [want1, hb13, hb30], hS.bel⟩
 · refine seq_call hA rfl rfl rfl (enters_func  rfl rfl (fun w => by kernel_rfl)) (soundQ_any (show Nm _ _ a1 ac1 a2 ac2 a3 ac3 a4 ac4 from ⟨⟨(hS.rd 3 rfl), ha.s1.nil, ha.s1.cap⟩, ⟨(hS.rd 2 rfl), ha.s2.nil, ha.s2.cap⟩, ⟨(hS.rd 1 rfl), ha.s3.nil, ha.s3.cap⟩, ⟨(hS.rd 0 rfl), ha.s4.nil, ha.s4.cap⟩⟩) hl hb13) ?_
   rintro _ w41 ⟨rfl, hb40⟩
   replace hS := hS.call hb40
   refine ⟨_, rfl, ?_⟩
   intro a hA
   refine seq_do (v := .bool true) hA rfl rfl rfl (does_un rfl un_not) ?_
   intro a hA
   refine seq_end ?_
   refine hK12 _ _ ?_
   refine wp_cond_true (hA.ev rfl) ?_
   refine wp_seq_k (fun K42 hK42 => ?_)
   refine wp_region_lit ?_
   refine seq_do hA rfl rfl rfl (does_assign rfl) ?_
   intro a hA
   refine seq_end ?_
   refine hK42 _ _ ?_
   refine wp_ret ?_
   refine hret _ _ ?_
   refine ends (v := .int .i64 2) hA rfl (.cons (res_tmp rfl) .nil) rfl ?_
   subst hr
   exact ⟨by simp [want1, hb13], hS.bel⟩
end Go.Proofs.YtbajcflbimmnhaaDoor
namespace Go.Proofs.YtbajcflbimmnhaaDoor
open Go.RowKit
set_option linter.unusedVariables false
set_option linter.unusedSimpArgs false
set_option maxRecDepth 100000
theorem BiB_is1_49 : Is1 Tryd.prog 49 := ⟨⟨_, Tryd.underlying49, rfl⟩, by kernel_rfl⟩
theorem equal_any {w : World} {ao bo : Option Addr} {l1 l2 : List Nat} (ca cb : Nat) (ha : Rd w ao l1) (hb : Rd w bo l2) (h1 : l1.length ≤ 9223372036854775807) (h2 : l2.length ≤ 9223372036854775807) : Calls Tryd.prog 69 #[.slice ao l1.length ca, .slice bo l2.length cb] w fun e w' => e = .returned (.bool (decide (l1 = l2))) ∧ Below w.heap.size w w' := by
 have hS : St w w [] [(bo, l2), (ao, l1)] [] := ((St.start w).addR ha).addR hb
 refine walk_of (l := [(0, .slice ao l1.length ca), (1, .slice bo l2.length cb)]) Tryd.func69 rfl Tryd.ntmps69 rfl rfl ?_
 intro Q hret hnorm hP a hA
 refine wp_seq_k (fun K1 hK1 => ?_)
 refine wp_region_lit ?_
 refine seq_do hA rfl rfl rfl (does_assign rfl) ?_
 intro a hA
 refine seq_end ?_
 refine hK1 _ _ ?_
 refine wp_seq_k (fun K2 hK2 => ?_)
 refine wp_seq_k (fun K3 hK3 => ?_)
 refine wp_region_lit ?_
 refine seq_do hA rfl rfl rfl (does_move rfl) ?_
 intro a hA
 refine seq_do (v := .int .i64 (((l1.length : Nat) : Int))) hA rfl rfl rfl (does_len Tryd.underlying23 rfl) ?_
 intro a hA
 refine seq_do hA rfl rfl rfl (does_move rfl) ?_
 intro a hA
 refine seq_do (v := .int .i64 (((l2.length : Nat) : Int))) hA rfl rfl rfl (does_len Tryd.underlying23 rfl) ?_
 intro a hA
 rcases Bool.eq_false_or_eq_true ((((l1.length : Nat) : Int) != ((l2.length : Nat) : Int))) with hb4 | hb4
 · have hb4' := bne_iff_ne.1 hb4
   refine seq_do (v := .bool true) hA rfl rfl rfl (does_bin rfl rfl (fun w => (bin_neq w).trans (by rw [hb4]))) ?_
   intro a hA
   refine seq_end ?_
   refine hK3 _ _ ?_
   refine wp_cond_true (hA.ev rfl) ?_
   refine wp_seq_k (fun K5 hK5 => ?_)
   refine wp_region_lit ?_
   refine seq_do hA rfl rfl rfl (does_assign rfl) ?_
   intro a hA
   refine seq_end ?_
   refine hK5 _ _ ?_
   refine wp_ret ?_
   refine hret _ _ ?_
   refine ends (v := .bool false) hA rfl (.cons (res_tmp rfl) .nil) rfl ?_
   exact ⟨by rw [decide_eq_false (fun e => by subst e; omega)], hS.bel⟩
 · have hb4' := bne_eq_false_iff_eq.1 hb4
   refine seq_do (v := .bool false) hA rfl rfl rfl (does_bin rfl rfl (fun w => (bin_neq w).trans (by rw [hb4]))) ?_
   intro a hA
   refine seq_end ?_
   refine hK3 _ _ ?_
   refine wp_cond_false (hA.ev rfl) ?_
   refine wp_skip ?_
   refine hK2 _ _ ?_
   refine wp_seq_k (fun K6 hK6 => ?_)
   refine wp_seq_k (fun K7 hK7 => ?_)
   refine wp_region_lit ?_
   refine seq_do hA rfl rfl rfl (does_move rfl) ?_
   intro a hA
   refine seq_do (v := .int .i64 (((l1.length : Nat) : Int))) hA rfl rfl rfl (does_len Tryd.underlying23 rfl) ?_
   intro a hA
   refine seq_do hA rfl rfl rfl (does_move rfl) ?_
   intro a hA
   refine seq_end ?_
   refine hK7 _ _ ?_
   refine wp_block ?_
   refine wp_loop_n (fun m a w1 => ∃ (i : Nat), m = l1.length - i ∧ (i ≤ l1.length ∧ ∀ j, j < i → l1.getD j 0 = l2.getD j 0) ∧ Sl a 26 [(0, .slice ao l1.length ca), (1, .slice bo l2.length cb), (6, .slice ao l1.length ca), (7, .int .i64 (((l1.length : Nat) : Int))), (8, .slice bo l2.length cb), (9, .int .i64 (((l2.length : Nat) : Int))), (10, .bool false), (11, .slice ao l1.length ca), (12, .int .i64 (((l1.length : Nat) : Int))), (13, .int .i64 (((i : Nat) : Int)))] ∧ St w w1 [] [(bo, l2), (ao, l1)] []) _ ⟨0, rfl, ⟨by omega, fun j hj => by omega⟩, hA.keep _ ⟨rfl, rfl, rfl, rfl, rfl, rfl, rfl, rfl, rfl, rfl, trivial⟩, hS⟩ ?_
   clear hS hA
   rintro m a w8 ⟨i, rfl, hinv10, hA, hS⟩ K9 hK9
   have hle := hinv10.1
   refine wp_seq_k (fun K11 hK11 => ?_)
   refine wp_region_lit ?_
   rcases Bool.eq_false_or_eq_true (decide (((i : Nat) : Int) < ((l1.length : Nat) : Int))) with hb12 | hb12
   · have hb12' := of_decide_eq_true hb12
     refine seq_do (v := .bool true) hA rfl rfl rfl (does_bin rfl rfl (fun w => (bin_lss w).trans (by rw [hb12]))) ?_
     intro a hA
     refine seq_end ?_
     refine hK11 _ _ ?_
     refine wp_seq_k (fun K13 hK13 => ?_)
     refine wp_cond_true (hA.ev rfl) ?_
     refine wp_skip ?_
     refine hK13 _ _ ?_
     refine wp_seq_k (fun K14 hK14 => ?_)
     refine wp_block ?_
     refine wp_seq_k (fun K15 hK15 => ?_)
     refine wp_region_lit ?_
     refine seq_do hA rfl rfl rfl (does_move rfl) ?_
     intro a hA
     refine seq_do hA rfl rfl rfl (does_assign rfl) ?_
     intro a hA
     refine seq_end ?_
     refine hK15 _ _ ?_
     refine wp_seq_k (fun K16 hK16 => ?_)
     refine wp_draw (S := fun w1 => St w w1 [] [(bo, l2), (ao, l1)] []) (by kernel_rfl) ?_
     replace hS := hS.drew
     refine any_tk hA 0 rfl rfl rfl rfl hP hS (fun w1 hS => does_move rfl) ?_
     intro a hA
     refine any_tk hA 1 rfl rfl rfl rfl hP hS (fun w1 hS => does_move rfl) ?_
     intro a hA
     have hi20 : i < l1.length := by first | omega | (simp only [List.length_set]; omega)
     obtain ⟨b17, f18, hso19⟩ := Rd.addr (hS.rd 1 rfl) hi20
     refine any_tk (v := .pointer (some ⟨b17, f18 + i, none⟩)) hA 2 rfl rfl rfl rfl hP hS (fun w1 hS => does_indexRow (k := i) Tryd.underlying23 (by kernel_rfl) rfl rfl (by omega) hso19 hi20) ?_
     intro a hA
     refine any_tk (v := .int .u32 (((l1.getD i 0 : Nat) : Int))) hA 3 rfl rfl rfl rfl hP hS (fun w1 hS => does_loadRow (hS.rd 1 rfl) hso19 hi20 BiB_is1_49 rfl) ?_
     intro a hA
     refine any_tk hA 4 rfl rfl rfl rfl hP hS (fun w1 hS => does_move rfl) ?_
     intro a hA
     refine any_tk hA 5 rfl rfl rfl rfl hP hS (fun w1 hS => does_move rfl) ?_
     intro a hA
     have hi24 : i < l2.length := by first | omega | (simp only [List.length_set]; omega)
     obtain ⟨b21, f22, hso23⟩ := Rd.addr (hS.rd 0 rfl) hi24
     refine any_tk (v := .pointer (some ⟨b21, f22 + i, none⟩)) hA 6 rfl rfl rfl rfl hP hS (fun w1 hS => does_indexRow (k := i) Tryd.underlying23 (by kernel_rfl) rfl rfl (by omega) hso23 hi24) ?_
     intro a hA
     refine any_tk (v := .int .u32 (((l2.getD i 0 : Nat) : Int))) hA 7 rfl rfl rfl rfl hP hS (fun w1 hS => does_loadRow (hS.rd 0 rfl) hso23 hi24 BiB_is1_49 rfl) ?_
     intro a hA
     rcases Bool.eq_false_or_eq_true ((((l1.getD i 0 : Nat) : Int) != ((l2.getD i 0 : Nat) : Int))) with hb25 | hb25
     · have hb25' := bne_iff_ne.1 hb25
       refine any_tk (v := .bool true) hA 8 rfl rfl rfl rfl hP hS (fun w1 hS => does_bin rfl rfl (fun w => (bin_neq w).trans (by rw [hb25]))) ?_
       intro a hA
       refine any_end (by kernel_rfl) ?_
       refine hK16 _ _ ?_
       refine wp_cond_true (hA.ev rfl) ?_
       refine wp_seq_k (fun K26 hK26 => ?_)
       refine wp_region_lit ?_
       refine seq_do hA rfl rfl rfl (does_assign rfl) ?_
       intro a hA
       refine seq_end ?_
       refine hK26 _ _ ?_
       refine wp_ret ?_
       refine hret _ _ ?_
       refine ends (v := .bool false) hA rfl (.cons (res_tmp rfl) .nil) rfl ?_
       exact ⟨by rw [decide_eq_false (fun e => by subst e; omega)], hS.bel⟩
     · have hb25' := bne_eq_false_iff_eq.1 hb25
       refine any_tk (v := .bool false) hA 8 rfl rfl rfl rfl hP hS (fun w1 hS => does_bin rfl rfl (fun w => (bin_neq w).trans (by rw [hb25]))) ?_
       intro a hA
       refine any_end (by kernel_rfl) ?_
       refine hK16 _ _ ?_
       refine wp_cond_false (hA.ev rfl) ?_
       refine wp_skip ?_
       refine hK14 _ _ ?_
       refine wp_region_lit ?_
       refine seq_do (v := .int .i64 (((i + 1 : Nat) : Int))) hA rfl rfl rfl (does_bin rfl rfl (fun w => (bin_add (i64In (by omega) (by omega)) w).trans (by rw [show (((i : Nat) : Int) + 1 : Int) = ((i + 1 : Nat) : Int) from by omega]))) ?_
       intro a hA
       refine seq_do hA rfl rfl rfl (does_move rfl) ?_
       intro a hA
       refine seq_end ?_
       refine hK9 _ _ _ (by omega) ⟨i + 1, rfl, ⟨by omega, fun j hj => by rcases Nat.lt_succ_iff_lt_or_eq.1 hj with h | h; exact hinv10.2 j h; subst h; omega⟩, hA.keep _ ⟨rfl, rfl, rfl, rfl, rfl, rfl, rfl, rfl, rfl, rfl, trivial⟩, hS⟩
   · have hb12' := of_decide_eq_false hb12
     refine seq_do (v := .bool false) hA rfl rfl rfl (does_bin rfl rfl (fun w => (bin_lss w).trans (by rw [hb12]))) ?_
     intro a hA
     refine seq_end ?_
     refine hK11 _ _ ?_
     refine wp_seq_k (fun K27 hK27 => ?_)
     refine wp_cond_false (hA.ev rfl) ?_
     refine wp_exit ?_
     refine hK6 _ _ ?_
     refine wp_seq_k (fun K28 hK28 => ?_)
     refine wp_region_lit ?_
     refine seq_do hA rfl rfl rfl (does_assign rfl) ?_
     intro a hA
     refine seq_end ?_
     refine hK28 _ _ ?_
     refine wp_ret ?_
     refine hret _ _ ?_
     refine ends (v := .bool true) hA rfl (.cons (res_tmp rfl) .nil) rfl ?_
     exact ⟨by rw [decide_eq_true (list_of_getD (by omega) (fun j hj => hinv10.2 j (by omega)))], hS.bel⟩
end Go.Proofs.YtbajcflbimmnhaaDoor
namespace Go.Proofs.YtbajcflbimmnhaaDoor
open Go.RowKit
set_option linter.unusedVariables false
set_option linter.unusedSimpArgs false

section
variable {P : Program}
theorem conv_up {s d : TypeId} {k : Nat} (hs : P.underlying s = some (.int .i64)) (hd : P.underlying d = some (.int .u64)) (h : k ≤ 9223372036854775807) : ∀ w, (convert s d (.int .i64 ((k : Nat) : Int))).run P w = .ok (.int .u64 ((k : Nat) : Int)) w := fun w => by
  have := wrap_u64 k (by omega)
  simp [convert, run_underlying hs, run_underlying hd, go_sem, this]
end
def sameF (b : Bool) (t q : List Nat) (b' : Bool) (t' q' : List Nat) : Bool := (b == b') && (decide (t = t') && decide (q = q'))
def sameQ (p q : Q6) : Bool := soundQ p && (soundQ q && (sameF p.b1 p.t1 p.q1 q.b1 q.t1 q.q1 && sameF p.b2 p.t2 p.q2 q.b2 q.t2 q.q2))
theorem sameF_refl (b : Bool) (t q : List Nat) : sameF b t q b t q = true := by simp [sameF]
theorem sameQ_self {q : Q6} (h : soundQ q = true) : sameQ q q = true := by simp [sameQ, h, sameF_refl]
theorem equalB_any {w : World} {ao bo : Option Addr} {l1 l2 : List Nat} (ca cb : Nat) (ha : Rd w ao l1) (hb : Rd w bo l2) (h1 : l1.length ≤ 9223372036854775807) (h2 : l2.length ≤ 9223372036854775807) {r : Bool} (hr : decide (l1 = l2) = r) :
    Calls Tryd.prog 69 #[.slice ao l1.length ca, .slice bo l2.length cb] w fun e w' => e = .returned (.bool r) ∧ Below w.heap.size w w' := by
  subst hr
  exact equal_any ca cb ha hb h1 h2
theorem soundQ_whole {b : Bool} {x : Nat} (hx : (words x).length ≤ 512) (hb : b.toNat ≤ x) : soundQ (Q6.whole b x) = true := by
  unfold soundQ soundN
  simp only [Q6.whole]
  have h1 : (words 1).length ≤ 512 := by rw [words_one]; decide
  have h0 : (words 0).length ≤ 512 := by rw [words_zero]; decide
  have e1 : fracS b (words x) [1] = true := by
    rw [← words_one, fracS_words hx h1, Nat.gcd_one_right, words_one]
    cases b with
    | false => simp
    | true =>
      have : x ≠ 0 := by simp at hb; omega
      have : (words x).length ≠ 0 := fun e => this (words_eq_nil.1 (List.length_eq_zero_iff.1 e))
      simp [words_eq_nil]
      assumption
  have e2 : fracS false [] [1] = true := by
    rw [← words_one, ← words_zero, fracS_words h0 h1, Nat.gcd_one_right, words_one]
    simp
  rw [e1, e2]
  rfl
theorem lenQ_whole {b : Bool} {x : Nat} (hx : (words x).length ≤ 512) : LenQ (Q6.whole b x) := ⟨by simp only [Q6.whole]; omega, by simp [Q6.whole], by simp [Q6.whole], by simp [Q6.whole]⟩
theorem one_len : (words 1).length ≤ 512 := by rw [words_one]; decide
end Go.Proofs.YtbajcflbimmnhaaDoor
namespace Go.Proofs.YtbajcflbimmnhaaDoor
open Go.RowKit
set_option linter.unusedVariables false
set_option linter.unusedSimpArgs false
set_option maxRecDepth 100000
theorem BiS_is1_23 : Is1 Tryd.prog 23 := ⟨⟨_, Tryd.underlying23, rfl⟩, by kernel_rfl⟩
theorem BiS_is1_4 : Is1 Tryd.prog 4 := ⟨⟨_, Tryd.underlying4, rfl⟩, by kernel_rfl⟩
theorem BiS_fld_25_0 : FieldAt Tryd.prog 25 0 0 := ⟨_, _, Tryd.underlying25, rfl, rfl, by kernel_rfl⟩
theorem BiS_fld_25_1 : FieldAt Tryd.prog 25 1 1 := ⟨_, _, Tryd.underlying25, rfl, rfl, by kernel_rfl⟩
theorem BiS_fld_25_2 : FieldAt Tryd.prog 25 2 2 := ⟨_, _, Tryd.underlying25, rfl, rfl, by kernel_rfl⟩
theorem BiS_fld_27_0 : FieldAt Tryd.prog 27 0 0 := ⟨_, _, Tryd.underlying27, rfl, rfl, by kernel_rfl⟩
theorem BiS_fld_27_1 : FieldAt Tryd.prog 27 1 3 := ⟨_, _, Tryd.underlying27, rfl, rfl, by kernel_rfl⟩
theorem BiS_isS_25 : IsS Tryd.prog 25 3 := ⟨⟨_, Tryd.underlying25⟩, by kernel_rfl⟩
theorem BiS_isS_27 : IsS Tryd.prog 27 6 := ⟨⟨_, Tryd.underlying27⟩, by kernel_rfl⟩
theorem intP_any {w : World} {k : Nat} (hk : k ≤ 9223372036854775807) : Calls Tryd.prog 11 #[.int .i64 (((k : Nat) : Int))] w (AnsV w (Q6.whole false k)) := by
 have hS : St w w [] [] [] := St.start w
 refine walk_of (l := [(0, .int .i64 (((k : Nat) : Int)))]) Tryd.func11 rfl Tryd.ntmps11 rfl rfl ?_
 intro Q hret hnorm hP a hA
 refine wp_seq_k (fun K1 hK1 => ?_)
 refine wp_region_lit ?_
 refine seq_new (vs := [.bool false, .slice none 0 0, .slice none 0 0, .bool false, .slice none 0 0, .slice none 0 0]) (t := 27) hA hS rfl rfl rfl (fun g => .pointer (some ⟨g, 0, none⟩)) (does_alloc (z := .agg #[.bool false, .slice none 0 0, .slice none 0 0, .bool false, .slice none 0 0, .slice none 0 0]) (by kernel_rfl) rfl) rfl ?_
 intro g2 w3 hS a hA
 refine seq_end ?_
 refine hK1 _ _ ?_
 refine wp_seq_k (fun K4 hK4 => ?_)
 refine wp_region_lit ?_
 refine seq_do hA rfl rfl rfl (does_move rfl) ?_
 intro a hA
 refine seq_do (v := .int .u64 (((k : Nat) : Int))) hA rfl rfl rfl (does_convert rfl (conv_up Tryd.underlying3 Tryd.underlying51 hk)) ?_
 intro a hA
 refine seq_do hA rfl rfl rfl (does_assign rfl) ?_
 intro a hA
 refine seq_end ?_
 refine hK4 _ _ ?_
 refine wp_seq_k (fun K5 hK5 => ?_)
 refine wp_seq_k (fun K6 hK6 => ?_)
 refine wp_region_lit ?_
 refine seq_do hA rfl rfl rfl (does_move rfl) ?_
 intro a hA
 refine seq_do (v := .bool false) hA rfl rfl rfl (does_bin rfl rfl (fun w => (bin_lss w).trans (by rw [show (decide (((k : Nat) : Int) < 0)) = false from decide_eq_false (by omega)]))) ?_
 intro a hA
 refine seq_end ?_
 refine hK6 _ _ ?_
 refine wp_cond_false (hA.ev rfl) ?_
 refine wp_skip ?_
 refine hK5 _ _ ?_
 refine wp_seq_k (fun K7 hK7 => ?_)
 refine wp_region_lit ?_
 refine seq_do hA rfl rfl rfl (does_move rfl) ?_
 intro a hA
 refine seq_do (v := .bool false) hA rfl rfl rfl (does_bin rfl rfl (fun w => (bin_lss w).trans (by rw [show (decide (((k : Nat) : Int) < 0)) = false from decide_eq_false (by omega)]))) ?_
 intro a hA
 refine seq_do hA rfl rfl rfl (does_move rfl) ?_
 intro a hA
 refine seq_call hA rfl rfl rfl (enters_func  rfl rfl (fun w => by kernel_rfl)) (of_any k _ (by omega)) ?_
 rintro _ w12 ⟨ro8, rc9, rfl, ho10, hb11⟩
 replace hS := hS.call hb11
 replace hS := hS.addR ho10.rd
 refine ⟨_, rfl, ?_⟩
 intro a hA
 refine seq_call hA rfl rfl rfl (enters_func  rfl rfl (fun w => by kernel_rfl)) (of_one _) ?_
 rintro _ w17 ⟨ro13, rc14, rfl, ho15, hb16⟩
 replace hS := hS.call hb16
 replace hS := hS.addR ho15.rd
 refine ⟨_, rfl, ?_⟩
 intro a hA
 refine seq_do (v := .agg #[.bool false, .slice ro8 ((words k).length) rc9, .slice ro13 1 rc14]) hA rfl rfl rfl (does_build rfl (fun w => by kernel_rfl)) ?_
 intro a hA
 refine seq_call hA rfl rfl rfl (enters_func  rfl rfl (fun w => by kernel_rfl)) (of_one _) ?_
 rintro _ w22 ⟨ro18, rc19, rfl, ho20, hb21⟩
 replace hS := hS.call hb21
 replace hS := hS.addR ho20.rd
 refine ⟨_, rfl, ?_⟩
 intro a hA
 refine seq_do (v := .agg #[.bool false, .slice none 0 0, .slice ro18 1 rc19]) hA rfl rfl rfl (does_build rfl (fun w => by kernel_rfl)) ?_
 intro a hA
 refine seq_do (v := .agg #[.bool false, .slice ro8 ((words k).length) rc9, .slice ro13 1 rc14, .bool false, .slice none 0 0, .slice ro18 1 rc19]) hA rfl rfl rfl (does_build rfl (fun w => by kernel_rfl)) ?_
 intro a hA
 refine seq_store (us := [.bool false, .slice ro8 ((words k).length) rc9, .slice ro13 1 rc14, .bool false, .slice none 0 0, .slice ro18 1 rc19]) hA hS rfl rfl (sets_store rfl rfl rfl (by kernel_rfl) hS 0 rfl rfl rfl) 0 rfl rfl rfl rfl ?_
 intro w23 hS
 refine seq_end ?_
 refine hK7 _ _ ?_
 refine wp_ret ?_
 refine hret _ _ ?_
 refine ends (v := .agg #[.bool false, .slice ro8 ((words k).length) rc9, .slice ro13 1 rc14, .bool false, .slice none 0 0, .slice ro18 1 rc19]) hA rfl (.cons (res_cell hS BiS_isS_27 rfl 0 rfl (cs := [.bool false, .slice ro8 ((words k).length) rc9, .slice ro13 1 rc14, .bool false, .slice none 0 0, .slice ro18 1 rc19]) rfl rfl) .nil) rfl ?_
 exact ⟨ro8, rc9, ro13, rc14, none, 0, ro18, rc19, rfl, ⟨⟨(hS.rd 2 rfl), ho10.nocap, ho10.caps⟩, ⟨(hS.rd 1 rfl), ho15.nocap, ho15.caps⟩, (Sc.none _), ⟨(hS.rd 0 rfl), ho20.nocap, ho20.caps⟩⟩, hS.bel⟩
theorem sameFr_any {w : World} {b b' : Bool} {t q t' q' : List Nat} {a1 a2 : Option Addr} {ac1 ac2 : Nat} (ha1 : Sc w a1 ac1 t) (ha2 : Sc w a2 ac2 q) {u1 u2 : Option Addr} {uc1 uc2 : Nat} (hu1 : Sc w u1 uc1 t') (hu2 : Sc w u2 uc2 q') (l1 : t.length ≤ 9223372036854775807) (l2 : q.length ≤ 9223372036854775807) (l3 : t'.length ≤ 9223372036854775807) (l4 : q'.length ≤ 9223372036854775807) {r : Bool} (hr : sameF b t q b' t' q' = r) :
    Calls Tryd.prog 41 #[.agg #[.bool b, .slice a1 t.length ac1, .slice a2 q.length ac2], .agg #[.bool b', .slice u1 t'.length uc1, .slice u2 q'.length uc2]] w fun e w' => e = .returned (.bool r) ∧ Below w.heap.size w w' := by
 have hS : St w w [] [(u2, q'), (u1, t'), (a2, q), (a1, t)] [] := ((((St.start w).addR ha1.rd).addR ha2.rd).addR hu1.rd).addR hu2.rd
 refine walk_of (l := [(0, .agg #[.bool b, .slice a1 t.length ac1, .slice a2 q.length ac2]), (1, .agg #[.bool b', .slice u1 t'.length uc1, .slice u2 q'.length uc2])]) Tryd.func41 rfl Tryd.ntmps41 rfl rfl ?_
 intro Q hret hnorm hP a hA
 refine wp_seq_k (fun K1 hK1 => ?_)
 refine wp_region_lit ?_
 refine seq_new hA hS rfl rfl rfl (fun g => .pointer (some ⟨g, 0, none⟩)) (does_box rfl rfl) rfl ?_
 intro g2 w3 hS a hA
 refine seq_new hA hS rfl rfl rfl (fun g => .pointer (some ⟨g, 0, none⟩)) (does_box rfl rfl) rfl ?_
 intro g4 w5 hS a hA
 refine seq_do hA rfl rfl rfl (does_assign rfl) ?_
 intro a hA
 refine seq_end ?_
 refine hK1 _ _ ?_
 refine wp_seq_k (fun K6 hK6 => ?_)
 refine wp_region_lit ?_
 refine seq_do (v := .pointer (some ⟨g2, 0, none⟩)) hA rfl rfl rfl (does_field BiS_fld_25_0 rfl rfl) ?_
 intro a hA
 refine seq_do hA rfl rfl rfl (does_load1 hS BiS_is1_4 rfl 1 rfl rfl) ?_
 intro a hA
 refine seq_do (v := .pointer (some ⟨g4, 0, none⟩)) hA rfl rfl rfl (does_field BiS_fld_25_0 rfl rfl) ?_
 intro a hA
 refine seq_do hA rfl rfl rfl (does_load1 hS BiS_is1_4 rfl 0 rfl rfl) ?_
 intro a hA
 rcases Bool.eq_false_or_eq_true ((b == b')) with hb7 | hb7
 · have hb7' := eq_of_beq hb7
   refine seq_do (v := .bool true) hA rfl rfl rfl (does_bin rfl rfl (fun w => ((bin_eqlB Tryd.underlying4) w).trans (by rw [hb7]))) ?_
   intro a hA
   refine seq_do hA rfl rfl rfl (does_move rfl) ?_
   intro a hA
   refine seq_do (v := .pointer (some ⟨g2, 1, none⟩)) hA rfl rfl rfl (does_field BiS_fld_25_1 rfl rfl) ?_
   intro a hA
   refine seq_do hA rfl rfl rfl (does_load1 hS BiS_is1_23 rfl 1 rfl rfl) ?_
   intro a hA
   refine seq_do (v := .pointer (some ⟨g4, 1, none⟩)) hA rfl rfl rfl (does_field BiS_fld_25_1 rfl rfl) ?_
   intro a hA
   refine seq_do hA rfl rfl rfl (does_load1 hS BiS_is1_23 rfl 0 rfl rfl) ?_
   intro a hA
   rcases Bool.eq_false_or_eq_true (decide (t = t')) with hb8 | hb8
   · have hb8' := of_decide_eq_true hb8
     refine seq_call hA rfl rfl rfl (enters_func  rfl rfl (fun w => by kernel_rfl)) (equalB_any _ _ (hS.rd 3 rfl) (hS.rd 1 rfl) l1 l3 hb8) ?_
     rintro _ w10 ⟨rfl, hb9⟩
     replace hS := hS.call hb9
     refine ⟨_, rfl, ?_⟩
     intro a hA
     refine seq_do (v := .bool true) hA rfl rfl rfl (does_pick rfl rfl rfl rfl) ?_
     intro a hA
     refine seq_do hA rfl rfl rfl (does_move rfl) ?_
     intro a hA
     refine seq_do (v := .pointer (some ⟨g2, 2, none⟩)) hA rfl rfl rfl (does_field BiS_fld_25_2 rfl rfl) ?_
     intro a hA
     refine seq_do hA rfl rfl rfl (does_load1 hS BiS_is1_23 rfl 1 rfl rfl) ?_
     intro a hA
     refine seq_do (v := .pointer (some ⟨g4, 2, none⟩)) hA rfl rfl rfl (does_field BiS_fld_25_2 rfl rfl) ?_
     intro a hA
     refine seq_do hA rfl rfl rfl (does_load1 hS BiS_is1_23 rfl 0 rfl rfl) ?_
     intro a hA
     rcases Bool.eq_false_or_eq_true (decide (q = q')) with hb11 | hb11
     · have hb11' := of_decide_eq_true hb11
       refine seq_call hA rfl rfl rfl (enters_func  rfl rfl (fun w => by kernel_rfl)) (equalB_any _ _ (hS.rd 2 rfl) (hS.rd 0 rfl) l2 l4 hb11) ?_
       rintro _ w13 ⟨rfl, hb12⟩
       replace hS := hS.call hb12
       refine ⟨_, rfl, ?_⟩
       intro a hA
       refine seq_do (v := .bool true) hA rfl rfl rfl (does_pick rfl rfl rfl rfl) ?_
       intro a hA
       refine seq_do hA rfl rfl rfl (does_assign rfl) ?_
       intro a hA
       refine seq_end ?_
       refine hK6 _ _ ?_
       refine wp_ret ?_
       refine hret _ _ ?_
       refine ends (v := .bool true) hA rfl (.cons (res_tmp rfl) .nil) rfl ?_
       subst hr
       exact ⟨by unfold sameF; rw [hb7, hb8, hb11]; try rfl, hS.bel⟩
     · have hb11' := of_decide_eq_false hb11
       refine seq_call hA rfl rfl rfl (enters_func  rfl rfl (fun w => by kernel_rfl)) (equalB_any _ _ (hS.rd 2 rfl) (hS.rd 0 rfl) l2 l4 hb11) ?_
       rintro _ w15 ⟨rfl, hb14⟩
       replace hS := hS.call hb14
       refine ⟨_, rfl, ?_⟩
       intro a hA
       refine seq_do (v := .bool false) hA rfl rfl rfl (does_pick rfl rfl rfl rfl) ?_
       intro a hA
       refine seq_do hA rfl rfl rfl (does_assign rfl) ?_
       intro a hA
       refine seq_end ?_
       refine hK6 _ _ ?_
       refine wp_ret ?_
       refine hret _ _ ?_
       refine ends (v := .bool false) hA rfl (.cons (res_tmp rfl) .nil) rfl ?_
       subst hr
       exact ⟨by unfold sameF; rw [hb7, hb8, hb11]; try rfl, hS.bel⟩
   · have hb8' := of_decide_eq_false hb8
     refine seq_call hA rfl rfl rfl (enters_func  rfl rfl (fun w => by kernel_rfl)) (equalB_any _ _ (hS.rd 3 rfl) (hS.rd 1 rfl) l1 l3 hb8) ?_
     rintro _ w17 ⟨rfl, hb16⟩
     replace hS := hS.call hb16
     refine ⟨_, rfl, ?_⟩
     intro a hA
     refine seq_do (v := .bool false) hA rfl rfl rfl (does_pick rfl rfl rfl rfl) ?_
     intro a hA
     refine seq_do hA rfl rfl rfl (does_move rfl) ?_
     intro a hA
     refine seq_skip hA rfl rfl rfl ?_
     intro a hA
     refine seq_skip hA rfl rfl rfl ?_
     intro a hA
     refine seq_skip hA rfl rfl rfl ?_
     intro a hA
     refine seq_skip hA rfl rfl rfl ?_
     intro a hA
     refine seq_skip hA rfl rfl rfl ?_
     intro a hA
     refine seq_do (v := .bool false) hA rfl rfl rfl (does_pick rfl rfl rfl rfl) ?_
     intro a hA
     refine seq_do hA rfl rfl rfl (does_assign rfl) ?_
     intro a hA
     refine seq_end ?_
     refine hK6 _ _ ?_
     refine wp_ret ?_
     refine hret _ _ ?_
     refine ends (v := .bool false) hA rfl (.cons (res_tmp rfl) .nil) rfl ?_
     subst hr
     exact ⟨by unfold sameF; rw [hb7, hb8]; try rfl, hS.bel⟩
 · have hb7' := ne_of_beq_false hb7
   refine seq_do (v := .bool false) hA rfl rfl rfl (does_bin rfl rfl (fun w => ((bin_eqlB Tryd.underlying4) w).trans (by rw [hb7]))) ?_
   intro a hA
   refine seq_do hA rfl rfl rfl (does_move rfl) ?_
   intro a hA
   refine seq_skip hA rfl rfl rfl ?_
   intro a hA
   refine seq_skip hA rfl rfl rfl ?_
   intro a hA
   refine seq_skip hA rfl rfl rfl ?_
   intro a hA
   refine seq_skip hA rfl rfl rfl ?_
   intro a hA
   refine seq_skip hA rfl rfl rfl ?_
   intro a hA
   refine seq_do (v := .bool false) hA rfl rfl rfl (does_pick rfl rfl rfl rfl) ?_
   intro a hA
   refine seq_do hA rfl rfl rfl (does_move rfl) ?_
   intro a hA
   refine seq_skip hA rfl rfl rfl ?_
   intro a hA
   refine seq_skip hA rfl rfl rfl ?_
   intro a hA
   refine seq_skip hA rfl rfl rfl ?_
   intro a hA
   refine seq_skip hA rfl rfl rfl ?_
   intro a hA
   refine seq_skip hA rfl rfl rfl ?_
   intro a hA
   refine seq_do (v := .bool false) hA rfl rfl rfl (does_pick rfl rfl rfl rfl) ?_
   intro a hA
   refine seq_do hA rfl rfl rfl (does_assign rfl) ?_
   intro a hA
   refine seq_end ?_
   refine hK6 _ _ ?_
   refine wp_ret ?_
   refine hret _ _ ?_
   refine ends (v := .bool false) hA rfl (.cons (res_tmp rfl) .nil) rfl ?_
   subst hr
   exact ⟨by unfold sameF; rw [hb7]; try rfl, hS.bel⟩
theorem sameQ_any {w : World} {p q : Q6} {a1 a2 a3 a4 : Option Addr} {ac1 ac2 ac3 ac4 : Nat} (ha : Nm w p a1 ac1 a2 ac2 a3 ac3 a4 ac4) (hl : LenQ p) {u1 u2 u3 u4 : Option Addr} {uc1 uc2 uc3 uc4 : Nat} (hu : Nm w q u1 uc1 u2 uc2 u3 uc3 u4 uc4) (hm : LenQ q) {r : Bool} (hr : sameQ p q = r) : Calls Tryd.prog 14 #[numV p a1 ac1 a2 ac2 a3 ac3 a4 ac4, numV q u1 uc1 u2 uc2 u3 uc3 u4 uc4] w fun e w' => e = .returned (.bool r) ∧ Below w.heap.size w w' := by
 have hS : St w w [] [(u4, q.q2), (u3, q.t2), (u2, q.q1), (u1, q.t1), (a4, p.q2), (a3, p.t2), (a2, p.q1), (a1, p.t1)] [] := ((((((((St.start w).addR ha.s1.rd).addR ha.s2.rd).addR ha.s3.rd).addR ha.s4.rd).addR hu.s1.rd).addR hu.s2.rd).addR hu.s3.rd).addR hu.s4.rd
 refine walk_of (l := [(0, .agg #[.bool p.b1, .slice a1 p.t1.length ac1, .slice a2 p.q1.length ac2, .bool p.b2, .slice a3 p.t2.length ac3, .slice a4 p.q2.length ac4]), (1, .agg #[.bool q.b1, .slice u1 q.t1.length uc1, .slice u2 q.q1.length uc2, .bool q.b2, .slice u3 q.t2.length uc3, .slice u4 q.q2.length uc4])]) Tryd.func14 rfl Tryd.ntmps14 rfl rfl ?_
 intro Q hret hnorm hP a hA
 refine wp_seq_k (fun K1 hK1 => ?_)
 refine wp_region_lit ?_
 refine seq_new hA hS rfl rfl rfl (fun g => .pointer (some ⟨g, 0, none⟩)) (does_box rfl rfl) rfl ?_
 intro g2 w3 hS a hA
 refine seq_new hA hS rfl rfl rfl (fun g => .pointer (some ⟨g, 0, none⟩)) (does_box rfl rfl) rfl ?_
 intro g4 w5 hS a hA
 refine seq_do hA rfl rfl rfl (does_assign rfl) ?_
 intro a hA
 refine seq_end ?_
 refine hK1 _ _ ?_
 refine wp_seq_k (fun K6 hK6 => ?_)
 refine wp_region_lit ?_
 refine seq_do hA rfl rfl rfl (does_loadS hS BiS_isS_27 rfl 1 rfl (cs := [.bool p.b1, .slice a1 p.t1.length ac1, .slice a2 p.q1.length ac2, .bool p.b2, .slice a3 p.t2.length ac3, .slice a4 p.q2.length ac4]) rfl rfl) ?_
 intro a hA
 rcases Bool.eq_false_or_eq_true (soundQ p) with hb7 | hb7
 · refine seq_call hA rfl rfl rfl (enters_func  rfl rfl (fun w => by kernel_rfl)) (soundQ_any (show Nm _ _ a1 ac1 a2 ac2 a3 ac3 a4 ac4 from ⟨⟨(hS.rd 7 rfl), ha.s1.nil, ha.s1.cap⟩, ⟨(hS.rd 6 rfl), ha.s2.nil, ha.s2.cap⟩, ⟨(hS.rd 5 rfl), ha.s3.nil, ha.s3.cap⟩, ⟨(hS.rd 4 rfl), ha.s4.nil, ha.s4.cap⟩⟩) hl hb7) ?_
   rintro _ w9 ⟨rfl, hb8⟩
   replace hS := hS.call hb8
   refine ⟨_, rfl, ?_⟩
   intro a hA
   refine seq_do hA rfl rfl rfl (does_move rfl) ?_
   intro a hA
   refine seq_do hA rfl rfl rfl (does_loadS hS BiS_isS_27 rfl 0 rfl (cs := [.bool q.b1, .slice u1 q.t1.length uc1, .slice u2 q.q1.length uc2, .bool q.b2, .slice u3 q.t2.length uc3, .slice u4 q.q2.length uc4]) rfl rfl) ?_
   intro a hA
   rcases Bool.eq_false_or_eq_true (soundQ q) with hb10 | hb10
   · refine seq_call hA rfl rfl rfl (enters_func  rfl rfl (fun w => by kernel_rfl)) (soundQ_any (show Nm _ _ u1 uc1 u2 uc2 u3 uc3 u4 uc4 from ⟨⟨(hS.rd 3 rfl), hu.s1.nil, hu.s1.cap⟩, ⟨(hS.rd 2 rfl), hu.s2.nil, hu.s2.cap⟩, ⟨(hS.rd 1 rfl), hu.s3.nil, hu.s3.cap⟩, ⟨(hS.rd 0 rfl), hu.s4.nil, hu.s4.cap⟩⟩) hm hb10) ?_
     rintro _ w12 ⟨rfl, hb11⟩
     replace hS := hS.call hb11
     refine ⟨_, rfl, ?_⟩
     intro a hA
     refine seq_do (v := .bool true) hA rfl rfl rfl (does_pick rfl rfl rfl rfl) ?_
     intro a hA
     refine seq_do hA rfl rfl rfl (does_move rfl) ?_
     intro a hA
     refine seq_do (v := .pointer (some ⟨g2, 0, none⟩)) hA rfl rfl rfl (does_field BiS_fld_27_0 rfl rfl) ?_
     intro a hA
     refine seq_do hA rfl rfl rfl (does_loadS hS BiS_isS_25 rfl 1 rfl (cs := [.bool p.b1, .slice a1 p.t1.length ac1, .slice a2 p.q1.length ac2]) rfl rfl) ?_
     intro a hA
     refine seq_do (v := .pointer (some ⟨g4, 0, none⟩)) hA rfl rfl rfl (does_field BiS_fld_27_0 rfl rfl) ?_
     intro a hA
     refine seq_do hA rfl rfl rfl (does_loadS hS BiS_isS_25 rfl 0 rfl (cs := [.bool q.b1, .slice u1 q.t1.length uc1, .slice u2 q.q1.length uc2]) rfl rfl) ?_
     intro a hA
     rcases Bool.eq_false_or_eq_true (sameF p.b1 p.t1 p.q1 q.b1 q.t1 q.q1) with hb13 | hb13
     · refine seq_call hA rfl rfl rfl (enters_func  rfl rfl (fun w => by kernel_rfl)) (sameFr_any ⟨(hS.rd 7 rfl), ha.s1.nil, ha.s1.cap⟩ ⟨(hS.rd 6 rfl), ha.s2.nil, ha.s2.cap⟩ ⟨(hS.rd 3 rfl), hu.s1.nil, hu.s1.cap⟩ ⟨(hS.rd 2 rfl), hu.s2.nil, hu.s2.cap⟩ hl.l1 hl.l2 hm.l1 hm.l2 hb13) ?_
       rintro _ w15 ⟨rfl, hb14⟩
       replace hS := hS.call hb14
       refine ⟨_, rfl, ?_⟩
       intro a hA
       refine seq_do (v := .bool true) hA rfl rfl rfl (does_pick rfl rfl rfl rfl) ?_
       intro a hA
       refine seq_do hA rfl rfl rfl (does_move rfl) ?_
       intro a hA
       refine seq_do (v := .pointer (some ⟨g2, 3, none⟩)) hA rfl rfl rfl (does_field BiS_fld_27_1 rfl rfl) ?_
       intro a hA
       refine seq_do hA rfl rfl rfl (does_loadS hS BiS_isS_25 rfl 1 rfl (cs := [.bool p.b2, .slice a3 p.t2.length ac3, .slice a4 p.q2.length ac4]) rfl rfl) ?_
       intro a hA
       refine seq_do (v := .pointer (some ⟨g4, 3, none⟩)) hA rfl rfl rfl (does_field BiS_fld_27_1 rfl rfl) ?_
       intro a hA
       refine seq_do hA rfl rfl rfl (does_loadS hS BiS_isS_25 rfl 0 rfl (cs := [.bool q.b2, .slice u3 q.t2.length uc3, .slice u4 q.q2.length uc4]) rfl rfl) ?_
       intro a hA
       rcases Bool.eq_false_or_eq_true (sameF p.b2 p.t2 p.q2 q.b2 q.t2 q.q2) with hb16 | hb16
       · refine seq_call hA rfl rfl rfl (enters_func  rfl rfl (fun w => by kernel_rfl)) (sameFr_any ⟨(hS.rd 5 rfl), ha.s3.nil, ha.s3.cap⟩ ⟨(hS.rd 4 rfl), ha.s4.nil, ha.s4.cap⟩ ⟨(hS.rd 1 rfl), hu.s3.nil, hu.s3.cap⟩ ⟨(hS.rd 0 rfl), hu.s4.nil, hu.s4.cap⟩ hl.l3 hl.l4 hm.l3 hm.l4 hb16) ?_
         rintro _ w18 ⟨rfl, hb17⟩
         replace hS := hS.call hb17
         refine ⟨_, rfl, ?_⟩
         intro a hA
         refine seq_do (v := .bool true) hA rfl rfl rfl (does_pick rfl rfl rfl rfl) ?_
         intro a hA
         refine seq_do hA rfl rfl rfl (does_assign rfl) ?_
         intro a hA
         refine seq_end ?_
         refine hK6 _ _ ?_
         refine wp_ret ?_
         refine hret _ _ ?_
         refine ends (v := .bool true) hA rfl (.cons (res_tmp rfl) .nil) rfl ?_
         subst hr
         exact ⟨by unfold sameQ; rw [hb7, hb10, hb13, hb16]; try rfl, hS.bel⟩
       · refine seq_call hA rfl rfl rfl (enters_func  rfl rfl (fun w => by kernel_rfl)) (sameFr_any ⟨(hS.rd 5 rfl), ha.s3.nil, ha.s3.cap⟩ ⟨(hS.rd 4 rfl), ha.s4.nil, ha.s4.cap⟩ ⟨(hS.rd 1 rfl), hu.s3.nil, hu.s3.cap⟩ ⟨(hS.rd 0 rfl), hu.s4.nil, hu.s4.cap⟩ hl.l3 hl.l4 hm.l3 hm.l4 hb16) ?_
         rintro _ w20 ⟨rfl, hb19⟩
         replace hS := hS.call hb19
         refine ⟨_, rfl, ?_⟩
         intro a hA
         refine seq_do (v := .bool false) hA rfl rfl rfl (does_pick rfl rfl rfl rfl) ?_
         intro a hA
         refine seq_do hA rfl rfl rfl (does_assign rfl) ?_
         intro a hA
         refine seq_end ?_
         refine hK6 _ _ ?_
         refine wp_ret ?_
         refine hret _ _ ?_
         refine ends (v := .bool false) hA rfl (.cons (res_tmp rfl) .nil) rfl ?_
         subst hr
         exact ⟨by unfold sameQ; rw [hb7, hb10, hb13, hb16]; try rfl, hS.bel⟩
     · refine seq_call hA rfl rfl rfl (enters_func  rfl rfl (fun w => by kernel_rfl)) (sameFr_any ⟨(hS.rd 7 rfl), ha.s1.nil, ha.s1.cap⟩ ⟨(hS.rd 6 rfl), ha.s2.nil, ha.s2.cap⟩ ⟨(hS.rd 3 rfl), hu.s1.nil, hu.s1.cap⟩ ⟨(hS.rd 2 rfl), hu.s2.nil, hu.s2.cap⟩ hl.l1 hl.l2 hm.l1 hm.l2 hb13) ?_
       rintro _ w22 ⟨rfl, hb21⟩
       replace hS := hS.call hb21
       refine ⟨_, rfl, ?_⟩
       intro a hA
       refine seq_do (v := .bool false) hA rfl rfl rfl (does_pick rfl rfl rfl rfl) ?_
       intro a hA
       refine seq_do hA rfl rfl rfl (does_move rfl) ?_
       intro a hA
       refine seq_skip hA rfl rfl rfl ?_
       intro a hA
       refine seq_skip hA rfl rfl rfl ?_
       intro a hA
       refine seq_skip hA rfl rfl rfl ?_
       intro a hA
       refine seq_skip hA rfl rfl rfl ?_
       intro a hA
       refine seq_skip hA rfl rfl rfl ?_
       intro a hA
       refine seq_do (v := .bool false) hA rfl rfl rfl (does_pick rfl rfl rfl rfl) ?_
       intro a hA
       refine seq_do hA rfl rfl rfl (does_assign rfl) ?_
       intro a hA
       refine seq_end ?_
       refine hK6 _ _ ?_
       refine wp_ret ?_
       refine hret _ _ ?_
       refine ends (v := .bool false) hA rfl (.cons (res_tmp rfl) .nil) rfl ?_
       subst hr
       exact ⟨by unfold sameQ; rw [hb7, hb10, hb13]; try rfl, hS.bel⟩
   · refine seq_call hA rfl rfl rfl (enters_func  rfl rfl (fun w => by kernel_rfl)) (soundQ_any (show Nm _ _ u1 uc1 u2 uc2 u3 uc3 u4 uc4 from ⟨⟨(hS.rd 3 rfl), hu.s1.nil, hu.s1.cap⟩, ⟨(hS.rd 2 rfl), hu.s2.nil, hu.s2.cap⟩, ⟨(hS.rd 1 rfl), hu.s3.nil, hu.s3.cap⟩, ⟨(hS.rd 0 rfl), hu.s4.nil, hu.s4.cap⟩⟩) hm hb10) ?_
     rintro _ w24 ⟨rfl, hb23⟩
     replace hS := hS.call hb23
     refine ⟨_, rfl, ?_⟩
     intro a hA
     refine seq_do (v := .bool false) hA rfl rfl rfl (does_pick rfl rfl rfl rfl) ?_
     intro a hA
     refine seq_do hA rfl rfl rfl (does_move rfl) ?_
     intro a hA
     refine seq_skip hA rfl rfl rfl ?_
     intro a hA
     refine seq_skip hA rfl rfl rfl ?_
     intro a hA
     refine seq_skip hA rfl rfl rfl ?_
     intro a hA
     refine seq_skip hA rfl rfl rfl ?_
     intro a hA
     refine seq_skip hA rfl rfl rfl ?_
     intro a hA
     refine seq_do (v := .bool false) hA rfl rfl rfl (does_pick rfl rfl rfl rfl) ?_
     intro a hA
     refine seq_do hA rfl rfl rfl (does_move rfl) ?_
     intro a hA
     refine seq_skip hA rfl rfl rfl ?_
     intro a hA
     refine seq_skip hA rfl rfl rfl ?_
     intro a hA
     refine seq_skip hA rfl rfl rfl ?_
     intro a hA
     refine seq_skip hA rfl rfl rfl ?_
     intro a hA
     refine seq_skip hA rfl rfl rfl ?_
     intro a hA
     refine seq_do (v := .bool false) hA rfl rfl rfl (does_pick rfl rfl rfl rfl) ?_
     intro a hA
     refine seq_do hA rfl rfl rfl (does_assign rfl) ?_
     intro a hA
     refine seq_end ?_
     refine hK6 _ _ ?_
     refine wp_ret ?_
     refine hret _ _ ?_
     refine ends (v := .bool false) hA rfl (.cons (res_tmp rfl) .nil) rfl ?_
     subst hr
     exact ⟨by unfold sameQ; rw [hb7, hb10]; try rfl, hS.bel⟩
 · refine seq_call hA rfl rfl rfl (enters_func  rfl rfl (fun w => by kernel_rfl)) (soundQ_any (show Nm _ _ a1 ac1 a2 ac2 a3 ac3 a4 ac4 from ⟨⟨(hS.rd 7 rfl), ha.s1.nil, ha.s1.cap⟩, ⟨(hS.rd 6 rfl), ha.s2.nil, ha.s2.cap⟩, ⟨(hS.rd 5 rfl), ha.s3.nil, ha.s3.cap⟩, ⟨(hS.rd 4 rfl), ha.s4.nil, ha.s4.cap⟩⟩) hl hb7) ?_
   rintro _ w26 ⟨rfl, hb25⟩
   replace hS := hS.call hb25
   refine ⟨_, rfl, ?_⟩
   intro a hA
   refine seq_do hA rfl rfl rfl (does_move rfl) ?_
   intro a hA
   refine seq_skip hA rfl rfl rfl ?_
   intro a hA
   refine seq_skip hA rfl rfl rfl ?_
   intro a hA
   refine seq_do (v := .bool false) hA rfl rfl rfl (does_pick rfl rfl rfl rfl) ?_
   intro a hA
   refine seq_do hA rfl rfl rfl (does_move rfl) ?_
   intro a hA
   refine seq_skip hA rfl rfl rfl ?_
   intro a hA
   refine seq_skip hA rfl rfl rfl ?_
   intro a hA
   refine seq_skip hA rfl rfl rfl ?_
   intro a hA
   refine seq_skip hA rfl rfl rfl ?_
   intro a hA
   refine seq_skip hA rfl rfl rfl ?_
   intro a hA
   refine seq_do (v := .bool false) hA rfl rfl rfl (does_pick rfl rfl rfl rfl) ?_
   intro a hA
   refine seq_do hA rfl rfl rfl (does_move rfl) ?_
   intro a hA
   refine seq_skip hA rfl rfl rfl ?_
   intro a hA
   refine seq_skip hA rfl rfl rfl ?_
   intro a hA
   refine seq_skip hA rfl rfl rfl ?_
   intro a hA
   refine seq_skip hA rfl rfl rfl ?_
   intro a hA
   refine seq_skip hA rfl rfl rfl ?_
   intro a hA
   refine seq_do (v := .bool false) hA rfl rfl rfl (does_pick rfl rfl rfl rfl) ?_
   intro a hA
   refine seq_do hA rfl rfl rfl (does_assign rfl) ?_
   intro a hA
   refine seq_end ?_
   refine hK6 _ _ ?_
   refine wp_ret ?_
   refine hret _ _ ?_
   refine ends (v := .bool false) hA rfl (.cons (res_tmp rfl) .nil) rfl ?_
   subst hr
   exact ⟨by unfold sameQ; rw [hb7]; try rfl, hS.bel⟩
end Go.Proofs.YtbajcflbimmnhaaDoor
namespace Go.Proofs.YtbajcflbimmnhaaDoor
open Go.RowKit
set_option linter.unusedVariables false
set_option linter.unusedSimpArgs false

end Go.Proofs.YtbajcflbimmnhaaDoor
namespace Go.Proofs.YtbajcflbimmnhaaDoor
open Go.RowKit
set_option linter.unusedVariables false
set_option linter.unusedSimpArgs false
set_option maxRecDepth 100000


end Go.Proofs.YtbajcflbimmnhaaDoor
namespace Go.Proofs.YtbajcflbimmnhaaDoor
open Go.RowKit
set_option linter.unusedVariables false
set_option linter.unusedSimpArgs false
set_option maxRecDepth 100000
end Go.Proofs.YtbajcflbimmnhaaDoor
namespace Go.Proofs.YtbajcflbimmnhaaDoor
open Go.RowKit
set_option linter.unusedVariables false
set_option linter.unusedSimpArgs false

/-- The size of -a - 1. -/
def turnN (b : Bool) (x : Nat) : Nat := cond b (x - 1) (x + 1)
end Go.Proofs.YtbajcflbimmnhaaDoor
namespace Go.Proofs.YtbajcflbimmnhaaDoor
open Go.RowKit
set_option linter.unusedVariables false
set_option linter.unusedSimpArgs false
set_option maxRecDepth 100000
end Go.Proofs.YtbajcflbimmnhaaDoor
namespace Go.Proofs.YtbajcflbimmnhaaDoor
open Go.RowKit
set_option linter.unusedVariables false
set_option linter.unusedSimpArgs false

def notQ (q : Q6) : Q6 × Int := if want1 q = 0 then bigS (!q.b1) (turnN q.b1 (val q.t1)) else (Q6.zero, want1 q)
theorem notQ_whole {b : Bool} {x : Nat} (h : want1 (Q6.whole b x) = 0) : notQ (Q6.whole b x) = bigS (!b) (turnN b x) := by
  unfold notQ; rw [if_pos h]; simp only [Q6.whole, val_words]
theorem turn_sum {b : Bool} {x : Nat} (hb : b.toNat ≤ x) : x - b.toNat + (!b).toNat = turnN b x := by cases b <;> simp [turnN]
end Go.Proofs.YtbajcflbimmnhaaDoor
namespace Go.Proofs.YtbajcflbimmnhaaDoor
open Go.RowKit
set_option linter.unusedVariables false
set_option linter.unusedSimpArgs false
set_option maxRecDepth 100000
end Go.Proofs.YtbajcflbimmnhaaDoor
namespace Go.Proofs.YtbajcflbimmnhaaDoor
open Go.RowKit
set_option linter.unusedVariables false
set_option linter.unusedSimpArgs false

section
variable {P : Program} {l : List (Nat × Value)} {dst : Option Tmp} {ty t : TypeId} {pos : String} {after : Array Edge} {guard : Option (Nat × Bool)} {w : World} {x y : Operand}
theorem does_indexS {s : ByteArray} {i m : Nat} (hu : P.underlying t = some .string) (hx : ev l x = some (.string s)) (hi : ev l y = some (.int .u32 ((i : Nat) : Int))) (ht : (s[i]?).map (·.toNat) = some m) :
    Does P l ⟨dst, .index t x y, ty, pos, after, guard⟩ w (.int .u8 ((m : Nat) : Int)) w := fun ρ h => by
  cases hs : s[i]? with
  | none => rw [hs] at ht; cases ht
  | some b =>
    rw [hs] at ht
    simp only [Option.map_some, Option.some.injEq] at ht
    subst ht
    simp [execOp, h x _ hx, h y _ hi, Instr.index, run_underlying hu, asIntOf, go_sem, hs]
end
end Go.Proofs.YtbajcflbimmnhaaDoor
namespace Go.Proofs.YtbajcflbimmnhaaDoor
open Go.RowKit
set_option linter.unusedVariables false
set_option linter.unusedSimpArgs false
set_option maxRecDepth 100000


end Go.Proofs.YtbajcflbimmnhaaDoor
namespace Go.Proofs.YtbajcflbimmnhaaDoor
open Go.RowKit
set_option linter.unusedVariables false
set_option linter.unusedSimpArgs false

section
variable {fop : Nat → Nat → Nat} {fb : Bool → Bool → Bool} {b1 b2 : Bool} {y1 y2 : Nat}
end
section
variable {P : Program} {t : TypeId} {a b : Operand} {x y : Nat}
end
end Go.Proofs.YtbajcflbimmnhaaDoor
namespace Go.Proofs.YtbajcflbimmnhaaDoor
open Go.RowKit
set_option linter.unusedVariables false
set_option linter.unusedSimpArgs false
set_option maxRecDepth 100000
end Go.Proofs.YtbajcflbimmnhaaDoor
namespace Go.Proofs.YtbajcflbimmnhaaDoor
open Go.RowKit
set_option linter.unusedVariables false
set_option linter.unusedSimpArgs false

theorem sub_len {b : Bool} {x k : Nat} (h : (words x).length ≤ k) : (words (x - b.toNat)).length ≤ k := Nat.le_trans (words_mono (Nat.sub_le x b.toNat)) h
end Go.Proofs.YtbajcflbimmnhaaDoor
namespace Go.Proofs.YtbajcflbimmnhaaDoor
open Go.RowKit
set_option linter.unusedVariables false
set_option linter.unusedSimpArgs false
set_option maxRecDepth 100000
theorem BiJ_isS_27 : IsS Tryd.prog 27 6 := ⟨⟨_, Tryd.underlying27⟩, by kernel_rfl⟩
theorem notW_any {w : World} {b : Bool} {x : Nat} {a1 a2 a3 a4 : Option Addr} {ac1 ac2 ac3 ac4 : Nat} (ha : Nm w (Q6.whole b x) a1 ac1 a2 ac2 a3 ac3 a4 ac4) (hl : LenQ (Q6.whole b x))  (hw : want1 (Q6.whole b x) = 0) (hx : (words x).length ≤ 512) (hb : b.toNat ≤ x) : Calls Tryd.prog 46 #[numV (Q6.whole b x) a1 ac1 a2 ac2 a3 ac3 a4 ac4] w (AnsN w (notQ (Q6.whole b x))) := by
 have hS : St w w [] [(a4, [1]), (a3, []), (a2, [1]), (a1, words x)] [] := ((((St.start w).addR ha.s1.rd).addR ha.s2.rd).addR ha.s3.rd).addR ha.s4.rd
 refine walk_of (l := [(0, .agg #[.bool b, .slice a1 ((words x).length) ac1, .slice a2 1 ac2, .bool false, .slice a3 0 ac3, .slice a4 1 ac4])]) Tryd.func46 rfl Tryd.ntmps46 rfl rfl ?_
 intro Q hret hnorm hP a hA
 refine wp_seq_k (fun K1 hK1 => ?_)
 refine wp_region_lit ?_
 refine seq_new hA hS rfl rfl rfl (fun g => .pointer (some ⟨g, 0, none⟩)) (does_box rfl rfl) rfl ?_
 intro g2 w3 hS a hA
 refine seq_new (vs := [.bool false, .slice none 0 0, .slice none 0 0, .bool false, .slice none 0 0, .slice none 0 0]) (t := 27) hA hS rfl rfl rfl (fun g => .pointer (some ⟨g, 0, none⟩)) (does_alloc (z := .agg #[.bool false, .slice none 0 0, .slice none 0 0, .bool false, .slice none 0 0, .slice none 0 0]) (by kernel_rfl) rfl) rfl ?_
 intro g4 w5 hS a hA
 refine seq_do hA rfl rfl rfl (does_assign rfl) ?_
 intro a hA
 refine seq_end ?_
 refine hK1 _ _ ?_
 refine wp_seq_k (fun K6 hK6 => ?_)
 refine wp_seq_k (fun K7 hK7 => ?_)
 refine wp_region_lit ?_
 refine seq_do hA rfl rfl rfl (does_loadS hS BiJ_isS_27 rfl 1 rfl (cs := [.bool b, .slice a1 ((words x).length) ac1, .slice a2 1 ac2, .bool false, .slice a3 0 ac3, .slice a4 1 ac4]) rfl rfl) ?_
 intro a hA
 refine seq_new (vs := [.bool b, .slice a1 ((words x).length) ac1, .slice a2 1 ac2, .bool false, .slice a3 0 ac3, .slice a4 1 ac4]) (t := 27) hA hS rfl rfl rfl (fun g => .slice (some ⟨g, 0, none⟩) 1 1) (does_buildSlice rfl (by kernel_rfl)) rfl ?_
 intro g8 w9 hS a hA
 refine seq_call hA rfl rfl rfl (enters_func  rfl rfl (fun w => by kernel_rfl)) (want1_any (show Nm _ (Q6.whole b x) a1 ac1 a2 ac2 a3 ac3 a4 ac4 from ⟨⟨(hS.rd 3 rfl), ha.s1.nil, ha.s1.cap⟩, ⟨(hS.rd 2 rfl), ha.s2.nil, ha.s2.cap⟩, ⟨(hS.rd 1 rfl), ha.s3.nil, ha.s3.cap⟩, ⟨(hS.rd 0 rfl), ha.s4.nil, ha.s4.cap⟩⟩) hl (hS.blk 0 rfl) hw) ?_
 rintro _ w11 ⟨rfl, hb10⟩
 replace hS := hS.call hb10
 refine ⟨_, rfl, ?_⟩
 intro a hA
 refine seq_do hA rfl rfl rfl (does_assign rfl) ?_
 intro a hA
 refine seq_end ?_
 refine hK7 _ _ ?_
 refine wp_seq_k (fun K12 hK12 => ?_)
 refine wp_region_lit ?_
 refine seq_do hA rfl rfl rfl (does_move rfl) ?_
 intro a hA
 refine seq_do (v := .bool false) hA rfl rfl rfl (does_bin rfl rfl (fun w => by kernel_rfl)) ?_
 intro a hA
 refine seq_end ?_
 refine hK12 _ _ ?_
 refine wp_cond_false (hA.ev rfl) ?_
 refine wp_skip ?_
 refine hK6 _ _ ?_
 refine wp_seq_k (fun K13 hK13 => ?_)
 refine wp_region_lit ?_
 refine seq_do hA rfl rfl rfl (does_loadS hS BiJ_isS_27 rfl 2 rfl (cs := [.bool b, .slice a1 ((words x).length) ac1, .slice a2 1 ac2, .bool false, .slice a3 0 ac3, .slice a4 1 ac4]) rfl rfl) ?_
 intro a hA
 refine seq_call hA rfl rfl rfl (enters_func  rfl rfl (fun w => by kernel_rfl)) (rowOf_any (show Nm _ (Q6.whole b x) a1 ac1 a2 ac2 a3 ac3 a4 ac4 from ⟨⟨(hS.rd 3 rfl), ha.s1.nil, ha.s1.cap⟩, ⟨(hS.rd 2 rfl), ha.s2.nil, ha.s2.cap⟩, ⟨(hS.rd 1 rfl), ha.s3.nil, ha.s3.cap⟩, ⟨(hS.rd 0 rfl), ha.s4.nil, ha.s4.cap⟩⟩) hx hb) ?_
 rintro _ w18 ⟨ro14, rc15, rfl, hs16, hb17⟩
 replace hS := hS.call hb17
 replace hS := hS.addR hs16.rd
 refine ⟨_, rfl, ?_⟩
 intro a hA
 refine seq_call hA rfl rfl rfl (enters_func  rfl rfl (fun w => by kernel_rfl)) (turned_any) ?_
 rintro _ w20 ⟨rfl, hb19⟩
 replace hS := hS.call hb19
 refine ⟨_, rfl, ?_⟩
 intro a hA
 refine seq_call hA rfl rfl rfl (enters_func  rfl rfl (fun w => by kernel_rfl)) (number_any (b := !b) ⟨(hS.rd 0 rfl), hs16.nil, hs16.cap⟩ (sub_len hx)) ?_
 rintro _ w24 ⟨p21_1, p21_c1, p21_2, p21_c2, p21_3, p21_c3, p21_4, p21_c4, rfl, hn22, hb23⟩
 replace hS := hS.call hb23
 replace hS := hS.addR hn22.s1.rd
 replace hS := hS.addR hn22.s2.rd
 replace hS := hS.addR hn22.s3.rd
 replace hS := hS.addR hn22.s4.rd
 refine ⟨_, rfl, ?_⟩
 intro a hA
 refine seq_do (v := .agg #[.bool ((bigS (!b) (x - b.toNat + (!b).toNat)).1.b1), .slice p21_1 (((bigS (!b) (x - b.toNat + (!b).toNat)).1.t1).length) p21_c1, .slice p21_2 (((bigS (!b) (x - b.toNat + (!b).toNat)).1.q1).length) p21_c2, .bool ((bigS (!b) (x - b.toNat + (!b).toNat)).1.b2), .slice p21_3 (((bigS (!b) (x - b.toNat + (!b).toNat)).1.t2).length) p21_c3, .slice p21_4 (((bigS (!b) (x - b.toNat + (!b).toNat)).1.q2).length) p21_c4]) hA rfl rfl rfl (does_extract (vs := [.agg #[.bool ((bigS (!b) (x - b.toNat + (!b).toNat)).1.b1), .slice p21_1 (((bigS (!b) (x - b.toNat + (!b).toNat)).1.t1).length) p21_c1, .slice p21_2 (((bigS (!b) (x - b.toNat + (!b).toNat)).1.q1).length) p21_c2, .bool ((bigS (!b) (x - b.toNat + (!b).toNat)).1.b2), .slice p21_3 (((bigS (!b) (x - b.toNat + (!b).toNat)).1.t2).length) p21_c3, .slice p21_4 (((bigS (!b) (x - b.toNat + (!b).toNat)).1.q2).length) p21_c4], .int .i64 ((bigS (!b) (x - b.toNat + (!b).toNat)).2)]) rfl rfl) ?_
 intro a hA
 refine seq_do (v := .int .i64 ((bigS (!b) (x - b.toNat + (!b).toNat)).2)) hA rfl rfl rfl (does_extract (vs := [.agg #[.bool ((bigS (!b) (x - b.toNat + (!b).toNat)).1.b1), .slice p21_1 (((bigS (!b) (x - b.toNat + (!b).toNat)).1.t1).length) p21_c1, .slice p21_2 (((bigS (!b) (x - b.toNat + (!b).toNat)).1.q1).length) p21_c2, .bool ((bigS (!b) (x - b.toNat + (!b).toNat)).1.b2), .slice p21_3 (((bigS (!b) (x - b.toNat + (!b).toNat)).1.t2).length) p21_c3, .slice p21_4 (((bigS (!b) (x - b.toNat + (!b).toNat)).1.q2).length) p21_c4], .int .i64 ((bigS (!b) (x - b.toNat + (!b).toNat)).2)]) rfl rfl) ?_
 intro a hA
 refine seq_store (us := [.bool ((bigS (!b) (x - b.toNat + (!b).toNat)).1.b1), .slice p21_1 (((bigS (!b) (x - b.toNat + (!b).toNat)).1.t1).length) p21_c1, .slice p21_2 (((bigS (!b) (x - b.toNat + (!b).toNat)).1.q1).length) p21_c2, .bool ((bigS (!b) (x - b.toNat + (!b).toNat)).1.b2), .slice p21_3 (((bigS (!b) (x - b.toNat + (!b).toNat)).1.t2).length) p21_c3, .slice p21_4 (((bigS (!b) (x - b.toNat + (!b).toNat)).1.q2).length) p21_c4]) hA hS rfl rfl (sets_store rfl rfl rfl (by kernel_rfl) hS 1 rfl rfl rfl) 1 rfl rfl rfl rfl ?_
 intro w25 hS
 refine seq_do hA rfl rfl rfl (does_assign rfl) ?_
 intro a hA
 refine seq_end ?_
 refine hK13 _ _ ?_
 refine wp_ret ?_
 refine hret _ _ ?_
 refine ends (v := .tuple #[.agg #[.bool ((bigS (!b) (x - b.toNat + (!b).toNat)).1.b1), .slice p21_1 (((bigS (!b) (x - b.toNat + (!b).toNat)).1.t1).length) p21_c1, .slice p21_2 (((bigS (!b) (x - b.toNat + (!b).toNat)).1.q1).length) p21_c2, .bool ((bigS (!b) (x - b.toNat + (!b).toNat)).1.b2), .slice p21_3 (((bigS (!b) (x - b.toNat + (!b).toNat)).1.t2).length) p21_c3, .slice p21_4 (((bigS (!b) (x - b.toNat + (!b).toNat)).1.q2).length) p21_c4], .int .i64 ((bigS (!b) (x - b.toNat + (!b).toNat)).2)]) hA rfl (.cons (res_cell hS BiJ_isS_27 rfl 1 rfl (cs := [.bool ((bigS (!b) (x - b.toNat + (!b).toNat)).1.b1), .slice p21_1 (((bigS (!b) (x - b.toNat + (!b).toNat)).1.t1).length) p21_c1, .slice p21_2 (((bigS (!b) (x - b.toNat + (!b).toNat)).1.q1).length) p21_c2, .bool ((bigS (!b) (x - b.toNat + (!b).toNat)).1.b2), .slice p21_3 (((bigS (!b) (x - b.toNat + (!b).toNat)).1.t2).length) p21_c3, .slice p21_4 (((bigS (!b) (x - b.toNat + (!b).toNat)).1.q2).length) p21_c4]) rfl rfl) (.cons (res_tmp rfl) .nil)) rfl ?_
 rw [notQ_whole hw, ← turn_sum hb]
 exact ⟨p21_1, p21_c1, p21_2, p21_c2, p21_3, p21_c3, p21_4, p21_c4, rfl, ⟨⟨(hS.rd 3 rfl), hn22.s1.nil, hn22.s1.cap⟩, ⟨(hS.rd 2 rfl), hn22.s2.nil, hn22.s2.cap⟩, ⟨(hS.rd 1 rfl), hn22.s3.nil, hn22.s3.cap⟩, ⟨(hS.rd 0 rfl), hn22.s4.nil, hn22.s4.cap⟩⟩, hS.bel⟩
end Go.Proofs.YtbajcflbimmnhaaDoor
namespace Go.Proofs.YtbajcflbimmnhaaDoor
open Go.RowKit
set_option linter.unusedVariables false
set_option linter.unusedSimpArgs false
end Go.Proofs.YtbajcflbimmnhaaDoor
namespace Go.Proofs.YtbajcflbimmnhaaDoor
open Go.RowKit
set_option linter.unusedVariables false
set_option linter.unusedSimpArgs false
set_option maxRecDepth 100000
end Go.Proofs.YtbajcflbimmnhaaDoor
namespace Go.Proofs.YtbajcflbimmnhaaDoor
open Go.RowKit
set_option linter.unusedVariables false
set_option linter.unusedSimpArgs false
set_option maxRecDepth 100000
theorem ExI_is1_23 : Is1 Tryd.prog 23 := ⟨⟨_, Tryd.underlying23, rfl⟩, by kernel_rfl⟩
theorem ExI_is1_4 : Is1 Tryd.prog 4 := ⟨⟨_, Tryd.underlying4, rfl⟩, by kernel_rfl⟩
theorem ExI_fld_60_0 : FieldAt Tryd.prog 60 0 0 := ⟨_, _, Tryd.underlying60, rfl, rfl, by kernel_rfl⟩
theorem ExI_fld_60_1 : FieldAt Tryd.prog 60 1 1 := ⟨_, _, Tryd.underlying60, rfl, rfl, by kernel_rfl⟩
theorem ExI_isS_25 : IsS Tryd.prog 25 3 := ⟨⟨_, Tryd.underlying25⟩, by kernel_rfl⟩
theorem ExI_isS_60 : IsS Tryd.prog 60 2 := ⟨⟨_, Tryd.underlying60⟩, by kernel_rfl⟩
theorem zsigned_any {w : World} {b : Bool} {n : Nat} {z : Int} {so : Option Addr} {c : Nat} (hs : Sc w so c (words n)) (hz : sgn b n = z) : Calls Tryd.prog 59 #[.bool b, .slice so (words n).length c] w (AnsZ w z) := by
 cases b
 · have hS : St w w [] [(so, words n)] [] := (St.start w).addR hs.rd
   refine walk_of (l := [(0, .bool false), (1, .slice so ((words n).length) c)]) Tryd.func59 rfl Tryd.ntmps59 rfl rfl ?_
   intro Q hret hnorm hP a hA
   refine wp_seq_k (fun K1 hK1 => ?_)
   refine wp_region_lit ?_
   refine seq_new (vs := [.bool false, .slice none 0 0]) (t := 60) hA hS rfl rfl rfl (fun g => .pointer (some ⟨g, 0, none⟩)) (does_alloc (z := .agg #[.bool false, .slice none 0 0]) (by kernel_rfl) rfl) rfl ?_
   intro g2 w3 hS a hA
   refine seq_end ?_
   refine hK1 _ _ ?_
   refine wp_seq_k (fun K4 hK4 => ?_)
   refine wp_region_lit ?_
   refine seq_do hA rfl rfl rfl (does_move rfl) ?_
   intro a hA
   refine seq_do hA rfl rfl rfl (does_move rfl) ?_
   intro a hA
   refine seq_skip hA rfl rfl rfl ?_
   intro a hA
   refine seq_skip hA rfl rfl rfl ?_
   intro a hA
   refine seq_skip hA rfl rfl rfl ?_
   intro a hA
   refine seq_do (v := .bool false) hA rfl rfl rfl (does_pick rfl rfl rfl rfl) ?_
   intro a hA
   refine seq_do hA rfl rfl rfl (does_move rfl) ?_
   intro a hA
   refine seq_do (v := .agg #[.bool false, .slice so ((words n).length) c]) hA rfl rfl rfl (does_build rfl (fun w => by kernel_rfl)) ?_
   intro a hA
   refine seq_store (us := [.bool false, .slice so ((words n).length) c]) hA hS rfl rfl (sets_store rfl rfl rfl (by kernel_rfl) hS 0 rfl rfl rfl) 0 rfl rfl rfl rfl ?_
   intro w5 hS
   refine seq_end ?_
   refine hK4 _ _ ?_
   refine wp_ret ?_
   refine hret _ _ ?_
   refine ends (v := .agg #[.bool false, .slice so ((words n).length) c]) hA rfl (.cons (res_cell hS ExI_isS_60 rfl 0 rfl (cs := [.bool false, .slice so ((words n).length) c]) rfl rfl) .nil) rfl ?_
   exact AnsZ.sgn hz (by simp [rb, sgn]) ⟨(hS.rd 0 rfl), hs.nil, hs.cap⟩ hS.bel
 · have hS : St w w [] [(so, words n)] [] := (St.start w).addR hs.rd
   refine walk_of (l := [(0, .bool true), (1, .slice so ((words n).length) c)]) Tryd.func59 rfl Tryd.ntmps59 rfl rfl ?_
   intro Q hret hnorm hP a hA
   refine wp_seq_k (fun K1 hK1 => ?_)
   refine wp_region_lit ?_
   refine seq_new (vs := [.bool false, .slice none 0 0]) (t := 60) hA hS rfl rfl rfl (fun g => .pointer (some ⟨g, 0, none⟩)) (does_alloc (z := .agg #[.bool false, .slice none 0 0]) (by kernel_rfl) rfl) rfl ?_
   intro g2 w3 hS a hA
   refine seq_end ?_
   refine hK1 _ _ ?_
   refine wp_seq_k (fun K4 hK4 => ?_)
   refine wp_region_lit ?_
   refine seq_do hA rfl rfl rfl (does_move rfl) ?_
   intro a hA
   refine seq_do hA rfl rfl rfl (does_move rfl) ?_
   intro a hA
   refine seq_do hA rfl rfl rfl (does_move rfl) ?_
   intro a hA
   refine seq_do (v := .int .i64 ((((words n).length : Nat) : Int))) hA rfl rfl rfl (does_len Tryd.underlying23 rfl) ?_
   intro a hA
   rcases Bool.eq_false_or_eq_true (decide (0 < (((words n).length : Nat) : Int))) with hb5 | hb5
   · have hb5' := of_decide_eq_true hb5
     refine seq_do (v := .bool true) hA rfl rfl rfl (does_bin rfl rfl (fun w => (bin_gtr w).trans (by rw [hb5]))) ?_
     intro a hA
     refine seq_do (v := .bool true) hA rfl rfl rfl (does_pick rfl rfl rfl rfl) ?_
     intro a hA
     refine seq_do hA rfl rfl rfl (does_move rfl) ?_
     intro a hA
     refine seq_do (v := .agg #[.bool true, .slice so ((words n).length) c]) hA rfl rfl rfl (does_build rfl (fun w => by kernel_rfl)) ?_
     intro a hA
     refine seq_store (us := [.bool true, .slice so ((words n).length) c]) hA hS rfl rfl (sets_store rfl rfl rfl (by kernel_rfl) hS 0 rfl rfl rfl) 0 rfl rfl rfl rfl ?_
     intro w6 hS
     refine seq_end ?_
     refine hK4 _ _ ?_
     refine wp_ret ?_
     refine hret _ _ ?_
     refine ends (v := .agg #[.bool true, .slice so ((words n).length) c]) hA rfl (.cons (res_cell hS ExI_isS_60 rfl 0 rfl (cs := [.bool true, .slice so ((words n).length) c]) rfl rfl) .nil) rfl ?_
     exact AnsZ.sgn hz (by have h9 := words_pos_len n; simp only [rb, sgn]; apply decide_eq_true; simp; omega) ⟨(hS.rd 0 rfl), hs.nil, hs.cap⟩ hS.bel
   · have hb5' := of_decide_eq_false hb5
     refine seq_do (v := .bool false) hA rfl rfl rfl (does_bin rfl rfl (fun w => (bin_gtr w).trans (by rw [hb5]))) ?_
     intro a hA
     refine seq_do (v := .bool false) hA rfl rfl rfl (does_pick rfl rfl rfl rfl) ?_
     intro a hA
     refine seq_do hA rfl rfl rfl (does_move rfl) ?_
     intro a hA
     refine seq_do (v := .agg #[.bool false, .slice so ((words n).length) c]) hA rfl rfl rfl (does_build rfl (fun w => by kernel_rfl)) ?_
     intro a hA
     refine seq_store (us := [.bool false, .slice so ((words n).length) c]) hA hS rfl rfl (sets_store rfl rfl rfl (by kernel_rfl) hS 0 rfl rfl rfl) 0 rfl rfl rfl rfl ?_
     intro w7 hS
     refine seq_end ?_
     refine hK4 _ _ ?_
     refine wp_ret ?_
     refine hret _ _ ?_
     refine ends (v := .agg #[.bool false, .slice so ((words n).length) c]) hA rfl (.cons (res_cell hS ExI_isS_60 rfl 0 rfl (cs := [.bool false, .slice so ((words n).length) c]) rfl rfl) .nil) rfl ?_
     exact AnsZ.sgn hz (by have h9 := words_pos_len n; simp only [rb, sgn]; apply decide_eq_false; simp; omega) ⟨(hS.rd 0 rfl), hs.nil, hs.cap⟩ hS.bel
theorem zopp_any {w : World} {x : Int} {so : Option Addr} {soc : Nat} (hso : Sc w so soc (words x.natAbs)) : Calls Tryd.prog 63 #[.agg #[.bool (rb x), .slice so (words x.natAbs).length soc]] w (AnsZ w (-x)) := by
 have hS : St w w [] [(so, words x.natAbs)] [] := (St.start w).addR hso.rd
 refine walk_of (l := [(0, .agg #[.bool ((rb x)), .slice so ((words x.natAbs).length) soc])]) Tryd.func63 rfl Tryd.ntmps63 rfl rfl ?_
 intro Q hret hnorm hP a hA
 refine wp_seq_k (fun K1 hK1 => ?_)
 refine wp_region_lit ?_
 refine seq_new hA hS rfl rfl rfl (fun g => .pointer (some ⟨g, 0, none⟩)) (does_box rfl rfl) rfl ?_
 intro g2 w3 hS a hA
 refine seq_new (vs := [.bool false, .slice none 0 0]) (t := 60) hA hS rfl rfl rfl (fun g => .pointer (some ⟨g, 0, none⟩)) (does_alloc (z := .agg #[.bool false, .slice none 0 0]) (by kernel_rfl) rfl) rfl ?_
 intro g4 w5 hS a hA
 refine seq_end ?_
 refine hK1 _ _ ?_
 refine wp_seq_k (fun K6 hK6 => ?_)
 refine wp_region_lit ?_
 refine seq_do (v := .pointer (some ⟨g2, 0, none⟩)) hA rfl rfl rfl (does_field ExI_fld_60_0 rfl rfl) ?_
 intro a hA
 refine seq_do hA rfl rfl rfl (does_load1 hS ExI_is1_4 rfl 1 rfl rfl) ?_
 intro a hA
 refine seq_do (v := .bool (!((rb x)))) hA rfl rfl rfl (does_un rfl un_not) ?_
 intro a hA
 refine seq_do (v := .pointer (some ⟨g2, 1, none⟩)) hA rfl rfl rfl (does_field ExI_fld_60_1 rfl rfl) ?_
 intro a hA
 refine seq_do hA rfl rfl rfl (does_load1 hS ExI_is1_23 rfl 1 rfl rfl) ?_
 intro a hA
 refine seq_call hA rfl rfl rfl (enters_func  rfl rfl (fun w => by kernel_rfl)) (zsigned_any (b := !rb x) (n := x.natAbs) (z := -x) ⟨(hS.rd 0 rfl), hso.nil, hso.cap⟩ (zs_opp x)) ?_
 rintro _ w11 ⟨zo7, zc8, rfl, hs9, hb10⟩
 replace hS := hS.call hb10
 replace hS := hS.addR hs9.rd
 refine ⟨_, rfl, ?_⟩
 intro a hA
 refine seq_store (us := [.bool ((rb (-x))), .slice zo7 ((words (-x).natAbs).length) zc8]) hA hS rfl rfl (sets_store rfl rfl rfl (by kernel_rfl) hS 0 rfl rfl rfl) 0 rfl rfl rfl rfl ?_
 intro w12 hS
 refine seq_end ?_
 refine hK6 _ _ ?_
 refine wp_ret ?_
 refine hret _ _ ?_
 refine ends (v := .agg #[.bool ((rb (-x))), .slice zo7 ((words (-x).natAbs).length) zc8]) hA rfl (.cons (res_cell hS ExI_isS_60 rfl 0 rfl (cs := [.bool ((rb (-x))), .slice zo7 ((words (-x).natAbs).length) zc8]) rfl rfl) .nil) rfl ?_
 exact ⟨_, _, rfl, ⟨(hS.rd 0 rfl), hs9.nil, hs9.cap⟩, hS.bel⟩
theorem ztimes_any {w : World} {x y : Int} {so : Option Addr} {soc : Nat} (hso : Sc w so soc (words x.natAbs)) {uo : Option Addr} {uoc : Nat} (huo : Sc w uo uoc (words y.natAbs)) (lx : (words x.natAbs).length ≤ 50000) (ly : (words y.natAbs).length ≤ 50000) : Calls Tryd.prog 61 #[.agg #[.bool (rb x), .slice so (words x.natAbs).length soc], .agg #[.bool (rb y), .slice uo (words y.natAbs).length uoc]] w (AnsZ w (x * y)) := by
 have hS : St w w [] [(uo, words y.natAbs), (so, words x.natAbs)] [] := ((St.start w).addR hso.rd).addR huo.rd
 refine walk_of (l := [(0, .agg #[.bool ((rb x)), .slice so ((words x.natAbs).length) soc]), (1, .agg #[.bool ((rb y)), .slice uo ((words y.natAbs).length) uoc])]) Tryd.func61 rfl Tryd.ntmps61 rfl rfl ?_
 intro Q hret hnorm hP a hA
 refine wp_seq_k (fun K1 hK1 => ?_)
 refine wp_region_lit ?_
 refine seq_new hA hS rfl rfl rfl (fun g => .pointer (some ⟨g, 0, none⟩)) (does_box rfl rfl) rfl ?_
 intro g2 w3 hS a hA
 refine seq_new hA hS rfl rfl rfl (fun g => .pointer (some ⟨g, 0, none⟩)) (does_box rfl rfl) rfl ?_
 intro g4 w5 hS a hA
 refine seq_new (vs := [.bool false, .slice none 0 0]) (t := 60) hA hS rfl rfl rfl (fun g => .pointer (some ⟨g, 0, none⟩)) (does_alloc (z := .agg #[.bool false, .slice none 0 0]) (by kernel_rfl) rfl) rfl ?_
 intro g6 w7 hS a hA
 refine seq_end ?_
 refine hK1 _ _ ?_
 refine wp_seq_k (fun K8 hK8 => ?_)
 refine wp_draw (S := fun w1 => St w w1 [(g4, [.bool ((rb y)), .slice uo ((words y.natAbs).length) uoc]), (g2, [.bool ((rb x)), .slice so ((words x.natAbs).length) soc])] [(uo, words y.natAbs), (so, words x.natAbs)] []) (by kernel_rfl) ?_
 replace hS := hS.drew
 refine any_tk (v := .pointer (some ⟨g2, 0, none⟩)) hA 0 rfl rfl rfl rfl hP (hS.partD (.cons _ (.cons_cons _ (.cons_cons _ .slnil))) 0 rfl (.refl _)) (fun w1 hS => does_field ExI_fld_60_0 rfl rfl) ?_
 intro a hA
 refine any_tk hA 1 rfl rfl rfl rfl hP (hS.partD (.cons _ (.cons_cons _ (.cons_cons _ .slnil))) 0 rfl (.refl _)) (fun w1 hS => does_load1 hS ExI_is1_4 rfl 1 rfl rfl) ?_
 intro a hA
 refine any_tk (v := .pointer (some ⟨g4, 0, none⟩)) hA 2 rfl rfl rfl rfl hP (hS.partD (.cons _ (.cons_cons _ (.cons_cons _ .slnil))) 0 rfl (.refl _)) (fun w1 hS => does_field ExI_fld_60_0 rfl rfl) ?_
 intro a hA
 refine any_tk hA 3 rfl rfl rfl rfl hP (hS.partD (.cons _ (.cons_cons _ (.cons_cons _ .slnil))) 0 rfl (.refl _)) (fun w1 hS => does_load1 hS ExI_is1_4 rfl 0 rfl rfl) ?_
 intro a hA
 refine any_tk (v := .bool (!((rb x) == (rb y)))) hA 4 rfl rfl rfl rfl hP (hS.partD (.cons _ (.cons_cons _ (.cons_cons _ .slnil))) 0 rfl (.refl _)) (fun w1 hS => does_bin rfl rfl (bin_neqB Tryd.underlying4)) ?_
 intro a hA
 refine any_tk (v := .pointer (some ⟨g2, 1, none⟩)) hA 5 rfl rfl rfl rfl hP (hS.partD (.cons _ (.cons_cons _ (.cons_cons _ .slnil))) 0 rfl (.refl _)) (fun w1 hS => does_field ExI_fld_60_1 rfl rfl) ?_
 intro a hA
 refine any_tk hA 6 rfl rfl rfl rfl hP (hS.partD (.cons _ (.cons_cons _ (.cons_cons _ .slnil))) 0 rfl (.refl _)) (fun w1 hS => does_load1 hS ExI_is1_23 rfl 1 rfl rfl) ?_
 intro a hA
 refine any_tk (v := .pointer (some ⟨g4, 1, none⟩)) hA 7 rfl rfl rfl rfl hP (hS.partD (.cons _ (.cons_cons _ (.cons_cons _ .slnil))) 0 rfl (.refl _)) (fun w1 hS => does_field ExI_fld_60_1 rfl rfl) ?_
 intro a hA
 refine any_tk hA 8 rfl rfl rfl rfl hP (hS.partD (.cons _ (.cons_cons _ (.cons_cons _ .slnil))) 0 rfl (.refl _)) (fun w1 hS => does_load1 hS ExI_is1_23 rfl 0 rfl rfl) ?_
 intro a hA
 refine any_one (by kernel_rfl) (op_call hA 9 rfl rfl rfl rfl (enters_func  rfl rfl (fun w => by kernel_rfl)) (product_any _ _ (hS.rd 1 rfl) (hS.rd 0 rfl) (by omega) (by omega)) ?_)
 rintro _ w13 ⟨ro9, rc10, rfl, ho11, hb12⟩
 replace hS := hS.call hb12
 replace hS := hS.addR ho11.rd
 refine ⟨_, rfl, (hS.partD (.cons _ (.cons_cons _ (.cons_cons _ .slnil))) 1 rfl (.refl _)), ?_⟩
 intro a hA
 refine any_one (by kernel_rfl) (op_call hA 10 rfl rfl rfl rfl (enters_func  rfl rfl (fun w => by kernel_rfl)) (zsigned_any (b := !(rb x == rb y)) (n := x.natAbs * y.natAbs) (z := x * y) ⟨(hS.rd 0 rfl), ho11.nocap, ho11.caps⟩ (zs_times x y)) ?_)
 rintro _ w18 ⟨zo14, zc15, rfl, hs16, hb17⟩
 replace hS := hS.call hb17
 replace hS := hS.addR hs16.rd
 refine ⟨_, rfl, (hS.partD (.cons _ (.cons_cons _ (.cons_cons _ .slnil))) 2 rfl (.refl _)), ?_⟩
 intro a hA
 refine any_one (by kernel_rfl) (op_store (us := [.bool ((rb (x * y))), .slice zo14 ((words (x * y).natAbs).length) zc15]) hA hS 11 rfl rfl rfl (sets_store rfl rfl rfl (by kernel_rfl) hS 0 rfl rfl rfl) 0 rfl rfl rfl rfl ?_)
 intro w19 hS
 refine ⟨(hS.partD (.cons _ (.cons_cons _ (.cons_cons _ .slnil))) 2 rfl (.refl _)), ?_⟩
 refine any_end (by kernel_rfl) ?_
 refine hK8 _ _ ?_
 refine wp_ret ?_
 refine hret _ _ ?_
 refine ends (v := .agg #[.bool ((rb (x * y))), .slice zo14 ((words (x * y).natAbs).length) zc15]) hA rfl (.cons (res_cell hS ExI_isS_60 rfl 0 rfl (cs := [.bool ((rb (x * y))), .slice zo14 ((words (x * y).natAbs).length) zc15]) rfl rfl) .nil) rfl ?_
 exact ⟨_, _, rfl, ⟨(hS.rd 0 rfl), hs16.nil, hs16.cap⟩, hS.bel⟩
theorem zplus_any {w : World} {x y : Int} {so : Option Addr} {soc : Nat} (hso : Sc w so soc (words x.natAbs)) {uo : Option Addr} {uoc : Nat} (huo : Sc w uo uoc (words y.natAbs)) (lx : (words x.natAbs).length ≤ 50000) (ly : (words y.natAbs).length ≤ 50000) : Calls Tryd.prog 62 #[.agg #[.bool (rb x), .slice so (words x.natAbs).length soc], .agg #[.bool (rb y), .slice uo (words y.natAbs).length uoc]] w (AnsZ w (x + y)) := by
 have hS : St w w [] [(uo, words y.natAbs), (so, words x.natAbs)] [] := ((St.start w).addR hso.rd).addR huo.rd
 refine walk_of (l := [(0, .agg #[.bool ((rb x)), .slice so ((words x.natAbs).length) soc]), (1, .agg #[.bool ((rb y)), .slice uo ((words y.natAbs).length) uoc])]) Tryd.func62 rfl Tryd.ntmps62 rfl rfl ?_
 intro Q hret hnorm hP a hA
 refine wp_seq_k (fun K1 hK1 => ?_)
 refine wp_region_lit ?_
 refine seq_new hA hS rfl rfl rfl (fun g => .pointer (some ⟨g, 0, none⟩)) (does_box rfl rfl) rfl ?_
 intro g2 w3 hS a hA
 refine seq_new hA hS rfl rfl rfl (fun g => .pointer (some ⟨g, 0, none⟩)) (does_box rfl rfl) rfl ?_
 intro g4 w5 hS a hA
 refine seq_new (vs := [.bool false, .slice none 0 0]) (t := 60) hA hS rfl rfl rfl (fun g => .pointer (some ⟨g, 0, none⟩)) (does_alloc (z := .agg #[.bool false, .slice none 0 0]) (by kernel_rfl) rfl) rfl ?_
 intro g6 w7 hS a hA
 refine seq_end ?_
 refine hK1 _ _ ?_
 refine wp_seq_k (fun K8 hK8 => ?_)
 refine wp_seq_k (fun K9 hK9 => ?_)
 refine wp_region_lit ?_
 refine seq_do (v := .pointer (some ⟨g2, 0, none⟩)) hA rfl rfl rfl (does_field ExI_fld_60_0 rfl rfl) ?_
 intro a hA
 refine seq_do hA rfl rfl rfl (does_load1 hS ExI_is1_4 rfl 2 rfl rfl) ?_
 intro a hA
 refine seq_do (v := .pointer (some ⟨g4, 0, none⟩)) hA rfl rfl rfl (does_field ExI_fld_60_0 rfl rfl) ?_
 intro a hA
 refine seq_do hA rfl rfl rfl (does_load1 hS ExI_is1_4 rfl 1 rfl rfl) ?_
 intro a hA
 rcases Bool.eq_false_or_eq_true (((rb x) == (rb y))) with hb10 | hb10
 · have hb10' := eq_of_beq hb10
   refine seq_do (v := .bool true) hA rfl rfl rfl (does_bin rfl rfl (fun w => ((bin_eqlB Tryd.underlying4) w).trans (by rw [hb10]))) ?_
   intro a hA
   refine seq_end ?_
   refine hK9 _ _ ?_
   refine wp_cond_true (hA.ev rfl) ?_
   refine wp_seq_k (fun K11 hK11 => ?_)
   refine wp_draw (S := fun w1 => St w w1 [(g4, [.bool ((rb y)), .slice uo ((words y.natAbs).length) uoc]), (g2, [.bool ((rb x)), .slice so ((words x.natAbs).length) soc])] [(uo, words y.natAbs), (so, words x.natAbs)] []) (by kernel_rfl) ?_
   replace hS := hS.drew
   refine any_tk (v := .pointer (some ⟨g2, 0, none⟩)) hA 0 rfl rfl rfl rfl hP (hS.partD (.cons _ (.cons_cons _ (.cons_cons _ .slnil))) 0 rfl (.refl _)) (fun w1 hS => does_field ExI_fld_60_0 rfl rfl) ?_
   intro a hA
   refine any_tk hA 1 rfl rfl rfl rfl hP (hS.partD (.cons _ (.cons_cons _ (.cons_cons _ .slnil))) 0 rfl (.refl _)) (fun w1 hS => does_load1 hS ExI_is1_4 rfl 1 rfl rfl) ?_
   intro a hA
   refine any_tk (v := .pointer (some ⟨g2, 1, none⟩)) hA 2 rfl rfl rfl rfl hP (hS.partD (.cons _ (.cons_cons _ (.cons_cons _ .slnil))) 0 rfl (.refl _)) (fun w1 hS => does_field ExI_fld_60_1 rfl rfl) ?_
   intro a hA
   refine any_tk hA 3 rfl rfl rfl rfl hP (hS.partD (.cons _ (.cons_cons _ (.cons_cons _ .slnil))) 0 rfl (.refl _)) (fun w1 hS => does_load1 hS ExI_is1_23 rfl 1 rfl rfl) ?_
   intro a hA
   refine any_tk (v := .pointer (some ⟨g4, 1, none⟩)) hA 4 rfl rfl rfl rfl hP (hS.partD (.cons _ (.cons_cons _ (.cons_cons _ .slnil))) 0 rfl (.refl _)) (fun w1 hS => does_field ExI_fld_60_1 rfl rfl) ?_
   intro a hA
   refine any_tk hA 5 rfl rfl rfl rfl hP (hS.partD (.cons _ (.cons_cons _ (.cons_cons _ .slnil))) 0 rfl (.refl _)) (fun w1 hS => does_load1 hS ExI_is1_23 rfl 0 rfl rfl) ?_
   intro a hA
   refine any_one (by kernel_rfl) (op_call hA 6 rfl rfl rfl rfl (enters_func  rfl rfl (fun w => by kernel_rfl)) (sum_any _ _ (hS.rd 1 rfl) (hS.rd 0 rfl) (by omega) (by omega)) ?_)
   rintro _ w16 ⟨ro12, rc13, rfl, ho14, hb15⟩
   replace hS := hS.call hb15
   replace hS := hS.addR ho14.rd
   refine ⟨_, rfl, (hS.partD (.cons _ (.cons_cons _ (.cons_cons _ .slnil))) 1 rfl (.refl _)), ?_⟩
   intro a hA
   refine any_one (by kernel_rfl) (op_call hA 7 rfl rfl rfl rfl (enters_func  rfl rfl (fun w => by kernel_rfl)) (zsigned_any (b := rb x) (n := x.natAbs + y.natAbs) (z := x + y) ⟨(hS.rd 0 rfl), ho14.nocap, ho14.caps⟩ (zs_add hb10)) ?_)
   rintro _ w21 ⟨zo17, zc18, rfl, hs19, hb20⟩
   replace hS := hS.call hb20
   replace hS := hS.addR hs19.rd
   refine ⟨_, rfl, (hS.partD (.cons _ (.cons_cons _ (.cons_cons _ .slnil))) 2 rfl (.refl _)), ?_⟩
   intro a hA
   refine any_one (by kernel_rfl) (op_store (us := [.bool ((rb (x + y))), .slice zo17 ((words (x + y).natAbs).length) zc18]) hA hS 8 rfl rfl rfl (sets_store rfl rfl rfl (by kernel_rfl) hS 0 rfl rfl rfl) 0 rfl rfl rfl rfl ?_)
   intro w22 hS
   refine ⟨(hS.partD (.cons _ (.cons_cons _ (.cons_cons _ .slnil))) 2 rfl (.refl _)), ?_⟩
   refine any_end (by kernel_rfl) ?_
   refine hK11 _ _ ?_
   refine wp_ret ?_
   refine hret _ _ ?_
   refine ends (v := .agg #[.bool ((rb (x + y))), .slice zo17 ((words (x + y).natAbs).length) zc18]) hA rfl (.cons (res_cell hS ExI_isS_60 rfl 0 rfl (cs := [.bool ((rb (x + y))), .slice zo17 ((words (x + y).natAbs).length) zc18]) rfl rfl) .nil) rfl ?_
   exact ⟨_, _, rfl, ⟨(hS.rd 0 rfl), hs19.nil, hs19.cap⟩, hS.bel⟩
 · have hb10' := ne_of_beq_false hb10
   refine seq_do (v := .bool false) hA rfl rfl rfl (does_bin rfl rfl (fun w => ((bin_eqlB Tryd.underlying4) w).trans (by rw [hb10]))) ?_
   intro a hA
   refine seq_end ?_
   refine hK9 _ _ ?_
   refine wp_cond_false (hA.ev rfl) ?_
   refine wp_skip ?_
   refine hK8 _ _ ?_
   refine wp_seq_k (fun K23 hK23 => ?_)
   refine wp_seq_k (fun K24 hK24 => ?_)
   refine wp_region_lit ?_
   refine seq_do (v := .pointer (some ⟨g2, 1, none⟩)) hA rfl rfl rfl (does_field ExI_fld_60_1 rfl rfl) ?_
   intro a hA
   refine seq_do hA rfl rfl rfl (does_load1 hS ExI_is1_23 rfl 2 rfl rfl) ?_
   intro a hA
   refine seq_do (v := .pointer (some ⟨g4, 1, none⟩)) hA rfl rfl rfl (does_field ExI_fld_60_1 rfl rfl) ?_
   intro a hA
   refine seq_do hA rfl rfl rfl (does_load1 hS ExI_is1_23 rfl 1 rfl rfl) ?_
   intro a hA
   rcases Bool.eq_false_or_eq_true (decide (x.natAbs < y.natAbs)) with hb25 | hb25
   · have hb25' := of_decide_eq_true hb25
     refine seq_call hA rfl rfl rfl (enters_func  rfl rfl (fun w => by kernel_rfl)) (order_any _ _ (hS.rd 1 rfl) (hS.rd 0 rfl) (by omega) (by omega)) ?_
     rintro _ w27 ⟨rfl, hb26⟩
     replace hS := hS.call hb26
     refine ⟨_, rfl, ?_⟩
     intro a hA
     refine seq_do (v := .bool true) hA rfl rfl rfl (does_bin rfl rfl (fun w => (bin_lss w).trans (by rw [show (decide (cmpN x.natAbs y.natAbs < 0)) = true from (by have h9 := of_decide_eq_true hb25; apply decide_eq_true; unfold cmpN; split <;> (try split) <;> omega)]))) ?_
     intro a hA
     refine seq_end ?_
     refine hK24 _ _ ?_
     refine wp_cond_true (hA.ev rfl) ?_
     refine wp_region_lit ?_
     refine seq_do hA rfl rfl rfl (does_loadS hS ExI_isS_60 rfl 1 rfl (cs := [.bool ((rb y)), .slice uo ((words y.natAbs).length) uoc]) rfl rfl) ?_
     intro a hA
     refine seq_do hA rfl rfl rfl (does_loadS hS ExI_isS_60 rfl 2 rfl (cs := [.bool ((rb x)), .slice so ((words x.natAbs).length) soc]) rfl rfl) ?_
     intro a hA
     refine seq_store (us := [.bool ((rb y)), .slice uo ((words y.natAbs).length) uoc]) hA hS rfl rfl (sets_store rfl rfl rfl (by kernel_rfl) hS 2 rfl rfl rfl) 2 rfl rfl rfl rfl ?_
     intro w28 hS
     refine seq_store (us := [.bool ((rb x)), .slice so ((words x.natAbs).length) soc]) hA hS rfl rfl (sets_store rfl rfl rfl (by kernel_rfl) hS 1 rfl rfl rfl) 1 rfl rfl rfl rfl ?_
     intro w29 hS
     refine seq_end ?_
     refine hK23 _ _ ?_
     refine wp_seq_k (fun K30 hK30 => ?_)
     refine wp_draw (S := fun w1 => St w w1 [(g4, [.bool ((rb x)), .slice so ((words x.natAbs).length) soc]), (g2, [.bool ((rb y)), .slice uo ((words y.natAbs).length) uoc])] [(uo, words y.natAbs), (so, words x.natAbs)] []) (by kernel_rfl) ?_
     replace hS := hS.drew
     refine any_tk (v := .pointer (some ⟨g2, 0, none⟩)) hA 0 rfl rfl rfl rfl hP (hS.partD (.cons _ (.cons_cons _ (.cons_cons _ .slnil))) 0 rfl (.refl _)) (fun w1 hS => does_field ExI_fld_60_0 rfl rfl) ?_
     intro a hA
     refine any_tk hA 1 rfl rfl rfl rfl hP (hS.partD (.cons _ (.cons_cons _ (.cons_cons _ .slnil))) 0 rfl (.refl _)) (fun w1 hS => does_load1 hS ExI_is1_4 rfl 1 rfl rfl) ?_
     intro a hA
     refine any_tk (v := .pointer (some ⟨g2, 1, none⟩)) hA 2 rfl rfl rfl rfl hP (hS.partD (.cons _ (.cons_cons _ (.cons_cons _ .slnil))) 0 rfl (.refl _)) (fun w1 hS => does_field ExI_fld_60_1 rfl rfl) ?_
     intro a hA
     refine any_tk hA 3 rfl rfl rfl rfl hP (hS.partD (.cons _ (.cons_cons _ (.cons_cons _ .slnil))) 0 rfl (.refl _)) (fun w1 hS => does_load1 hS ExI_is1_23 rfl 1 rfl rfl) ?_
     intro a hA
     refine any_tk (v := .pointer (some ⟨g4, 1, none⟩)) hA 4 rfl rfl rfl rfl hP (hS.partD (.cons _ (.cons_cons _ (.cons_cons _ .slnil))) 0 rfl (.refl _)) (fun w1 hS => does_field ExI_fld_60_1 rfl rfl) ?_
     intro a hA
     refine any_tk hA 5 rfl rfl rfl rfl hP (hS.partD (.cons _ (.cons_cons _ (.cons_cons _ .slnil))) 0 rfl (.refl _)) (fun w1 hS => does_load1 hS ExI_is1_23 rfl 0 rfl rfl) ?_
     intro a hA
     refine any_one (by kernel_rfl) (op_call hA 6 rfl rfl rfl rfl (enters_func  rfl rfl (fun w => by kernel_rfl)) (difference_any _ _ (hS.rd 0 rfl) (hS.rd 1 rfl) (by omega) (by omega)) ?_)
     rintro _ w35 ⟨ro31, rc32, rfl, ho33, hb34⟩
     replace hS := hS.call hb34
     replace hS := hS.addR ho33.rd
     refine ⟨_, rfl, (hS.partD (.cons _ (.cons_cons _ (.cons_cons _ .slnil))) 1 rfl (.refl _)), ?_⟩
     intro a hA
     refine any_one (by kernel_rfl) (op_call hA 7 rfl rfl rfl rfl (enters_func  rfl rfl (fun w => by kernel_rfl)) (zsigned_any (b := rb y) (n := y.natAbs - x.natAbs) (z := x + y) ⟨(hS.rd 0 rfl), ho33.nocap, ho33.caps⟩ (by rw [Int.add_comm]; exact zs_sub (by rw [Bool.beq_comm]; exact hb10) (by omega))) ?_)
     rintro _ w40 ⟨zo36, zc37, rfl, hs38, hb39⟩
     replace hS := hS.call hb39
     replace hS := hS.addR hs38.rd
     refine ⟨_, rfl, (hS.partD (.cons _ (.cons_cons _ (.cons_cons _ .slnil))) 2 rfl (.refl _)), ?_⟩
     intro a hA
     refine any_one (by kernel_rfl) (op_store (us := [.bool ((rb (x + y))), .slice zo36 ((words (x + y).natAbs).length) zc37]) hA hS 8 rfl rfl rfl (sets_store rfl rfl rfl (by kernel_rfl) hS 0 rfl rfl rfl) 0 rfl rfl rfl rfl ?_)
     intro w41 hS
     refine ⟨(hS.partD (.cons _ (.cons_cons _ (.cons_cons _ .slnil))) 2 rfl (.refl _)), ?_⟩
     refine any_end (by kernel_rfl) ?_
     refine hK30 _ _ ?_
     refine wp_ret ?_
     refine hret _ _ ?_
     refine ends (v := .agg #[.bool ((rb (x + y))), .slice zo36 ((words (x + y).natAbs).length) zc37]) hA rfl (.cons (res_cell hS ExI_isS_60 rfl 0 rfl (cs := [.bool ((rb (x + y))), .slice zo36 ((words (x + y).natAbs).length) zc37]) rfl rfl) .nil) rfl ?_
     exact ⟨_, _, rfl, ⟨(hS.rd 0 rfl), hs38.nil, hs38.cap⟩, hS.bel⟩
   · have hb25' := of_decide_eq_false hb25
     refine seq_call hA rfl rfl rfl (enters_func  rfl rfl (fun w => by kernel_rfl)) (order_any _ _ (hS.rd 1 rfl) (hS.rd 0 rfl) (by omega) (by omega)) ?_
     rintro _ w43 ⟨rfl, hb42⟩
     replace hS := hS.call hb42
     refine ⟨_, rfl, ?_⟩
     intro a hA
     refine seq_do (v := .bool false) hA rfl rfl rfl (does_bin rfl rfl (fun w => (bin_lss w).trans (by rw [show (decide (cmpN x.natAbs y.natAbs < 0)) = false from (by have h9 := of_decide_eq_false hb25; apply decide_eq_false; unfold cmpN; split <;> (try split) <;> omega)]))) ?_
     intro a hA
     refine seq_end ?_
     refine hK24 _ _ ?_
     refine wp_cond_false (hA.ev rfl) ?_
     refine wp_skip ?_
     refine hK23 _ _ ?_
     refine wp_seq_k (fun K44 hK44 => ?_)
     refine wp_draw (S := fun w1 => St w w1 [(g4, [.bool ((rb y)), .slice uo ((words y.natAbs).length) uoc]), (g2, [.bool ((rb x)), .slice so ((words x.natAbs).length) soc])] [(uo, words y.natAbs), (so, words x.natAbs)] []) (by kernel_rfl) ?_
     replace hS := hS.drew
     refine any_tk (v := .pointer (some ⟨g2, 0, none⟩)) hA 0 rfl rfl rfl rfl hP (hS.partD (.cons _ (.cons_cons _ (.cons_cons _ .slnil))) 0 rfl (.refl _)) (fun w1 hS => does_field ExI_fld_60_0 rfl rfl) ?_
     intro a hA
     refine any_tk hA 1 rfl rfl rfl rfl hP (hS.partD (.cons _ (.cons_cons _ (.cons_cons _ .slnil))) 0 rfl (.refl _)) (fun w1 hS => does_load1 hS ExI_is1_4 rfl 1 rfl rfl) ?_
     intro a hA
     refine any_tk (v := .pointer (some ⟨g2, 1, none⟩)) hA 2 rfl rfl rfl rfl hP (hS.partD (.cons _ (.cons_cons _ (.cons_cons _ .slnil))) 0 rfl (.refl _)) (fun w1 hS => does_field ExI_fld_60_1 rfl rfl) ?_
     intro a hA
     refine any_tk hA 3 rfl rfl rfl rfl hP (hS.partD (.cons _ (.cons_cons _ (.cons_cons _ .slnil))) 0 rfl (.refl _)) (fun w1 hS => does_load1 hS ExI_is1_23 rfl 1 rfl rfl) ?_
     intro a hA
     refine any_tk (v := .pointer (some ⟨g4, 1, none⟩)) hA 4 rfl rfl rfl rfl hP (hS.partD (.cons _ (.cons_cons _ (.cons_cons _ .slnil))) 0 rfl (.refl _)) (fun w1 hS => does_field ExI_fld_60_1 rfl rfl) ?_
     intro a hA
     refine any_tk hA 5 rfl rfl rfl rfl hP (hS.partD (.cons _ (.cons_cons _ (.cons_cons _ .slnil))) 0 rfl (.refl _)) (fun w1 hS => does_load1 hS ExI_is1_23 rfl 0 rfl rfl) ?_
     intro a hA
     refine any_one (by kernel_rfl) (op_call hA 6 rfl rfl rfl rfl (enters_func  rfl rfl (fun w => by kernel_rfl)) (difference_any _ _ (hS.rd 1 rfl) (hS.rd 0 rfl) (by omega) (by omega)) ?_)
     rintro _ w49 ⟨ro45, rc46, rfl, ho47, hb48⟩
     replace hS := hS.call hb48
     replace hS := hS.addR ho47.rd
     refine ⟨_, rfl, (hS.partD (.cons _ (.cons_cons _ (.cons_cons _ .slnil))) 1 rfl (.refl _)), ?_⟩
     intro a hA
     refine any_one (by kernel_rfl) (op_call hA 7 rfl rfl rfl rfl (enters_func  rfl rfl (fun w => by kernel_rfl)) (zsigned_any (b := rb x) (n := x.natAbs - y.natAbs) (z := x + y) ⟨(hS.rd 0 rfl), ho47.nocap, ho47.caps⟩ (zs_sub hb10 (by omega))) ?_)
     rintro _ w54 ⟨zo50, zc51, rfl, hs52, hb53⟩
     replace hS := hS.call hb53
     replace hS := hS.addR hs52.rd
     refine ⟨_, rfl, (hS.partD (.cons _ (.cons_cons _ (.cons_cons _ .slnil))) 2 rfl (.refl _)), ?_⟩
     intro a hA
     refine any_one (by kernel_rfl) (op_store (us := [.bool ((rb (x + y))), .slice zo50 ((words (x + y).natAbs).length) zc51]) hA hS 8 rfl rfl rfl (sets_store rfl rfl rfl (by kernel_rfl) hS 0 rfl rfl rfl) 0 rfl rfl rfl rfl ?_)
     intro w55 hS
     refine ⟨(hS.partD (.cons _ (.cons_cons _ (.cons_cons _ .slnil))) 2 rfl (.refl _)), ?_⟩
     refine any_end (by kernel_rfl) ?_
     refine hK44 _ _ ?_
     refine wp_ret ?_
     refine hret _ _ ?_
     refine ends (v := .agg #[.bool ((rb (x + y))), .slice zo50 ((words (x + y).natAbs).length) zc51]) hA rfl (.cons (res_cell hS ExI_isS_60 rfl 0 rfl (cs := [.bool ((rb (x + y))), .slice zo50 ((words (x + y).natAbs).length) zc51]) rfl rfl) .nil) rfl ?_
     exact ⟨_, _, rfl, ⟨(hS.rd 0 rfl), hs52.nil, hs52.cap⟩, hS.bel⟩
theorem zscaled_any {w : World} {x : Int} {n : Nat} {so : Option Addr} {soc : Nat} (hso : Sc w so soc (words x.natAbs)) {uo : Option Addr} {uoc : Nat} (huo : Sc w uo uoc (words n)) (lx : (words x.natAbs).length ≤ 50000) (ly : (words n).length ≤ 50000) : Calls Tryd.prog 39 #[.agg #[.bool (rb x), .slice so (words x.natAbs).length soc], .slice uo (words n).length uoc] w (AnsZ w (x * (n : Int))) := by
 have hS : St w w [] [(uo, words n), (so, words x.natAbs)] [] := ((St.start w).addR hso.rd).addR huo.rd
 refine walk_of (l := [(0, .agg #[.bool ((rb x)), .slice so ((words x.natAbs).length) soc]), (1, .slice uo ((words n).length) uoc)]) Tryd.func39 rfl Tryd.ntmps39 rfl rfl ?_
 intro Q hret hnorm hP a hA
 refine wp_seq_k (fun K1 hK1 => ?_)
 refine wp_region_lit ?_
 refine seq_new hA hS rfl rfl rfl (fun g => .pointer (some ⟨g, 0, none⟩)) (does_box rfl rfl) rfl ?_
 intro g2 w3 hS a hA
 refine seq_new (vs := [.bool false, .slice none 0 0]) (t := 60) hA hS rfl rfl rfl (fun g => .pointer (some ⟨g, 0, none⟩)) (does_alloc (z := .agg #[.bool false, .slice none 0 0]) (by kernel_rfl) rfl) rfl ?_
 intro g4 w5 hS a hA
 refine seq_end ?_
 refine hK1 _ _ ?_
 refine wp_seq_k (fun K6 hK6 => ?_)
 refine wp_draw (S := fun w1 => St w w1 [(g2, [.bool ((rb x)), .slice so ((words x.natAbs).length) soc])] [(uo, words n), (so, words x.natAbs)] []) (by kernel_rfl) ?_
 replace hS := hS.drew
 refine any_tk hA 0 rfl rfl rfl rfl hP (hS.partD (.cons _ (.cons_cons _ .slnil)) 0 rfl (.refl _)) (fun w1 hS => does_loadS hS ExI_isS_60 rfl 0 rfl (cs := [.bool ((rb x)), .slice so ((words x.natAbs).length) soc]) rfl rfl) ?_
 intro a hA
 refine any_tk hA 1 rfl rfl rfl rfl hP (hS.partD (.cons _ (.cons_cons _ .slnil)) 0 rfl (.refl _)) (fun w1 hS => does_move rfl) ?_
 intro a hA
 refine any_one (by kernel_rfl) (op_call hA 2 rfl rfl rfl rfl (enters_func  rfl rfl (fun w => by kernel_rfl)) (zsigned_any (b := false) (n := n) (z := ((n : Nat) : Int)) ⟨(hS.rd 0 rfl), huo.nil, huo.cap⟩ rfl) ?_)
 rintro _ w11 ⟨zo7, zc8, rfl, hs9, hb10⟩
 replace hS := hS.call hb10
 replace hS := hS.addR hs9.rd
 refine ⟨_, rfl, (hS.partD (.cons _ (.cons_cons _ .slnil)) 1 rfl (.refl _)), ?_⟩
 intro a hA
 refine any_one (by kernel_rfl) (op_call hA 3 rfl rfl rfl rfl (enters_func  rfl rfl (fun w => by kernel_rfl)) (ztimes_any ⟨(hS.rd 2 rfl), hso.nil, hso.cap⟩ ⟨(hS.rd 0 rfl), hs9.nil, hs9.cap⟩ lx (by rw [Int.natAbs_natCast]; exact ly)) ?_)
 rintro _ w16 ⟨zo12, zc13, rfl, hs14, hb15⟩
 replace hS := hS.call hb15
 replace hS := hS.addR hs14.rd
 refine ⟨_, rfl, (hS.partD (.cons _ (.cons_cons _ .slnil)) 2 rfl (.refl _)), ?_⟩
 intro a hA
 refine any_one (by kernel_rfl) (op_store (us := [.bool ((rb (x * ((n : Nat) : Int)))), .slice zo12 ((words (x * ((n : Nat) : Int)).natAbs).length) zc13]) hA hS 4 rfl rfl rfl (sets_store rfl rfl rfl (by kernel_rfl) hS 0 rfl rfl rfl) 0 rfl rfl rfl rfl ?_)
 intro w17 hS
 refine ⟨(hS.partD (.cons _ (.cons_cons _ .slnil)) 2 rfl (.refl _)), ?_⟩
 refine any_end (by kernel_rfl) ?_
 refine hK6 _ _ ?_
 refine wp_ret ?_
 refine hret _ _ ?_
 refine ends (v := .agg #[.bool ((rb (x * ((n : Nat) : Int)))), .slice zo12 ((words (x * ((n : Nat) : Int)).natAbs).length) zc13]) hA rfl (.cons (res_cell hS ExI_isS_60 rfl 0 rfl (cs := [.bool ((rb (x * ((n : Nat) : Int)))), .slice zo12 ((words (x * ((n : Nat) : Int)).natAbs).length) zc13]) rfl rfl) .nil) rfl ?_
 exact ⟨_, _, rfl, ⟨(hS.rd 0 rfl), hs14.nil, hs14.cap⟩, hS.bel⟩
theorem zlowest_any {w : World} {x : Int} {d : Nat} {so : Option Addr} {soc : Nat} (hso : Sc w so soc (words x.natAbs)) {uo : Option Addr} {uoc : Nat} (huo : Sc w uo uoc (words d)) (lx : (words x.natAbs).length ≤ 50000) (ly : (words d).length ≤ 50000) (hd : d ≠ 0) : Calls Tryd.prog 64 #[.agg #[.bool (rb x), .slice so (words x.natAbs).length soc], .slice uo (words d).length uoc] w (AnsF w (rb x) (words (rt x d)) (words (rq x d))) := by
 have hS : St w w [] [(uo, words d), (so, words x.natAbs)] [] := ((St.start w).addR hso.rd).addR huo.rd
 refine walk_of (l := [(0, .agg #[.bool ((rb x)), .slice so ((words x.natAbs).length) soc]), (1, .slice uo ((words d).length) uoc)]) Tryd.func64 rfl Tryd.ntmps64 rfl rfl ?_
 intro Q hret hnorm hP a hA
 refine wp_seq_k (fun K1 hK1 => ?_)
 refine wp_region_lit ?_
 refine seq_new hA hS rfl rfl rfl (fun g => .pointer (some ⟨g, 0, none⟩)) (does_box rfl rfl) rfl ?_
 intro g2 w3 hS a hA
 refine seq_new (vs := [.bool false, .slice none 0 0, .slice none 0 0]) (t := 25) hA hS rfl rfl rfl (fun g => .pointer (some ⟨g, 0, none⟩)) (does_alloc (z := .agg #[.bool false, .slice none 0 0, .slice none 0 0]) (by kernel_rfl) rfl) rfl ?_
 intro g4 w5 hS a hA
 refine seq_end ?_
 refine hK1 _ _ ?_
 refine wp_seq_k (fun K6 hK6 => ?_)
 refine wp_region_lit ?_
 refine seq_do (v := .pointer (some ⟨g2, 1, none⟩)) hA rfl rfl rfl (does_field ExI_fld_60_1 rfl rfl) ?_
 intro a hA
 refine seq_do hA rfl rfl rfl (does_load1 hS ExI_is1_23 rfl 1 rfl rfl) ?_
 intro a hA
 refine seq_do hA rfl rfl rfl (does_move rfl) ?_
 intro a hA
 refine seq_call hA rfl rfl rfl (enters_func  rfl rfl (fun w => by kernel_rfl)) (divisor_any _ _ (hS.rd 1 rfl) (hS.rd 0 rfl) (by omega) (by omega) hso.nil huo.nil) ?_
 rintro _ w11 ⟨ro7, rc8, rfl, ho9, hb10⟩
 replace hS := hS.call hb10
 replace hS := hS.addR ho9.rd
 refine ⟨_, rfl, ?_⟩
 intro a hA
 refine seq_do hA rfl rfl rfl (does_assign rfl) ?_
 intro a hA
 refine seq_end ?_
 refine hK6 _ _ ?_
 refine wp_seq_k (fun K12 hK12 => ?_)
 refine wp_region_lit ?_
 refine seq_do (v := .pointer (some ⟨g2, 1, none⟩)) hA rfl rfl rfl (does_field ExI_fld_60_1 rfl rfl) ?_
 intro a hA
 refine seq_do hA rfl rfl rfl (does_load1 hS ExI_is1_23 rfl 1 rfl rfl) ?_
 intro a hA
 refine seq_do hA rfl rfl rfl (does_move rfl) ?_
 intro a hA
 refine seq_call hA rfl rfl rfl (enters_func  rfl rfl (fun w => by kernel_rfl)) (divide_any _ _ (hS.rd 2 rfl) (hS.rd 0 rfl) (by omega) (Nat.le_trans (gcd_len hd ly) (by decide)) hso.nil (gcd_ne hd)) ?_
 rintro _ w20 ⟨ro13, rc14, uo15, uc16, rfl, ho17, hp18, hb19⟩
 replace hS := hS.call hb19
 replace hS := hS.addR ho17.rd
 replace hS := hS.addR hp18.rd
 refine ⟨_, rfl, ?_⟩
 intro a hA
 refine seq_do hA rfl rfl rfl (does_move rfl) ?_
 intro a hA
 refine seq_do (v := .slice ro13 ((words (rt x d)).length) rc14) hA rfl rfl rfl (does_extract (vs := [.slice ro13 ((words (rt x d)).length) rc14, .slice uo15 ((words (x.natAbs % Nat.gcd x.natAbs d)).length) uc16]) rfl rfl) ?_
 intro a hA
 refine seq_do (v := .slice uo15 ((words (x.natAbs % Nat.gcd x.natAbs d)).length) uc16) hA rfl rfl rfl (does_extract (vs := [.slice ro13 ((words (rt x d)).length) rc14, .slice uo15 ((words (x.natAbs % Nat.gcd x.natAbs d)).length) uc16]) rfl rfl) ?_
 intro a hA
 refine seq_do hA rfl rfl rfl (does_assign rfl) ?_
 intro a hA
 refine seq_do hA rfl rfl rfl (does_assign rfl) ?_
 intro a hA
 refine seq_end ?_
 refine hK12 _ _ ?_
 refine wp_seq_k (fun K21 hK21 => ?_)
 refine wp_region_lit ?_
 refine seq_do hA rfl rfl rfl (does_move rfl) ?_
 intro a hA
 refine seq_do hA rfl rfl rfl (does_move rfl) ?_
 intro a hA
 refine seq_call hA rfl rfl rfl (enters_func  rfl rfl (fun w => by kernel_rfl)) (divide_any _ _ (hS.rd 3 rfl) (hS.rd 2 rfl) (by omega) (Nat.le_trans (gcd_len hd ly) (by decide)) huo.nil (gcd_ne hd)) ?_
 rintro _ w29 ⟨ro22, rc23, uo24, uc25, rfl, ho26, hp27, hb28⟩
 replace hS := hS.call hb28
 replace hS := hS.addR ho26.rd
 replace hS := hS.addR hp27.rd
 refine ⟨_, rfl, ?_⟩
 intro a hA
 refine seq_do hA rfl rfl rfl (does_move rfl) ?_
 intro a hA
 refine seq_do (v := .slice ro22 ((words (rq x d)).length) rc23) hA rfl rfl rfl (does_extract (vs := [.slice ro22 ((words (rq x d)).length) rc23, .slice uo24 ((words (d % Nat.gcd x.natAbs d)).length) uc25]) rfl rfl) ?_
 intro a hA
 refine seq_do (v := .slice uo24 ((words (d % Nat.gcd x.natAbs d)).length) uc25) hA rfl rfl rfl (does_extract (vs := [.slice ro22 ((words (rq x d)).length) rc23, .slice uo24 ((words (d % Nat.gcd x.natAbs d)).length) uc25]) rfl rfl) ?_
 intro a hA
 refine seq_do hA rfl rfl rfl (does_assign rfl) ?_
 intro a hA
 refine seq_do hA rfl rfl rfl (does_assign rfl) ?_
 intro a hA
 refine seq_end ?_
 refine hK21 _ _ ?_
 refine wp_seq_k (fun K30 hK30 => ?_)
 refine wp_region_lit ?_
 refine seq_do (v := .pointer (some ⟨g2, 0, none⟩)) hA rfl rfl rfl (does_field ExI_fld_60_0 rfl rfl) ?_
 intro a hA
 refine seq_do hA rfl rfl rfl (does_load1 hS ExI_is1_4 rfl 1 rfl rfl) ?_
 intro a hA
 refine seq_do hA rfl rfl rfl (does_move rfl) ?_
 intro a hA
 refine seq_do hA rfl rfl rfl (does_move rfl) ?_
 intro a hA
 refine seq_do (v := .agg #[.bool ((rb x)), .slice ro13 ((words (rt x d)).length) rc14, .slice ro22 ((words (rq x d)).length) rc23]) hA rfl rfl rfl (does_build rfl (fun w => by kernel_rfl)) ?_
 intro a hA
 refine seq_store (us := [.bool ((rb x)), .slice ro13 ((words (rt x d)).length) rc14, .slice ro22 ((words (rq x d)).length) rc23]) hA hS rfl rfl (sets_store rfl rfl rfl (by kernel_rfl) hS 0 rfl rfl rfl) 0 rfl rfl rfl rfl ?_
 intro w31 hS
 refine seq_end ?_
 refine hK30 _ _ ?_
 refine wp_ret ?_
 refine hret _ _ ?_
 refine ends (v := .agg #[.bool ((rb x)), .slice ro13 ((words (rt x d)).length) rc14, .slice ro22 ((words (rq x d)).length) rc23]) hA rfl (.cons (res_cell hS ExI_isS_25 rfl 0 rfl (cs := [.bool ((rb x)), .slice ro13 ((words (rt x d)).length) rc14, .slice ro22 ((words (rq x d)).length) rc23]) rfl rfl) .nil) rfl ?_
 exact ⟨ro13, rc14, ro22, rc23, rfl, ⟨(hS.rd 3 rfl), ho17.nocap, ho17.caps⟩, ⟨(hS.rd 1 rfl), ho26.nocap, ho26.caps⟩, hS.bel⟩
end Go.Proofs.YtbajcflbimmnhaaDoor
namespace Go.Proofs.YtbajcflbimmnhaaDoor
open Go.RowKit
set_option linter.unusedVariables false
set_option linter.unusedSimpArgs false
set_option maxRecDepth 100000
theorem ExJ_is1_23 : Is1 Tryd.prog 23 := ⟨⟨_, Tryd.underlying23, rfl⟩, by kernel_rfl⟩
theorem ExJ_fld_27_0 : FieldAt Tryd.prog 27 0 0 := ⟨_, _, Tryd.underlying27, rfl, rfl, by kernel_rfl⟩
theorem ExJ_fld_27_1 : FieldAt Tryd.prog 27 1 3 := ⟨_, _, Tryd.underlying27, rfl, rfl, by kernel_rfl⟩
theorem ExJ_fld_62_0 : FieldAt Tryd.prog 62 0 0 := ⟨_, _, Tryd.underlying62, rfl, rfl, by kernel_rfl⟩
theorem ExJ_fld_62_1 : FieldAt Tryd.prog 62 1 2 := ⟨_, _, Tryd.underlying62, rfl, rfl, by kernel_rfl⟩
theorem ExJ_fld_62_2 : FieldAt Tryd.prog 62 2 4 := ⟨_, _, Tryd.underlying62, rfl, rfl, by kernel_rfl⟩
theorem ExJ_isS_25 : IsS Tryd.prog 25 3 := ⟨⟨_, Tryd.underlying25⟩, by kernel_rfl⟩
theorem ExJ_isS_27 : IsS Tryd.prog 27 6 := ⟨⟨_, Tryd.underlying27⟩, by kernel_rfl⟩
theorem ExJ_isS_60 : IsS Tryd.prog 60 2 := ⟨⟨_, Tryd.underlying60⟩, by kernel_rfl⟩
theorem ExJ_isS_62 : IsS Tryd.prog 62 5 := ⟨⟨_, Tryd.underlying62⟩, by kernel_rfl⟩
theorem fitsB_any {w : World} {b : Bool} {n m : Nat} {o1 o2 : Option Addr} {c1 c2 : Nat} (h1 : Sc w o1 c1 (words n)) (h2 : Sc w o2 c2 (words m)) (l1 : (words n).length ≤ 9223372036854775807) (l2 : (words m).length ≤ 9223372036854775807) {r : Bool} (hr : (decide ((words n).length ≤ 512) && decide ((words m).length ≤ 512)) = r) :
    Calls Tryd.prog 65 #[.agg #[.bool b, .slice o1 (words n).length c1, .slice o2 (words m).length c2]] w fun e w' => e = .returned (.bool r) ∧ Below w.heap.size w w' := by
  subst hr
  rw [← sound_len, ← sound_len]
  exact fits_any c1 c2 h1.rd h2.rd l1 l2
theorem setQ_pos {x y : Int} {d : Nat} (h1 : (decide ((words (rt x d)).length ≤ 512) && decide ((words (rq x d)).length ≤ 512)) = true) (h2 : (decide ((words (rt y d)).length ≤ 512) && decide ((words (rq y d)).length ≤ 512)) = true) : setQ x y d = (⟨rb x, words (rt x d), words (rq x d), rb y, words (rt y d), words (rq y d)⟩, 0) := by
  simp only [Bool.and_eq_true, decide_eq_true_eq] at h1 h2
  unfold setQ
  rw [if_pos ⟨h1.1, h1.2, h2.1, h2.2⟩]
theorem setQ_neg1 {x y : Int} {d : Nat} (h1 : (decide ((words (rt x d)).length ≤ 512) && decide ((words (rq x d)).length ≤ 512)) = false) : setQ x y d = (Q6.zero, 4) := by
  unfold setQ
  rw [if_neg]
  rintro ⟨a, b, _⟩
  rw [decide_eq_true a, decide_eq_true b] at h1
  cases h1
theorem setQ_neg2 {x y : Int} {d : Nat} (h1 : (decide ((words (rt y d)).length ≤ 512) && decide ((words (rq y d)).length ≤ 512)) = false) : setQ x y d = (Q6.zero, 4) := by
  unfold setQ
  rw [if_neg]
  rintro ⟨_, _, a, b⟩
  rw [decide_eq_true a, decide_eq_true b] at h1
  cases h1
theorem zsettle_any {w : World} {x y : Int} {d : Nat} {a1 a2 a3 : Option Addr} {ac1 ac2 ac3 : Nat} (ha1 : Sc w a1 ac1 (words x.natAbs)) (ha2 : Sc w a2 ac2 (words y.natAbs)) (ha3 : Sc w a3 ac3 (words d)) (l1 : (words x.natAbs).length ≤ 50000) (l2 : (words y.natAbs).length ≤ 50000) (l3 : (words d).length ≤ 50000) (hd : d ≠ 0) : Calls Tryd.prog 34 #[.agg #[.bool (rb x), .slice a1 (words x.natAbs).length ac1, .bool (rb y), .slice a2 (words y.natAbs).length ac2, .slice a3 (words d).length ac3]] w (AnsN w (setQ x y d)) := by
 have hS : St w w [] [(a3, words d), (a2, words y.natAbs), (a1, words x.natAbs)] [] := (((St.start w).addR ha1.rd).addR ha2.rd).addR ha3.rd
 refine walk_of (l := [(0, .agg #[.bool ((rb x)), .slice a1 ((words x.natAbs).length) ac1, .bool ((rb y)), .slice a2 ((words y.natAbs).length) ac2, .slice a3 ((words d).length) ac3])]) Tryd.func34 rfl Tryd.ntmps34 rfl rfl ?_
 intro Q hret hnorm hP a hA
 refine wp_seq_k (fun K1 hK1 => ?_)
 refine wp_region_lit ?_
 refine seq_new hA hS rfl rfl rfl (fun g => .pointer (some ⟨g, 0, none⟩)) (does_box rfl rfl) rfl ?_
 intro g2 w3 hS a hA
 refine seq_new (vs := [.bool false, .slice none 0 0, .slice none 0 0, .bool false, .slice none 0 0, .slice none 0 0]) (t := 27) hA hS rfl rfl rfl (fun g => .pointer (some ⟨g, 0, none⟩)) (does_alloc (z := .agg #[.bool false, .slice none 0 0, .slice none 0 0, .bool false, .slice none 0 0, .slice none 0 0]) (by kernel_rfl) rfl) rfl ?_
 intro g4 w5 hS a hA
 refine seq_do hA rfl rfl rfl (does_assign rfl) ?_
 intro a hA
 refine seq_end ?_
 refine hK1 _ _ ?_
 refine wp_seq_k (fun K6 hK6 => ?_)
 have hJ37 : ∀ a w1, (∃ (J20g : Nat) (J21 : Option Addr) (J22 : Nat) (J23 : Option Addr) (J24 : Nat) (J25 : Option Addr) (J26 : Nat) (J27 : Option Addr) (J28 : Nat), Sl a 28 [(0, .agg #[.bool ((rb x)), .slice a1 ((words x.natAbs).length) ac1, .bool ((rb y)), .slice a2 ((words y.natAbs).length) ac2, .slice a3 ((words d).length) ac3]), (2, .pointer (some ⟨g4, 0, none⟩)), (3, .int .i64 0), (4, .pointer (some ⟨J20g, 0, none⟩))] ∧ St w w1 [(J20g, [.bool ((rb x)), .slice J21 ((words (rt x d)).length) J22, .slice J23 ((words (rq x d)).length) J24, .bool ((rb y)), .slice J25 ((words (rt y d)).length) J26, .slice J27 ((words (rq y d)).length) J28]), (g4, [.bool false, .slice none 0 0, .slice none 0 0, .bool false, .slice none 0 0, .slice none 0 0]), (g2, [.bool ((rb x)), .slice a1 ((words x.natAbs).length) ac1, .bool ((rb y)), .slice a2 ((words y.natAbs).length) ac2, .slice a3 ((words d).length) ac3])] [(J27, words (rq y d)), (J25, words (rt y d)), (J23, words (rq x d)), (J21, words (rt x d)), (a3, words d), (a2, words y.natAbs), (a1, words x.natAbs)] [] ∧ (J27 = none → J28 = 0) ∧ (words (rq y d) : List Nat).length ≤ J28 ∧ (J25 = none → J26 = 0) ∧ (words (rt y d) : List Nat).length ≤ J26 ∧ (J23 = none → J24 = 0) ∧ (words (rq x d) : List Nat).length ≤ J24 ∧ (J21 = none → J22 = 0) ∧ (words (rt x d) : List Nat).length ≤ J22) → K6 a w1 := by
   clear hA hS
   rintro a w38 ⟨J20g, J21, J22, J23, J24, J25, J26, J27, J28, hA, hS, hn29, hc30, hn31, hc32, hn33, hc34, hn35, hc36⟩
   refine hK6 _ _ ?_
   refine wp_seq_k (fun K39 hK39 => ?_)
   refine wp_seq_k (fun K40 hK40 => ?_)
   refine wp_region_lit ?_
   refine seq_do (v := .pointer (some ⟨J20g, 0, none⟩)) hA rfl rfl rfl (does_field ExJ_fld_27_0 rfl rfl) ?_
   intro a hA
   refine seq_do hA rfl rfl rfl (does_loadS hS ExJ_isS_25 rfl 0 rfl (cs := [.bool ((rb x)), .slice J21 ((words (rt x d)).length) J22, .slice J23 ((words (rq x d)).length) J24]) rfl rfl) ?_
   intro a hA
   rcases Bool.eq_false_or_eq_true ((decide ((words (rt x d)).length ≤ 512) && decide ((words (rq x d)).length ≤ 512))) with hb41 | hb41
   · refine seq_call hA rfl rfl rfl (enters_func  rfl rfl (fun w => by kernel_rfl)) (fitsB_any ⟨(hS.rd 3 rfl), hn35, hc36⟩ ⟨(hS.rd 2 rfl), hn33, hc34⟩ (by have h9 := div_len (g := Nat.gcd x.natAbs d) l1; unfold rt; omega) (by have h9 := div_len (g := Nat.gcd x.natAbs d) l3; unfold rq; omega) hb41) ?_
     rintro _ w43 ⟨rfl, hb42⟩
     replace hS := hS.call hb42
     refine ⟨_, rfl, ?_⟩
     intro a hA
     refine seq_do (v := .bool false) hA rfl rfl rfl (does_un rfl un_not) ?_
     intro a hA
     refine seq_do hA rfl rfl rfl (does_move rfl) ?_
     intro a hA
     refine seq_do (v := .pointer (some ⟨J20g, 3, none⟩)) hA rfl rfl rfl (does_field ExJ_fld_27_1 rfl rfl) ?_
     intro a hA
     refine seq_do hA rfl rfl rfl (does_loadS hS ExJ_isS_25 rfl 0 rfl (cs := [.bool ((rb y)), .slice J25 ((words (rt y d)).length) J26, .slice J27 ((words (rq y d)).length) J28]) rfl rfl) ?_
     intro a hA
     rcases Bool.eq_false_or_eq_true ((decide ((words (rt y d)).length ≤ 512) && decide ((words (rq y d)).length ≤ 512))) with hb44 | hb44
     · refine seq_call hA rfl rfl rfl (enters_func  rfl rfl (fun w => by kernel_rfl)) (fitsB_any ⟨(hS.rd 1 rfl), hn31, hc32⟩ ⟨(hS.rd 0 rfl), hn29, hc30⟩ (by have h9 := div_len (g := Nat.gcd y.natAbs d) l2; unfold rt; omega) (by have h9 := div_len (g := Nat.gcd y.natAbs d) l3; unfold rq; omega) hb44) ?_
       rintro _ w46 ⟨rfl, hb45⟩
       replace hS := hS.call hb45
       refine ⟨_, rfl, ?_⟩
       intro a hA
       refine seq_do (v := .bool false) hA rfl rfl rfl (does_un rfl un_not) ?_
       intro a hA
       refine seq_do (v := .bool false) hA rfl rfl rfl (does_pick rfl rfl rfl rfl) ?_
       intro a hA
       refine seq_end ?_
       refine hK40 _ _ ?_
       refine wp_cond_false (hA.ev rfl) ?_
       refine wp_skip ?_
       refine hK39 _ _ ?_
       refine wp_seq_k (fun K47 hK47 => ?_)
       refine wp_region_lit ?_
       refine seq_do hA rfl rfl rfl (does_loadS hS ExJ_isS_27 rfl 0 rfl (cs := [.bool ((rb x)), .slice J21 ((words (rt x d)).length) J22, .slice J23 ((words (rq x d)).length) J24, .bool ((rb y)), .slice J25 ((words (rt y d)).length) J26, .slice J27 ((words (rq y d)).length) J28]) rfl rfl) ?_
       intro a hA
       refine seq_store (us := [.bool ((rb x)), .slice J21 ((words (rt x d)).length) J22, .slice J23 ((words (rq x d)).length) J24, .bool ((rb y)), .slice J25 ((words (rt y d)).length) J26, .slice J27 ((words (rq y d)).length) J28]) hA hS rfl rfl (sets_store rfl rfl rfl (by kernel_rfl) hS 1 rfl rfl rfl) 1 rfl rfl rfl rfl ?_
       intro w48 hS
       refine seq_do hA rfl rfl rfl (does_assign rfl) ?_
       intro a hA
       refine seq_end ?_
       refine hK47 _ _ ?_
       refine wp_ret ?_
       refine hret _ _ ?_
       refine ends (v := .tuple #[.agg #[.bool ((rb x)), .slice J21 ((words (rt x d)).length) J22, .slice J23 ((words (rq x d)).length) J24, .bool ((rb y)), .slice J25 ((words (rt y d)).length) J26, .slice J27 ((words (rq y d)).length) J28], .int .i64 0]) hA rfl (.cons (res_cell hS ExJ_isS_27 rfl 1 rfl (cs := [.bool ((rb x)), .slice J21 ((words (rt x d)).length) J22, .slice J23 ((words (rq x d)).length) J24, .bool ((rb y)), .slice J25 ((words (rt y d)).length) J26, .slice J27 ((words (rq y d)).length) J28]) rfl rfl) (.cons (res_tmp rfl) .nil)) rfl ?_
       rw [setQ_pos hb41 hb44]
       exact ⟨J21, J22, J23, J24, J25, J26, J27, J28, rfl, ⟨⟨(hS.rd 3 rfl), hn35, hc36⟩, ⟨(hS.rd 2 rfl), hn33, hc34⟩, ⟨(hS.rd 1 rfl), hn31, hc32⟩, ⟨(hS.rd 0 rfl), hn29, hc30⟩⟩, hS.bel⟩
     · refine seq_call hA rfl rfl rfl (enters_func  rfl rfl (fun w => by kernel_rfl)) (fitsB_any ⟨(hS.rd 1 rfl), hn31, hc32⟩ ⟨(hS.rd 0 rfl), hn29, hc30⟩ (by have h9 := div_len (g := Nat.gcd y.natAbs d) l2; unfold rt; omega) (by have h9 := div_len (g := Nat.gcd y.natAbs d) l3; unfold rq; omega) hb44) ?_
       rintro _ w50 ⟨rfl, hb49⟩
       replace hS := hS.call hb49
       refine ⟨_, rfl, ?_⟩
       intro a hA
       refine seq_do (v := .bool true) hA rfl rfl rfl (does_un rfl un_not) ?_
       intro a hA
       refine seq_do (v := .bool true) hA rfl rfl rfl (does_pick rfl rfl rfl rfl) ?_
       intro a hA
       refine seq_end ?_
       refine hK40 _ _ ?_
       refine wp_cond_true (hA.ev rfl) ?_
       refine wp_seq_k (fun K51 hK51 => ?_)
       refine wp_region_lit ?_
       refine seq_do (v := .agg #[.bool false, .slice none 0 0, .slice none 0 0, .bool false, .slice none 0 0, .slice none 0 0]) hA rfl rfl rfl (does_build rfl (fun w => by kernel_rfl)) ?_
       intro a hA
       refine seq_store (us := [.bool false, .slice none 0 0, .slice none 0 0, .bool false, .slice none 0 0, .slice none 0 0]) hA hS rfl rfl (sets_store rfl rfl rfl (by kernel_rfl) hS 1 rfl rfl rfl) 1 rfl rfl rfl rfl ?_
       intro w52 hS
       refine seq_do hA rfl rfl rfl (does_assign rfl) ?_
       intro a hA
       refine seq_end ?_
       refine hK51 _ _ ?_
       refine wp_ret ?_
       refine hret _ _ ?_
       refine ends (v := .tuple #[.agg #[.bool false, .slice none 0 0, .slice none 0 0, .bool false, .slice none 0 0, .slice none 0 0], .int .i64 4]) hA rfl (.cons (res_cell hS ExJ_isS_27 rfl 1 rfl (cs := [.bool false, .slice none 0 0, .slice none 0 0, .bool false, .slice none 0 0, .slice none 0 0]) rfl rfl) (.cons (res_tmp rfl) .nil)) rfl ?_
       rw [setQ_neg2 hb44]
       exact ⟨none, 0, none, 0, none, 0, none, 0, rfl, ⟨(Sc.none _), (Sc.none _), (Sc.none _), (Sc.none _)⟩, hS.bel⟩
   · refine seq_call hA rfl rfl rfl (enters_func  rfl rfl (fun w => by kernel_rfl)) (fitsB_any ⟨(hS.rd 3 rfl), hn35, hc36⟩ ⟨(hS.rd 2 rfl), hn33, hc34⟩ (by have h9 := div_len (g := Nat.gcd x.natAbs d) l1; unfold rt; omega) (by have h9 := div_len (g := Nat.gcd x.natAbs d) l3; unfold rq; omega) hb41) ?_
     rintro _ w54 ⟨rfl, hb53⟩
     replace hS := hS.call hb53
     refine ⟨_, rfl, ?_⟩
     intro a hA
     refine seq_do (v := .bool true) hA rfl rfl rfl (does_un rfl un_not) ?_
     intro a hA
     refine seq_do hA rfl rfl rfl (does_move rfl) ?_
     intro a hA
     refine seq_skip hA rfl rfl rfl ?_
     intro a hA
     refine seq_skip hA rfl rfl rfl ?_
     intro a hA
     refine seq_skip hA rfl rfl rfl ?_
     intro a hA
     refine seq_skip hA rfl rfl rfl ?_
     intro a hA
     refine seq_do (v := .bool true) hA rfl rfl rfl (does_pick rfl rfl rfl rfl) ?_
     intro a hA
     refine seq_end ?_
     refine hK40 _ _ ?_
     refine wp_cond_true (hA.ev rfl) ?_
     refine wp_seq_k (fun K55 hK55 => ?_)
     refine wp_region_lit ?_
     refine seq_do (v := .agg #[.bool false, .slice none 0 0, .slice none 0 0, .bool false, .slice none 0 0, .slice none 0 0]) hA rfl rfl rfl (does_build rfl (fun w => by kernel_rfl)) ?_
     intro a hA
     refine seq_store (us := [.bool false, .slice none 0 0, .slice none 0 0, .bool false, .slice none 0 0, .slice none 0 0]) hA hS rfl rfl (sets_store rfl rfl rfl (by kernel_rfl) hS 1 rfl rfl rfl) 1 rfl rfl rfl rfl ?_
     intro w56 hS
     refine seq_do hA rfl rfl rfl (does_assign rfl) ?_
     intro a hA
     refine seq_end ?_
     refine hK55 _ _ ?_
     refine wp_ret ?_
     refine hret _ _ ?_
     refine ends (v := .tuple #[.agg #[.bool false, .slice none 0 0, .slice none 0 0, .bool false, .slice none 0 0, .slice none 0 0], .int .i64 4]) hA rfl (.cons (res_cell hS ExJ_isS_27 rfl 1 rfl (cs := [.bool false, .slice none 0 0, .slice none 0 0, .bool false, .slice none 0 0, .slice none 0 0]) rfl rfl) (.cons (res_tmp rfl) .nil)) rfl ?_
     rw [setQ_neg1 hb41]
     exact ⟨none, 0, none, 0, none, 0, none, 0, rfl, ⟨(Sc.none _), (Sc.none _), (Sc.none _), (Sc.none _)⟩, hS.bel⟩
 refine wp_draw (S := fun w1 => St w w1 [(g4, [.bool false, .slice none 0 0, .slice none 0 0, .bool false, .slice none 0 0, .slice none 0 0]), (g2, [.bool ((rb x)), .slice a1 ((words x.natAbs).length) ac1, .bool ((rb y)), .slice a2 ((words y.natAbs).length) ac2, .slice a3 ((words d).length) ac3])] [(a3, words d), (a2, words y.natAbs), (a1, words x.natAbs)] []) (by kernel_rfl) ?_
 replace hS := hS.drew
 refine any_tk (v := .pointer (some ⟨g2, 0, none⟩)) hA 0 rfl rfl rfl rfl hP hS (fun w1 hS => does_field ExJ_fld_62_0 rfl rfl) ?_
 intro a hA
 refine any_tk hA 1 rfl rfl rfl rfl hP hS (fun w1 hS => does_loadS hS ExJ_isS_60 rfl 1 rfl (cs := [.bool ((rb x)), .slice a1 ((words x.natAbs).length) ac1]) rfl rfl) ?_
 intro a hA
 refine any_tk (v := .pointer (some ⟨g2, 4, none⟩)) hA 2 rfl rfl rfl rfl hP hS (fun w1 hS => does_field ExJ_fld_62_2 rfl rfl) ?_
 intro a hA
 refine any_tk hA 3 rfl rfl rfl rfl hP hS (fun w1 hS => does_load1 hS ExJ_is1_23 rfl 1 rfl rfl) ?_
 intro a hA
 refine any_tk (v := .pointer (some ⟨g2, 2, none⟩)) hA 5 rfl rfl rfl rfl hP hS (fun w1 hS => does_field ExJ_fld_62_1 rfl rfl) ?_
 intro a hA
 refine any_tk hA 6 rfl rfl rfl rfl hP hS (fun w1 hS => does_loadS hS ExJ_isS_60 rfl 1 rfl (cs := [.bool ((rb y)), .slice a2 ((words y.natAbs).length) ac2]) rfl rfl) ?_
 intro a hA
 refine any_tk (v := .pointer (some ⟨g2, 4, none⟩)) hA 7 rfl rfl rfl rfl hP hS (fun w1 hS => does_field ExJ_fld_62_2 rfl rfl) ?_
 intro a hA
 refine any_tk hA 8 rfl rfl rfl rfl hP hS (fun w1 hS => does_load1 hS ExJ_is1_23 rfl 1 rfl rfl) ?_
 intro a hA
 refine any_many (rs := [4, 11]) (by kernel_rfl) (by simp) ⟨?_, ?_, trivial⟩
 · refine op_call hA 4 rfl rfl rfl rfl (enters_func  rfl rfl (fun w => by kernel_rfl)) (zlowest_any ⟨(hS.rd 2 rfl), ha1.nil, ha1.cap⟩ ⟨(hS.rd 0 rfl), ha3.nil, ha3.cap⟩ l1 l3 hd) ?_
   rintro _ w61 ⟨f57_1, f57_c1, f57_2, f57_c2, rfl, hs58, hs59, hb60⟩
   replace hS := hS.call hb60
   replace hS := hS.addR hs58.rd
   replace hS := hS.addR hs59.rd
   refine ⟨_, rfl, (hS.partD (.refl _) 2 rfl (.refl _)), ?_⟩
   intro a hA
   refine any_many (rs := [9, 11]) (by kernel_rfl) (by simp) ⟨?_, ?_, trivial⟩
   · refine op_call hA 9 rfl rfl rfl rfl (enters_func  rfl rfl (fun w => by kernel_rfl)) (zlowest_any ⟨(hS.rd 3 rfl), ha2.nil, ha2.cap⟩ ⟨(hS.rd 2 rfl), ha3.nil, ha3.cap⟩ l2 l3 hd) ?_
     rintro _ w66 ⟨f62_1, f62_c1, f62_2, f62_c2, rfl, hs63, hs64, hb65⟩
     replace hS := hS.call hb65
     replace hS := hS.addR hs63.rd
     replace hS := hS.addR hs64.rd
     refine ⟨_, rfl, (hS.partD (.refl _) 4 rfl (.refl _)), ?_⟩
     intro a hA
     refine any_tk (v := .agg #[.bool ((rb x)), .slice f57_1 ((words (rt x d)).length) f57_c1, .slice f57_2 ((words (rq x d)).length) f57_c2, .bool ((rb y)), .slice f62_1 ((words (rt y d)).length) f62_c1, .slice f62_2 ((words (rq y d)).length) f62_c2]) hA 10 rfl rfl rfl rfl hP (hS.partD (.refl _) 4 rfl (.refl _)) (fun w1 hS => does_build rfl (fun w => by kernel_rfl)) ?_
     intro a hA
     refine any_one (by kernel_rfl) (op_new (vs := [.bool false, .slice none 0 0, .slice none 0 0, .bool false, .slice none 0 0, .slice none 0 0]) (t := 27) hA hS 11 rfl rfl rfl rfl (fun g => .pointer (some ⟨g, 0, none⟩)) (does_alloc (z := .agg #[.bool false, .slice none 0 0, .slice none 0 0, .bool false, .slice none 0 0, .slice none 0 0]) (by kernel_rfl) rfl) rfl ?_)
     intro g67 w68 hS
     refine ⟨(hS.partD (.cons _ (.cons_cons _ (.cons_cons _ .slnil))) 4 rfl (.refl _)), ?_⟩
     intro a hA
     refine any_one (by kernel_rfl) (op_store (us := [.bool ((rb x)), .slice f57_1 ((words (rt x d)).length) f57_c1, .slice f57_2 ((words (rq x d)).length) f57_c2, .bool ((rb y)), .slice f62_1 ((words (rt y d)).length) f62_c1, .slice f62_2 ((words (rq y d)).length) f62_c2]) hA hS 12 rfl rfl rfl (sets_store rfl rfl rfl (by kernel_rfl) hS 0 rfl rfl rfl) 0 rfl rfl rfl rfl ?_)
     intro w69 hS
     refine ⟨(hS.partD (.cons _ (.cons_cons _ (.cons_cons _ .slnil))) 4 rfl (.refl _)), ?_⟩
     refine any_end (by kernel_rfl) ?_
     refine hJ37 _ _ ⟨g67, f57_1, f57_c1, f57_2, f57_c2, f62_1, f62_c1, f62_2, f62_c2, hA.keep _ ⟨rfl, rfl, rfl, rfl, trivial⟩, (St.pickRL hS ⟨⟨0, rfl⟩, ⟨⟨1, rfl⟩, ⟨⟨2, rfl⟩, ⟨⟨3, rfl⟩, ⟨⟨4, rfl⟩, ⟨⟨5, rfl⟩, ⟨⟨6, rfl⟩, trivial⟩⟩⟩⟩⟩⟩⟩ [0, 1, 2] rfl (by decide)), hs64.nil, hs64.cap, hs63.nil, hs63.cap, hs59.nil, hs59.cap, hs58.nil, hs58.cap⟩
   · refine op_new (vs := [.bool false, .slice none 0 0, .slice none 0 0, .bool false, .slice none 0 0, .slice none 0 0]) (t := 27) hA hS 11 rfl rfl rfl rfl (fun g => .pointer (some ⟨g, 0, none⟩)) (does_alloc (z := .agg #[.bool false, .slice none 0 0, .slice none 0 0, .bool false, .slice none 0 0, .slice none 0 0]) (by kernel_rfl) rfl) rfl ?_
     intro g70 w71 hS
     refine ⟨(hS.partD (.cons _ (.cons_cons _ (.cons_cons _ .slnil))) 2 rfl (.refl _)), ?_⟩
     intro a hA
     refine any_one (by kernel_rfl) (op_call hA 9 rfl rfl rfl rfl (enters_func  rfl rfl (fun w => by kernel_rfl)) (zlowest_any ⟨(hS.rd 3 rfl), ha2.nil, ha2.cap⟩ ⟨(hS.rd 2 rfl), ha3.nil, ha3.cap⟩ l2 l3 hd) ?_)
     rintro _ w76 ⟨f72_1, f72_c1, f72_2, f72_c2, rfl, hs73, hs74, hb75⟩
     replace hS := hS.call hb75
     replace hS := hS.addR hs73.rd
     replace hS := hS.addR hs74.rd
     refine ⟨_, rfl, (hS.partD (.cons _ (.cons_cons _ (.cons_cons _ .slnil))) 4 rfl (.refl _)), ?_⟩
     intro a hA
     refine any_tk (v := .agg #[.bool ((rb x)), .slice f57_1 ((words (rt x d)).length) f57_c1, .slice f57_2 ((words (rq x d)).length) f57_c2, .bool ((rb y)), .slice f72_1 ((words (rt y d)).length) f72_c1, .slice f72_2 ((words (rq y d)).length) f72_c2]) hA 10 rfl rfl rfl rfl hP (hS.partD (.cons _ (.cons_cons _ (.cons_cons _ .slnil))) 4 rfl (.refl _)) (fun w1 hS => does_build rfl (fun w => by kernel_rfl)) ?_
     intro a hA
     refine any_one (by kernel_rfl) (op_store (us := [.bool ((rb x)), .slice f57_1 ((words (rt x d)).length) f57_c1, .slice f57_2 ((words (rq x d)).length) f57_c2, .bool ((rb y)), .slice f72_1 ((words (rt y d)).length) f72_c1, .slice f72_2 ((words (rq y d)).length) f72_c2]) hA hS 12 rfl rfl rfl (sets_store rfl rfl rfl (by kernel_rfl) hS 0 rfl rfl rfl) 0 rfl rfl rfl rfl ?_)
     intro w77 hS
     refine ⟨(hS.partD (.cons _ (.cons_cons _ (.cons_cons _ .slnil))) 4 rfl (.refl _)), ?_⟩
     refine any_end (by kernel_rfl) ?_
     refine hJ37 _ _ ⟨g70, f57_1, f57_c1, f57_2, f57_c2, f72_1, f72_c1, f72_2, f72_c2, hA.keep _ ⟨rfl, rfl, rfl, rfl, trivial⟩, (St.pickRL hS ⟨⟨0, rfl⟩, ⟨⟨1, rfl⟩, ⟨⟨2, rfl⟩, ⟨⟨3, rfl⟩, ⟨⟨4, rfl⟩, ⟨⟨5, rfl⟩, ⟨⟨6, rfl⟩, trivial⟩⟩⟩⟩⟩⟩⟩ [0, 1, 2] rfl (by decide)), hs74.nil, hs74.cap, hs73.nil, hs73.cap, hs59.nil, hs59.cap, hs58.nil, hs58.cap⟩
 · refine op_new (vs := [.bool false, .slice none 0 0, .slice none 0 0, .bool false, .slice none 0 0, .slice none 0 0]) (t := 27) hA hS 11 rfl rfl rfl rfl (fun g => .pointer (some ⟨g, 0, none⟩)) (does_alloc (z := .agg #[.bool false, .slice none 0 0, .slice none 0 0, .bool false, .slice none 0 0, .slice none 0 0]) (by kernel_rfl) rfl) rfl ?_
   intro g78 w79 hS
   refine ⟨(hS.partD (.cons _ (.cons_cons _ (.cons_cons _ .slnil))) 0 rfl (.refl _)), ?_⟩
   intro a hA
   refine any_one (by kernel_rfl) (op_call hA 4 rfl rfl rfl rfl (enters_func  rfl rfl (fun w => by kernel_rfl)) (zlowest_any ⟨(hS.rd 2 rfl), ha1.nil, ha1.cap⟩ ⟨(hS.rd 0 rfl), ha3.nil, ha3.cap⟩ l1 l3 hd) ?_)
   rintro _ w84 ⟨f80_1, f80_c1, f80_2, f80_c2, rfl, hs81, hs82, hb83⟩
   replace hS := hS.call hb83
   replace hS := hS.addR hs81.rd
   replace hS := hS.addR hs82.rd
   refine ⟨_, rfl, (hS.partD (.cons _ (.cons_cons _ (.cons_cons _ .slnil))) 2 rfl (.refl _)), ?_⟩
   intro a hA
   refine any_one (by kernel_rfl) (op_call hA 9 rfl rfl rfl rfl (enters_func  rfl rfl (fun w => by kernel_rfl)) (zlowest_any ⟨(hS.rd 3 rfl), ha2.nil, ha2.cap⟩ ⟨(hS.rd 2 rfl), ha3.nil, ha3.cap⟩ l2 l3 hd) ?_)
   rintro _ w89 ⟨f85_1, f85_c1, f85_2, f85_c2, rfl, hs86, hs87, hb88⟩
   replace hS := hS.call hb88
   replace hS := hS.addR hs86.rd
   replace hS := hS.addR hs87.rd
   refine ⟨_, rfl, (hS.partD (.cons _ (.cons_cons _ (.cons_cons _ .slnil))) 4 rfl (.refl _)), ?_⟩
   intro a hA
   refine any_tk (v := .agg #[.bool ((rb x)), .slice f80_1 ((words (rt x d)).length) f80_c1, .slice f80_2 ((words (rq x d)).length) f80_c2, .bool ((rb y)), .slice f85_1 ((words (rt y d)).length) f85_c1, .slice f85_2 ((words (rq y d)).length) f85_c2]) hA 10 rfl rfl rfl rfl hP (hS.partD (.cons _ (.cons_cons _ (.cons_cons _ .slnil))) 4 rfl (.refl _)) (fun w1 hS => does_build rfl (fun w => by kernel_rfl)) ?_
   intro a hA
   refine any_one (by kernel_rfl) (op_store (us := [.bool ((rb x)), .slice f80_1 ((words (rt x d)).length) f80_c1, .slice f80_2 ((words (rq x d)).length) f80_c2, .bool ((rb y)), .slice f85_1 ((words (rt y d)).length) f85_c1, .slice f85_2 ((words (rq y d)).length) f85_c2]) hA hS 12 rfl rfl rfl (sets_store rfl rfl rfl (by kernel_rfl) hS 0 rfl rfl rfl) 0 rfl rfl rfl rfl ?_)
   intro w90 hS
   refine ⟨(hS.partD (.cons _ (.cons_cons _ (.cons_cons _ .slnil))) 4 rfl (.refl _)), ?_⟩
   refine any_end (by kernel_rfl) ?_
   refine hJ37 _ _ ⟨g78, f80_1, f80_c1, f80_2, f80_c2, f85_1, f85_c1, f85_2, f85_c2, hA.keep _ ⟨rfl, rfl, rfl, rfl, trivial⟩, (St.pickRL hS ⟨⟨0, rfl⟩, ⟨⟨1, rfl⟩, ⟨⟨2, rfl⟩, ⟨⟨3, rfl⟩, ⟨⟨4, rfl⟩, ⟨⟨5, rfl⟩, ⟨⟨6, rfl⟩, trivial⟩⟩⟩⟩⟩⟩⟩ [0, 1, 2] rfl (by decide)), hs87.nil, hs87.cap, hs86.nil, hs86.cap, hs82.nil, hs82.cap, hs81.nil, hs81.cap⟩
theorem zproduct_any {w : World} {x1 y1 x2 y2 : Int} {d1 d2 : Nat} {a1 a2 a3 : Option Addr} {ac1 ac2 ac3 : Nat} (ha1 : Sc w a1 ac1 (words x1.natAbs)) (ha2 : Sc w a2 ac2 (words y1.natAbs)) (ha3 : Sc w a3 ac3 (words d1)) {u1 u2 u3 : Option Addr} {uc1 uc2 uc3 : Nat} (hu1 : Sc w u1 uc1 (words x2.natAbs)) (hu2 : Sc w u2 uc2 (words y2.natAbs)) (hu3 : Sc w u3 uc3 (words d2)) (la1 : (words x1.natAbs).length ≤ 10000) (la2 : (words y1.natAbs).length ≤ 10000) (la3 : (words d1).length ≤ 10000) (lu1 : (words x2.natAbs).length ≤ 10000) (lu2 : (words y2.natAbs).length ≤ 10000) (lu3 : (words d2).length ≤ 10000) : Calls Tryd.prog 55 #[.agg #[.bool (rb x1), .slice a1 (words x1.natAbs).length ac1, .bool (rb y1), .slice a2 (words y1.natAbs).length ac2, .slice a3 (words d1).length ac3], .agg #[.bool (rb x2), .slice u1 (words x2.natAbs).length uc1, .bool (rb y2), .slice u2 (words y2.natAbs).length uc2, .slice u3 (words d2).length uc3]] w (AnsR w (x1 * x2 + -(y1 * y2)) (x1 * y2 + y1 * x2) (d1 * d2)) := by
 have k1 := abs_mul_len la1 lu1
 have k2 := abs_mul_len la2 lu2
 have k3 := abs_mul_len la1 lu2
 have k4 := abs_mul_len la2 lu1
 have k5 : (words (-(y1 * y2)).natAbs).length ≤ 10000 + 10000 := by rw [Int.natAbs_neg]; exact k2
 have hS : St w w [] [(u3, words d2), (u2, words y2.natAbs), (u1, words x2.natAbs), (a3, words d1), (a2, words y1.natAbs), (a1, words x1.natAbs)] [] := ((((((St.start w).addR ha1.rd).addR ha2.rd).addR ha3.rd).addR hu1.rd).addR hu2.rd).addR hu3.rd
 refine walk_of (l := [(0, .agg #[.bool ((rb x1)), .slice a1 ((words x1.natAbs).length) ac1, .bool ((rb y1)), .slice a2 ((words y1.natAbs).length) ac2, .slice a3 ((words d1).length) ac3]), (1, .agg #[.bool ((rb x2)), .slice u1 ((words x2.natAbs).length) uc1, .bool ((rb y2)), .slice u2 ((words y2.natAbs).length) uc2, .slice u3 ((words d2).length) uc3])]) Tryd.func55 rfl Tryd.ntmps55 rfl rfl ?_
 intro Q hret hnorm hP a hA
 refine wp_seq_k (fun K1 hK1 => ?_)
 refine wp_region_lit ?_
 refine seq_new hA hS rfl rfl rfl (fun g => .pointer (some ⟨g, 0, none⟩)) (does_box rfl rfl) rfl ?_
 intro g2 w3 hS a hA
 refine seq_new hA hS rfl rfl rfl (fun g => .pointer (some ⟨g, 0, none⟩)) (does_box rfl rfl) rfl ?_
 intro g4 w5 hS a hA
 refine seq_new (vs := [.bool false, .slice none 0 0, .bool false, .slice none 0 0, .slice none 0 0]) (t := 62) hA hS rfl rfl rfl (fun g => .pointer (some ⟨g, 0, none⟩)) (does_alloc (z := .agg #[.bool false, .slice none 0 0, .bool false, .slice none 0 0, .slice none 0 0]) (by kernel_rfl) rfl) rfl ?_
 intro g6 w7 hS a hA
 refine seq_end ?_
 refine hK1 _ _ ?_
 refine wp_seq_k (fun K8 hK8 => ?_)
 refine wp_draw (S := fun w1 => St w w1 [(g4, [.bool ((rb x2)), .slice u1 ((words x2.natAbs).length) uc1, .bool ((rb y2)), .slice u2 ((words y2.natAbs).length) uc2, .slice u3 ((words d2).length) uc3]), (g2, [.bool ((rb x1)), .slice a1 ((words x1.natAbs).length) ac1, .bool ((rb y1)), .slice a2 ((words y1.natAbs).length) ac2, .slice a3 ((words d1).length) ac3])] [(u3, words d2), (u2, words y2.natAbs), (u1, words x2.natAbs), (a3, words d1), (a2, words y1.natAbs), (a1, words x1.natAbs)] []) (by kernel_rfl) ?_
 replace hS := hS.drew
 refine any_tk (v := .pointer (some ⟨g2, 0, none⟩)) hA 0 rfl rfl rfl rfl hP (hS.partD (.cons _ (.cons_cons _ (.cons_cons _ .slnil))) 0 rfl (.refl _)) (fun w1 hS => does_field ExJ_fld_62_0 rfl rfl) ?_
 intro a hA
 refine any_tk hA 1 rfl rfl rfl rfl hP (hS.partD (.cons _ (.cons_cons _ (.cons_cons _ .slnil))) 0 rfl (.refl _)) (fun w1 hS => does_loadS hS ExJ_isS_60 rfl 1 rfl (cs := [.bool ((rb x1)), .slice a1 ((words x1.natAbs).length) ac1]) rfl rfl) ?_
 intro a hA
 refine any_tk (v := .pointer (some ⟨g4, 0, none⟩)) hA 2 rfl rfl rfl rfl hP (hS.partD (.cons _ (.cons_cons _ (.cons_cons _ .slnil))) 0 rfl (.refl _)) (fun w1 hS => does_field ExJ_fld_62_0 rfl rfl) ?_
 intro a hA
 refine any_tk hA 3 rfl rfl rfl rfl hP (hS.partD (.cons _ (.cons_cons _ (.cons_cons _ .slnil))) 0 rfl (.refl _)) (fun w1 hS => does_loadS hS ExJ_isS_60 rfl 0 rfl (cs := [.bool ((rb x2)), .slice u1 ((words x2.natAbs).length) uc1]) rfl rfl) ?_
 intro a hA
 refine any_tk (v := .pointer (some ⟨g2, 2, none⟩)) hA 5 rfl rfl rfl rfl hP (hS.partD (.cons _ (.cons_cons _ (.cons_cons _ .slnil))) 0 rfl (.refl _)) (fun w1 hS => does_field ExJ_fld_62_1 rfl rfl) ?_
 intro a hA
 refine any_tk hA 6 rfl rfl rfl rfl hP (hS.partD (.cons _ (.cons_cons _ (.cons_cons _ .slnil))) 0 rfl (.refl _)) (fun w1 hS => does_loadS hS ExJ_isS_60 rfl 1 rfl (cs := [.bool ((rb y1)), .slice a2 ((words y1.natAbs).length) ac2]) rfl rfl) ?_
 intro a hA
 refine any_tk (v := .pointer (some ⟨g4, 2, none⟩)) hA 7 rfl rfl rfl rfl hP (hS.partD (.cons _ (.cons_cons _ (.cons_cons _ .slnil))) 0 rfl (.refl _)) (fun w1 hS => does_field ExJ_fld_62_1 rfl rfl) ?_
 intro a hA
 refine any_tk hA 8 rfl rfl rfl rfl hP (hS.partD (.cons _ (.cons_cons _ (.cons_cons _ .slnil))) 0 rfl (.refl _)) (fun w1 hS => does_loadS hS ExJ_isS_60 rfl 0 rfl (cs := [.bool ((rb y2)), .slice u2 ((words y2.natAbs).length) uc2]) rfl rfl) ?_
 intro a hA
 refine any_tk (v := .pointer (some ⟨g2, 0, none⟩)) hA 12 rfl rfl rfl rfl hP (hS.partD (.cons _ (.cons_cons _ (.cons_cons _ .slnil))) 0 rfl (.refl _)) (fun w1 hS => does_field ExJ_fld_62_0 rfl rfl) ?_
 intro a hA
 refine any_tk hA 13 rfl rfl rfl rfl hP (hS.partD (.cons _ (.cons_cons _ (.cons_cons _ .slnil))) 0 rfl (.refl _)) (fun w1 hS => does_loadS hS ExJ_isS_60 rfl 1 rfl (cs := [.bool ((rb x1)), .slice a1 ((words x1.natAbs).length) ac1]) rfl rfl) ?_
 intro a hA
 refine any_tk (v := .pointer (some ⟨g4, 2, none⟩)) hA 14 rfl rfl rfl rfl hP (hS.partD (.cons _ (.cons_cons _ (.cons_cons _ .slnil))) 0 rfl (.refl _)) (fun w1 hS => does_field ExJ_fld_62_1 rfl rfl) ?_
 intro a hA
 refine any_tk hA 15 rfl rfl rfl rfl hP (hS.partD (.cons _ (.cons_cons _ (.cons_cons _ .slnil))) 0 rfl (.refl _)) (fun w1 hS => does_loadS hS ExJ_isS_60 rfl 0 rfl (cs := [.bool ((rb y2)), .slice u2 ((words y2.natAbs).length) uc2]) rfl rfl) ?_
 intro a hA
 refine any_tk (v := .pointer (some ⟨g2, 2, none⟩)) hA 17 rfl rfl rfl rfl hP (hS.partD (.cons _ (.cons_cons _ (.cons_cons _ .slnil))) 0 rfl (.refl _)) (fun w1 hS => does_field ExJ_fld_62_1 rfl rfl) ?_
 intro a hA
 refine any_tk hA 18 rfl rfl rfl rfl hP (hS.partD (.cons _ (.cons_cons _ (.cons_cons _ .slnil))) 0 rfl (.refl _)) (fun w1 hS => does_loadS hS ExJ_isS_60 rfl 1 rfl (cs := [.bool ((rb y1)), .slice a2 ((words y1.natAbs).length) ac2]) rfl rfl) ?_
 intro a hA
 refine any_tk (v := .pointer (some ⟨g4, 0, none⟩)) hA 19 rfl rfl rfl rfl hP (hS.partD (.cons _ (.cons_cons _ (.cons_cons _ .slnil))) 0 rfl (.refl _)) (fun w1 hS => does_field ExJ_fld_62_0 rfl rfl) ?_
 intro a hA
 refine any_tk hA 20 rfl rfl rfl rfl hP (hS.partD (.cons _ (.cons_cons _ (.cons_cons _ .slnil))) 0 rfl (.refl _)) (fun w1 hS => does_loadS hS ExJ_isS_60 rfl 0 rfl (cs := [.bool ((rb x2)), .slice u1 ((words x2.natAbs).length) uc1]) rfl rfl) ?_
 intro a hA
 refine any_tk (v := .pointer (some ⟨g2, 4, none⟩)) hA 23 rfl rfl rfl rfl hP (hS.partD (.cons _ (.cons_cons _ (.cons_cons _ .slnil))) 0 rfl (.refl _)) (fun w1 hS => does_field ExJ_fld_62_2 rfl rfl) ?_
 intro a hA
 refine any_tk hA 24 rfl rfl rfl rfl hP (hS.partD (.cons _ (.cons_cons _ (.cons_cons _ .slnil))) 0 rfl (.refl _)) (fun w1 hS => does_load1 hS ExJ_is1_23 rfl 1 rfl rfl) ?_
 intro a hA
 refine any_tk (v := .pointer (some ⟨g4, 4, none⟩)) hA 25 rfl rfl rfl rfl hP (hS.partD (.cons _ (.cons_cons _ (.cons_cons _ .slnil))) 0 rfl (.refl _)) (fun w1 hS => does_field ExJ_fld_62_2 rfl rfl) ?_
 intro a hA
 refine any_tk hA 26 rfl rfl rfl rfl hP (hS.partD (.cons _ (.cons_cons _ (.cons_cons _ .slnil))) 0 rfl (.refl _)) (fun w1 hS => does_load1 hS ExJ_is1_23 rfl 0 rfl rfl) ?_
 intro a hA
 refine any_one (by kernel_rfl) (op_call hA 4 rfl rfl rfl rfl (enters_func  rfl rfl (fun w => by kernel_rfl)) (ztimes_any ⟨(hS.rd 5 rfl), ha1.nil, ha1.cap⟩ ⟨(hS.rd 2 rfl), hu1.nil, hu1.cap⟩ (by omega) (by omega)) ?_)
 rintro _ w13 ⟨zo9, zc10, rfl, hs11, hb12⟩
 replace hS := hS.call hb12
 replace hS := hS.addR hs11.rd
 refine ⟨_, rfl, (hS.partD (.cons _ (.cons_cons _ (.cons_cons _ .slnil))) 1 rfl (.refl _)), ?_⟩
 intro a hA
 refine any_one (by kernel_rfl) (op_call hA 9 rfl rfl rfl rfl (enters_func  rfl rfl (fun w => by kernel_rfl)) (ztimes_any ⟨(hS.rd 5 rfl), ha2.nil, ha2.cap⟩ ⟨(hS.rd 2 rfl), hu2.nil, hu2.cap⟩ (by omega) (by omega)) ?_)
 rintro _ w18 ⟨zo14, zc15, rfl, hs16, hb17⟩
 replace hS := hS.call hb17
 replace hS := hS.addR hs16.rd
 refine ⟨_, rfl, (hS.partD (.cons _ (.cons_cons _ (.cons_cons _ .slnil))) 2 rfl (.refl _)), ?_⟩
 intro a hA
 refine any_one (by kernel_rfl) (op_call hA 10 rfl rfl rfl rfl (enters_func  rfl rfl (fun w => by kernel_rfl)) (zopp_any ⟨(hS.rd 0 rfl), hs16.nil, hs16.cap⟩) ?_)
 rintro _ w23 ⟨zo19, zc20, rfl, hs21, hb22⟩
 replace hS := hS.call hb22
 replace hS := hS.addR hs21.rd
 refine ⟨_, rfl, (hS.partD (.cons _ (.cons_cons _ (.cons_cons _ .slnil))) 3 rfl (.refl _)), ?_⟩
 intro a hA
 refine any_one (by kernel_rfl) (op_call hA 11 rfl rfl rfl rfl (enters_func  rfl rfl (fun w => by kernel_rfl)) (zplus_any ⟨(hS.rd 2 rfl), hs11.nil, hs11.cap⟩ ⟨(hS.rd 0 rfl), hs21.nil, hs21.cap⟩ (by omega) (by omega)) ?_)
 rintro _ w28 ⟨zo24, zc25, rfl, hs26, hb27⟩
 replace hS := hS.call hb27
 replace hS := hS.addR hs26.rd
 refine ⟨_, rfl, (hS.partD (.cons _ (.cons_cons _ (.cons_cons _ .slnil))) 4 rfl (.refl _)), ?_⟩
 intro a hA
 refine any_one (by kernel_rfl) (op_call hA 16 rfl rfl rfl rfl (enters_func  rfl rfl (fun w => by kernel_rfl)) (ztimes_any ⟨(hS.rd 9 rfl), ha1.nil, ha1.cap⟩ ⟨(hS.rd 5 rfl), hu2.nil, hu2.cap⟩ (by omega) (by omega)) ?_)
 rintro _ w33 ⟨zo29, zc30, rfl, hs31, hb32⟩
 replace hS := hS.call hb32
 replace hS := hS.addR hs31.rd
 refine ⟨_, rfl, (hS.partD (.cons _ (.cons_cons _ (.cons_cons _ .slnil))) 5 rfl (.refl _)), ?_⟩
 intro a hA
 refine any_one (by kernel_rfl) (op_call hA 21 rfl rfl rfl rfl (enters_func  rfl rfl (fun w => by kernel_rfl)) (ztimes_any ⟨(hS.rd 9 rfl), ha2.nil, ha2.cap⟩ ⟨(hS.rd 7 rfl), hu1.nil, hu1.cap⟩ (by omega) (by omega)) ?_)
 rintro _ w38 ⟨zo34, zc35, rfl, hs36, hb37⟩
 replace hS := hS.call hb37
 replace hS := hS.addR hs36.rd
 refine ⟨_, rfl, (hS.partD (.cons _ (.cons_cons _ (.cons_cons _ .slnil))) 6 rfl (.refl _)), ?_⟩
 intro a hA
 refine any_one (by kernel_rfl) (op_call hA 22 rfl rfl rfl rfl (enters_func  rfl rfl (fun w => by kernel_rfl)) (zplus_any ⟨(hS.rd 1 rfl), hs31.nil, hs31.cap⟩ ⟨(hS.rd 0 rfl), hs36.nil, hs36.cap⟩ (by omega) (by omega)) ?_)
 rintro _ w43 ⟨zo39, zc40, rfl, hs41, hb42⟩
 replace hS := hS.call hb42
 replace hS := hS.addR hs41.rd
 refine ⟨_, rfl, (hS.partD (.cons _ (.cons_cons _ (.cons_cons _ .slnil))) 7 rfl (.refl _)), ?_⟩
 intro a hA
 refine any_one (by kernel_rfl) (op_call hA 27 rfl rfl rfl rfl (enters_func  rfl rfl (fun w => by kernel_rfl)) (product_any _ _ (hS.rd 10 rfl) (hS.rd 7 rfl) (by omega) (by omega)) ?_)
 rintro _ w48 ⟨ro44, rc45, rfl, ho46, hb47⟩
 replace hS := hS.call hb47
 replace hS := hS.addR ho46.rd
 refine ⟨_, rfl, (hS.partD (.cons _ (.cons_cons _ (.cons_cons _ .slnil))) 8 rfl (.refl _)), ?_⟩
 intro a hA
 refine any_tk (v := .agg #[.bool ((rb (x1 * x2 + (-(y1 * y2))))), .slice zo24 ((words (x1 * x2 + (-(y1 * y2))).natAbs).length) zc25, .bool ((rb (x1 * y2 + (y1 * x2)))), .slice zo39 ((words (x1 * y2 + (y1 * x2)).natAbs).length) zc40, .slice ro44 ((words (d1 * d2)).length) rc45]) hA 28 rfl rfl rfl rfl hP (hS.partD (.cons _ (.cons_cons _ (.cons_cons _ .slnil))) 8 rfl (.refl _)) (fun w1 hS => does_build rfl (fun w => by kernel_rfl)) ?_
 intro a hA
 refine any_one (by kernel_rfl) (op_store (us := [.bool ((rb (x1 * x2 + (-(y1 * y2))))), .slice zo24 ((words (x1 * x2 + (-(y1 * y2))).natAbs).length) zc25, .bool ((rb (x1 * y2 + (y1 * x2)))), .slice zo39 ((words (x1 * y2 + (y1 * x2)).natAbs).length) zc40, .slice ro44 ((words (d1 * d2)).length) rc45]) hA hS 29 rfl rfl rfl (sets_store rfl rfl rfl (by kernel_rfl) hS 0 rfl rfl rfl) 0 rfl rfl rfl rfl ?_)
 intro w49 hS
 refine ⟨(hS.partD (.cons _ (.cons_cons _ (.cons_cons _ .slnil))) 8 rfl (.refl _)), ?_⟩
 refine any_end (by kernel_rfl) ?_
 refine hK8 _ _ ?_
 refine wp_ret ?_
 refine hret _ _ ?_
 refine ends (v := .agg #[.bool ((rb (x1 * x2 + (-(y1 * y2))))), .slice zo24 ((words (x1 * x2 + (-(y1 * y2))).natAbs).length) zc25, .bool ((rb (x1 * y2 + (y1 * x2)))), .slice zo39 ((words (x1 * y2 + (y1 * x2)).natAbs).length) zc40, .slice ro44 ((words (d1 * d2)).length) rc45]) hA rfl (.cons (res_cell hS ExJ_isS_62 rfl 0 rfl (cs := [.bool ((rb (x1 * x2 + (-(y1 * y2))))), .slice zo24 ((words (x1 * x2 + (-(y1 * y2))).natAbs).length) zc25, .bool ((rb (x1 * y2 + (y1 * x2)))), .slice zo39 ((words (x1 * y2 + (y1 * x2)).natAbs).length) zc40, .slice ro44 ((words (d1 * d2)).length) rc45]) rfl rfl) .nil) rfl ?_
 exact ⟨zo24, zc25, zo39, zc40, ro44, rc45, rfl, ⟨(hS.rd 4 rfl), hs26.nil, hs26.cap⟩, ⟨(hS.rd 1 rfl), hs41.nil, hs41.cap⟩, ⟨(hS.rd 0 rfl), ho46.nocap, ho46.caps⟩, hS.bel⟩
theorem zsum_any {w : World} {x1 y1 x2 y2 : Int} {d1 d2 : Nat} {a1 a2 a3 : Option Addr} {ac1 ac2 ac3 : Nat} (ha1 : Sc w a1 ac1 (words x1.natAbs)) (ha2 : Sc w a2 ac2 (words y1.natAbs)) (ha3 : Sc w a3 ac3 (words d1)) {u1 u2 u3 : Option Addr} {uc1 uc2 uc3 : Nat} (hu1 : Sc w u1 uc1 (words x2.natAbs)) (hu2 : Sc w u2 uc2 (words y2.natAbs)) (hu3 : Sc w u3 uc3 (words d2)) (la1 : (words x1.natAbs).length ≤ 10000) (la2 : (words y1.natAbs).length ≤ 10000) (la3 : (words d1).length ≤ 10000) (lu1 : (words x2.natAbs).length ≤ 10000) (lu2 : (words y2.natAbs).length ≤ 10000) (lu3 : (words d2).length ≤ 10000) : Calls Tryd.prog 67 #[.agg #[.bool (rb x1), .slice a1 (words x1.natAbs).length ac1, .bool (rb y1), .slice a2 (words y1.natAbs).length ac2, .slice a3 (words d1).length ac3], .agg #[.bool (rb x2), .slice u1 (words x2.natAbs).length uc1, .bool (rb y2), .slice u2 (words y2.natAbs).length uc2, .slice u3 (words d2).length uc3]] w (AnsR w (x1 * ((d2 : Nat) : Int) + x2 * ((d1 : Nat) : Int)) (y1 * ((d2 : Nat) : Int) + y2 * ((d1 : Nat) : Int)) (d1 * d2)) := by
 have n1 : (words ((d1 : Nat) : Int).natAbs).length ≤ 10000 := by rw [Int.natAbs_natCast]; exact la3
 have n2 : (words ((d2 : Nat) : Int).natAbs).length ≤ 10000 := by rw [Int.natAbs_natCast]; exact lu3
 have k1 := abs_mul_len la1 n2
 have k2 := abs_mul_len lu1 n1
 have k3 := abs_mul_len la2 n2
 have k4 := abs_mul_len lu2 n1
 have hS : St w w [] [(u3, words d2), (u2, words y2.natAbs), (u1, words x2.natAbs), (a3, words d1), (a2, words y1.natAbs), (a1, words x1.natAbs)] [] := ((((((St.start w).addR ha1.rd).addR ha2.rd).addR ha3.rd).addR hu1.rd).addR hu2.rd).addR hu3.rd
 refine walk_of (l := [(0, .agg #[.bool ((rb x1)), .slice a1 ((words x1.natAbs).length) ac1, .bool ((rb y1)), .slice a2 ((words y1.natAbs).length) ac2, .slice a3 ((words d1).length) ac3]), (1, .agg #[.bool ((rb x2)), .slice u1 ((words x2.natAbs).length) uc1, .bool ((rb y2)), .slice u2 ((words y2.natAbs).length) uc2, .slice u3 ((words d2).length) uc3])]) Tryd.func67 rfl Tryd.ntmps67 rfl rfl ?_
 intro Q hret hnorm hP a hA
 refine wp_seq_k (fun K1 hK1 => ?_)
 refine wp_region_lit ?_
 refine seq_new hA hS rfl rfl rfl (fun g => .pointer (some ⟨g, 0, none⟩)) (does_box rfl rfl) rfl ?_
 intro g2 w3 hS a hA
 refine seq_new hA hS rfl rfl rfl (fun g => .pointer (some ⟨g, 0, none⟩)) (does_box rfl rfl) rfl ?_
 intro g4 w5 hS a hA
 refine seq_new (vs := [.bool false, .slice none 0 0, .bool false, .slice none 0 0, .slice none 0 0]) (t := 62) hA hS rfl rfl rfl (fun g => .pointer (some ⟨g, 0, none⟩)) (does_alloc (z := .agg #[.bool false, .slice none 0 0, .bool false, .slice none 0 0, .slice none 0 0]) (by kernel_rfl) rfl) rfl ?_
 intro g6 w7 hS a hA
 refine seq_end ?_
 refine hK1 _ _ ?_
 refine wp_seq_k (fun K8 hK8 => ?_)
 refine wp_draw (S := fun w1 => St w w1 [(g4, [.bool ((rb x2)), .slice u1 ((words x2.natAbs).length) uc1, .bool ((rb y2)), .slice u2 ((words y2.natAbs).length) uc2, .slice u3 ((words d2).length) uc3]), (g2, [.bool ((rb x1)), .slice a1 ((words x1.natAbs).length) ac1, .bool ((rb y1)), .slice a2 ((words y1.natAbs).length) ac2, .slice a3 ((words d1).length) ac3])] [(u3, words d2), (u2, words y2.natAbs), (u1, words x2.natAbs), (a3, words d1), (a2, words y1.natAbs), (a1, words x1.natAbs)] []) (by kernel_rfl) ?_
 replace hS := hS.drew
 refine any_tk (v := .pointer (some ⟨g2, 0, none⟩)) hA 0 rfl rfl rfl rfl hP (hS.partD (.cons _ (.cons_cons _ (.cons_cons _ .slnil))) 0 rfl (.refl _)) (fun w1 hS => does_field ExJ_fld_62_0 rfl rfl) ?_
 intro a hA
 refine any_tk hA 1 rfl rfl rfl rfl hP (hS.partD (.cons _ (.cons_cons _ (.cons_cons _ .slnil))) 0 rfl (.refl _)) (fun w1 hS => does_loadS hS ExJ_isS_60 rfl 1 rfl (cs := [.bool ((rb x1)), .slice a1 ((words x1.natAbs).length) ac1]) rfl rfl) ?_
 intro a hA
 refine any_tk (v := .pointer (some ⟨g4, 4, none⟩)) hA 2 rfl rfl rfl rfl hP (hS.partD (.cons _ (.cons_cons _ (.cons_cons _ .slnil))) 0 rfl (.refl _)) (fun w1 hS => does_field ExJ_fld_62_2 rfl rfl) ?_
 intro a hA
 refine any_tk hA 3 rfl rfl rfl rfl hP (hS.partD (.cons _ (.cons_cons _ (.cons_cons _ .slnil))) 0 rfl (.refl _)) (fun w1 hS => does_load1 hS ExJ_is1_23 rfl 0 rfl rfl) ?_
 intro a hA
 refine any_tk (v := .pointer (some ⟨g4, 0, none⟩)) hA 5 rfl rfl rfl rfl hP (hS.partD (.cons _ (.cons_cons _ (.cons_cons _ .slnil))) 0 rfl (.refl _)) (fun w1 hS => does_field ExJ_fld_62_0 rfl rfl) ?_
 intro a hA
 refine any_tk hA 6 rfl rfl rfl rfl hP (hS.partD (.cons _ (.cons_cons _ (.cons_cons _ .slnil))) 0 rfl (.refl _)) (fun w1 hS => does_loadS hS ExJ_isS_60 rfl 0 rfl (cs := [.bool ((rb x2)), .slice u1 ((words x2.natAbs).length) uc1]) rfl rfl) ?_
 intro a hA
 refine any_tk (v := .pointer (some ⟨g2, 4, none⟩)) hA 7 rfl rfl rfl rfl hP (hS.partD (.cons _ (.cons_cons _ (.cons_cons _ .slnil))) 0 rfl (.refl _)) (fun w1 hS => does_field ExJ_fld_62_2 rfl rfl) ?_
 intro a hA
 refine any_tk hA 8 rfl rfl rfl rfl hP (hS.partD (.cons _ (.cons_cons _ (.cons_cons _ .slnil))) 0 rfl (.refl _)) (fun w1 hS => does_load1 hS ExJ_is1_23 rfl 1 rfl rfl) ?_
 intro a hA
 refine any_tk (v := .pointer (some ⟨g2, 2, none⟩)) hA 11 rfl rfl rfl rfl hP (hS.partD (.cons _ (.cons_cons _ (.cons_cons _ .slnil))) 0 rfl (.refl _)) (fun w1 hS => does_field ExJ_fld_62_1 rfl rfl) ?_
 intro a hA
 refine any_tk hA 12 rfl rfl rfl rfl hP (hS.partD (.cons _ (.cons_cons _ (.cons_cons _ .slnil))) 0 rfl (.refl _)) (fun w1 hS => does_loadS hS ExJ_isS_60 rfl 1 rfl (cs := [.bool ((rb y1)), .slice a2 ((words y1.natAbs).length) ac2]) rfl rfl) ?_
 intro a hA
 refine any_tk (v := .pointer (some ⟨g4, 4, none⟩)) hA 13 rfl rfl rfl rfl hP (hS.partD (.cons _ (.cons_cons _ (.cons_cons _ .slnil))) 0 rfl (.refl _)) (fun w1 hS => does_field ExJ_fld_62_2 rfl rfl) ?_
 intro a hA
 refine any_tk hA 14 rfl rfl rfl rfl hP (hS.partD (.cons _ (.cons_cons _ (.cons_cons _ .slnil))) 0 rfl (.refl _)) (fun w1 hS => does_load1 hS ExJ_is1_23 rfl 0 rfl rfl) ?_
 intro a hA
 refine any_tk (v := .pointer (some ⟨g4, 2, none⟩)) hA 16 rfl rfl rfl rfl hP (hS.partD (.cons _ (.cons_cons _ (.cons_cons _ .slnil))) 0 rfl (.refl _)) (fun w1 hS => does_field ExJ_fld_62_1 rfl rfl) ?_
 intro a hA
 refine any_tk hA 17 rfl rfl rfl rfl hP (hS.partD (.cons _ (.cons_cons _ (.cons_cons _ .slnil))) 0 rfl (.refl _)) (fun w1 hS => does_loadS hS ExJ_isS_60 rfl 0 rfl (cs := [.bool ((rb y2)), .slice u2 ((words y2.natAbs).length) uc2]) rfl rfl) ?_
 intro a hA
 refine any_tk (v := .pointer (some ⟨g2, 4, none⟩)) hA 18 rfl rfl rfl rfl hP (hS.partD (.cons _ (.cons_cons _ (.cons_cons _ .slnil))) 0 rfl (.refl _)) (fun w1 hS => does_field ExJ_fld_62_2 rfl rfl) ?_
 intro a hA
 refine any_tk hA 19 rfl rfl rfl rfl hP (hS.partD (.cons _ (.cons_cons _ (.cons_cons _ .slnil))) 0 rfl (.refl _)) (fun w1 hS => does_load1 hS ExJ_is1_23 rfl 1 rfl rfl) ?_
 intro a hA
 refine any_tk (v := .pointer (some ⟨g2, 4, none⟩)) hA 22 rfl rfl rfl rfl hP (hS.partD (.cons _ (.cons_cons _ (.cons_cons _ .slnil))) 0 rfl (.refl _)) (fun w1 hS => does_field ExJ_fld_62_2 rfl rfl) ?_
 intro a hA
 refine any_tk hA 23 rfl rfl rfl rfl hP (hS.partD (.cons _ (.cons_cons _ (.cons_cons _ .slnil))) 0 rfl (.refl _)) (fun w1 hS => does_load1 hS ExJ_is1_23 rfl 1 rfl rfl) ?_
 intro a hA
 refine any_tk (v := .pointer (some ⟨g4, 4, none⟩)) hA 24 rfl rfl rfl rfl hP (hS.partD (.cons _ (.cons_cons _ (.cons_cons _ .slnil))) 0 rfl (.refl _)) (fun w1 hS => does_field ExJ_fld_62_2 rfl rfl) ?_
 intro a hA
 refine any_tk hA 25 rfl rfl rfl rfl hP (hS.partD (.cons _ (.cons_cons _ (.cons_cons _ .slnil))) 0 rfl (.refl _)) (fun w1 hS => does_load1 hS ExJ_is1_23 rfl 0 rfl rfl) ?_
 intro a hA
 refine any_one (by kernel_rfl) (op_call hA 4 rfl rfl rfl rfl (enters_func  rfl rfl (fun w => by kernel_rfl)) (zscaled_any ⟨(hS.rd 5 rfl), ha1.nil, ha1.cap⟩ ⟨(hS.rd 0 rfl), hu3.nil, hu3.cap⟩ (by omega) (by omega)) ?_)
 rintro _ w13 ⟨zo9, zc10, rfl, hs11, hb12⟩
 replace hS := hS.call hb12
 replace hS := hS.addR hs11.rd
 refine ⟨_, rfl, (hS.partD (.cons _ (.cons_cons _ (.cons_cons _ .slnil))) 1 rfl (.refl _)), ?_⟩
 intro a hA
 refine any_one (by kernel_rfl) (op_call hA 9 rfl rfl rfl rfl (enters_func  rfl rfl (fun w => by kernel_rfl)) (zscaled_any ⟨(hS.rd 3 rfl), hu1.nil, hu1.cap⟩ ⟨(hS.rd 4 rfl), ha3.nil, ha3.cap⟩ (by omega) (by omega)) ?_)
 rintro _ w18 ⟨zo14, zc15, rfl, hs16, hb17⟩
 replace hS := hS.call hb17
 replace hS := hS.addR hs16.rd
 refine ⟨_, rfl, (hS.partD (.cons _ (.cons_cons _ (.cons_cons _ .slnil))) 2 rfl (.refl _)), ?_⟩
 intro a hA
 refine any_one (by kernel_rfl) (op_call hA 10 rfl rfl rfl rfl (enters_func  rfl rfl (fun w => by kernel_rfl)) (zplus_any ⟨(hS.rd 1 rfl), hs11.nil, hs11.cap⟩ ⟨(hS.rd 0 rfl), hs16.nil, hs16.cap⟩ (by omega) (by omega)) ?_)
 rintro _ w23 ⟨zo19, zc20, rfl, hs21, hb22⟩
 replace hS := hS.call hb22
 replace hS := hS.addR hs21.rd
 refine ⟨_, rfl, (hS.partD (.cons _ (.cons_cons _ (.cons_cons _ .slnil))) 3 rfl (.refl _)), ?_⟩
 intro a hA
 refine any_one (by kernel_rfl) (op_call hA 15 rfl rfl rfl rfl (enters_func  rfl rfl (fun w => by kernel_rfl)) (zscaled_any ⟨(hS.rd 7 rfl), ha2.nil, ha2.cap⟩ ⟨(hS.rd 3 rfl), hu3.nil, hu3.cap⟩ (by omega) (by omega)) ?_)
 rintro _ w28 ⟨zo24, zc25, rfl, hs26, hb27⟩
 replace hS := hS.call hb27
 replace hS := hS.addR hs26.rd
 refine ⟨_, rfl, (hS.partD (.cons _ (.cons_cons _ (.cons_cons _ .slnil))) 4 rfl (.refl _)), ?_⟩
 intro a hA
 refine any_one (by kernel_rfl) (op_call hA 20 rfl rfl rfl rfl (enters_func  rfl rfl (fun w => by kernel_rfl)) (zscaled_any ⟨(hS.rd 5 rfl), hu2.nil, hu2.cap⟩ ⟨(hS.rd 7 rfl), ha3.nil, ha3.cap⟩ (by omega) (by omega)) ?_)
 rintro _ w33 ⟨zo29, zc30, rfl, hs31, hb32⟩
 replace hS := hS.call hb32
 replace hS := hS.addR hs31.rd
 refine ⟨_, rfl, (hS.partD (.cons _ (.cons_cons _ (.cons_cons _ .slnil))) 5 rfl (.refl _)), ?_⟩
 intro a hA
 refine any_one (by kernel_rfl) (op_call hA 21 rfl rfl rfl rfl (enters_func  rfl rfl (fun w => by kernel_rfl)) (zplus_any ⟨(hS.rd 1 rfl), hs26.nil, hs26.cap⟩ ⟨(hS.rd 0 rfl), hs31.nil, hs31.cap⟩ (by omega) (by omega)) ?_)
 rintro _ w38 ⟨zo34, zc35, rfl, hs36, hb37⟩
 replace hS := hS.call hb37
 replace hS := hS.addR hs36.rd
 refine ⟨_, rfl, (hS.partD (.cons _ (.cons_cons _ (.cons_cons _ .slnil))) 6 rfl (.refl _)), ?_⟩
 intro a hA
 refine any_one (by kernel_rfl) (op_call hA 26 rfl rfl rfl rfl (enters_func  rfl rfl (fun w => by kernel_rfl)) (product_any _ _ (hS.rd 9 rfl) (hS.rd 6 rfl) (by omega) (by omega)) ?_)
 rintro _ w43 ⟨ro39, rc40, rfl, ho41, hb42⟩
 replace hS := hS.call hb42
 replace hS := hS.addR ho41.rd
 refine ⟨_, rfl, (hS.partD (.cons _ (.cons_cons _ (.cons_cons _ .slnil))) 7 rfl (.refl _)), ?_⟩
 intro a hA
 refine any_tk (v := .agg #[.bool ((rb (x1 * ((d2 : Nat) : Int) + (x2 * ((d1 : Nat) : Int))))), .slice zo19 ((words (x1 * ((d2 : Nat) : Int) + (x2 * ((d1 : Nat) : Int))).natAbs).length) zc20, .bool ((rb (y1 * ((d2 : Nat) : Int) + (y2 * ((d1 : Nat) : Int))))), .slice zo34 ((words (y1 * ((d2 : Nat) : Int) + (y2 * ((d1 : Nat) : Int))).natAbs).length) zc35, .slice ro39 ((words (d1 * d2)).length) rc40]) hA 27 rfl rfl rfl rfl hP (hS.partD (.cons _ (.cons_cons _ (.cons_cons _ .slnil))) 7 rfl (.refl _)) (fun w1 hS => does_build rfl (fun w => by kernel_rfl)) ?_
 intro a hA
 refine any_one (by kernel_rfl) (op_store (us := [.bool ((rb (x1 * ((d2 : Nat) : Int) + (x2 * ((d1 : Nat) : Int))))), .slice zo19 ((words (x1 * ((d2 : Nat) : Int) + (x2 * ((d1 : Nat) : Int))).natAbs).length) zc20, .bool ((rb (y1 * ((d2 : Nat) : Int) + (y2 * ((d1 : Nat) : Int))))), .slice zo34 ((words (y1 * ((d2 : Nat) : Int) + (y2 * ((d1 : Nat) : Int))).natAbs).length) zc35, .slice ro39 ((words (d1 * d2)).length) rc40]) hA hS 28 rfl rfl rfl (sets_store rfl rfl rfl (by kernel_rfl) hS 0 rfl rfl rfl) 0 rfl rfl rfl rfl ?_)
 intro w44 hS
 refine ⟨(hS.partD (.cons _ (.cons_cons _ (.cons_cons _ .slnil))) 7 rfl (.refl _)), ?_⟩
 refine any_end (by kernel_rfl) ?_
 refine hK8 _ _ ?_
 refine wp_ret ?_
 refine hret _ _ ?_
 refine ends (v := .agg #[.bool ((rb (x1 * ((d2 : Nat) : Int) + (x2 * ((d1 : Nat) : Int))))), .slice zo19 ((words (x1 * ((d2 : Nat) : Int) + (x2 * ((d1 : Nat) : Int))).natAbs).length) zc20, .bool ((rb (y1 * ((d2 : Nat) : Int) + (y2 * ((d1 : Nat) : Int))))), .slice zo34 ((words (y1 * ((d2 : Nat) : Int) + (y2 * ((d1 : Nat) : Int))).natAbs).length) zc35, .slice ro39 ((words (d1 * d2)).length) rc40]) hA rfl (.cons (res_cell hS ExJ_isS_62 rfl 0 rfl (cs := [.bool ((rb (x1 * ((d2 : Nat) : Int) + (x2 * ((d1 : Nat) : Int))))), .slice zo19 ((words (x1 * ((d2 : Nat) : Int) + (x2 * ((d1 : Nat) : Int))).natAbs).length) zc20, .bool ((rb (y1 * ((d2 : Nat) : Int) + (y2 * ((d1 : Nat) : Int))))), .slice zo34 ((words (y1 * ((d2 : Nat) : Int) + (y2 * ((d1 : Nat) : Int))).natAbs).length) zc35, .slice ro39 ((words (d1 * d2)).length) rc40]) rfl rfl) .nil) rfl ?_
 exact ⟨zo19, zc20, zo34, zc35, ro39, rc40, rfl, ⟨(hS.rd 4 rfl), hs21.nil, hs21.cap⟩, ⟨(hS.rd 1 rfl), hs36.nil, hs36.cap⟩, ⟨(hS.rd 0 rfl), ho41.nocap, ho41.caps⟩, hS.bel⟩
theorem zdiff_any {w : World} {x1 y1 x2 y2 : Int} {d1 d2 : Nat} {a1 a2 a3 : Option Addr} {ac1 ac2 ac3 : Nat} (ha1 : Sc w a1 ac1 (words x1.natAbs)) (ha2 : Sc w a2 ac2 (words y1.natAbs)) (ha3 : Sc w a3 ac3 (words d1)) {u1 u2 u3 : Option Addr} {uc1 uc2 uc3 : Nat} (hu1 : Sc w u1 uc1 (words x2.natAbs)) (hu2 : Sc w u2 uc2 (words y2.natAbs)) (hu3 : Sc w u3 uc3 (words d2)) (la1 : (words x1.natAbs).length ≤ 10000) (la2 : (words y1.natAbs).length ≤ 10000) (la3 : (words d1).length ≤ 10000) (lu1 : (words x2.natAbs).length ≤ 10000) (lu2 : (words y2.natAbs).length ≤ 10000) (lu3 : (words d2).length ≤ 10000) : Calls Tryd.prog 37 #[.agg #[.bool (rb x1), .slice a1 (words x1.natAbs).length ac1, .bool (rb y1), .slice a2 (words y1.natAbs).length ac2, .slice a3 (words d1).length ac3], .agg #[.bool (rb x2), .slice u1 (words x2.natAbs).length uc1, .bool (rb y2), .slice u2 (words y2.natAbs).length uc2, .slice u3 (words d2).length uc3]] w (AnsR w (x1 * ((d2 : Nat) : Int) + -x2 * ((d1 : Nat) : Int)) (y1 * ((d2 : Nat) : Int) + -y2 * ((d1 : Nat) : Int)) (d1 * d2)) := by
 have hS : St w w [] [(u3, words d2), (u2, words y2.natAbs), (u1, words x2.natAbs), (a3, words d1), (a2, words y1.natAbs), (a1, words x1.natAbs)] [] := ((((((St.start w).addR ha1.rd).addR ha2.rd).addR ha3.rd).addR hu1.rd).addR hu2.rd).addR hu3.rd
 refine walk_of (l := [(0, .agg #[.bool ((rb x1)), .slice a1 ((words x1.natAbs).length) ac1, .bool ((rb y1)), .slice a2 ((words y1.natAbs).length) ac2, .slice a3 ((words d1).length) ac3]), (1, .agg #[.bool ((rb x2)), .slice u1 ((words x2.natAbs).length) uc1, .bool ((rb y2)), .slice u2 ((words y2.natAbs).length) uc2, .slice u3 ((words d2).length) uc3])]) Tryd.func37 rfl Tryd.ntmps37 rfl rfl ?_
 intro Q hret hnorm hP a hA
 refine wp_seq_k (fun K1 hK1 => ?_)
 refine wp_region_lit ?_
 refine seq_new hA hS rfl rfl rfl (fun g => .pointer (some ⟨g, 0, none⟩)) (does_box rfl rfl) rfl ?_
 intro g2 w3 hS a hA
 refine seq_new hA hS rfl rfl rfl (fun g => .pointer (some ⟨g, 0, none⟩)) (does_box rfl rfl) rfl ?_
 intro g4 w5 hS a hA
 refine seq_new (vs := [.bool false, .slice none 0 0, .bool false, .slice none 0 0, .slice none 0 0]) (t := 62) hA hS rfl rfl rfl (fun g => .pointer (some ⟨g, 0, none⟩)) (does_alloc (z := .agg #[.bool false, .slice none 0 0, .bool false, .slice none 0 0, .slice none 0 0]) (by kernel_rfl) rfl) rfl ?_
 intro g6 w7 hS a hA
 refine seq_end ?_
 refine hK1 _ _ ?_
 refine wp_seq_k (fun K8 hK8 => ?_)
 refine wp_draw (S := fun w1 => St w w1 [(g4, [.bool ((rb x2)), .slice u1 ((words x2.natAbs).length) uc1, .bool ((rb y2)), .slice u2 ((words y2.natAbs).length) uc2, .slice u3 ((words d2).length) uc3]), (g2, [.bool ((rb x1)), .slice a1 ((words x1.natAbs).length) ac1, .bool ((rb y1)), .slice a2 ((words y1.natAbs).length) ac2, .slice a3 ((words d1).length) ac3])] [(u3, words d2), (u2, words y2.natAbs), (u1, words x2.natAbs), (a3, words d1), (a2, words y1.natAbs), (a1, words x1.natAbs)] []) (by kernel_rfl) ?_
 replace hS := hS.drew
 refine any_tk hA 0 rfl rfl rfl rfl hP (hS.partD (.cons _ (.cons_cons _ (.cons_cons _ .slnil))) 0 rfl (.refl _)) (fun w1 hS => does_loadS hS ExJ_isS_62 rfl 1 rfl (cs := [.bool ((rb x1)), .slice a1 ((words x1.natAbs).length) ac1, .bool ((rb y1)), .slice a2 ((words y1.natAbs).length) ac2, .slice a3 ((words d1).length) ac3]) rfl rfl) ?_
 intro a hA
 refine any_tk (v := .pointer (some ⟨g4, 0, none⟩)) hA 1 rfl rfl rfl rfl hP (hS.partD (.cons _ (.cons_cons _ (.cons_cons _ .slnil))) 0 rfl (.refl _)) (fun w1 hS => does_field ExJ_fld_62_0 rfl rfl) ?_
 intro a hA
 refine any_tk hA 2 rfl rfl rfl rfl hP (hS.partD (.cons _ (.cons_cons _ (.cons_cons _ .slnil))) 0 rfl (.refl _)) (fun w1 hS => does_loadS hS ExJ_isS_60 rfl 0 rfl (cs := [.bool ((rb x2)), .slice u1 ((words x2.natAbs).length) uc1]) rfl rfl) ?_
 intro a hA
 refine any_tk (v := .pointer (some ⟨g4, 2, none⟩)) hA 4 rfl rfl rfl rfl hP (hS.partD (.cons _ (.cons_cons _ (.cons_cons _ .slnil))) 0 rfl (.refl _)) (fun w1 hS => does_field ExJ_fld_62_1 rfl rfl) ?_
 intro a hA
 refine any_tk hA 5 rfl rfl rfl rfl hP (hS.partD (.cons _ (.cons_cons _ (.cons_cons _ .slnil))) 0 rfl (.refl _)) (fun w1 hS => does_loadS hS ExJ_isS_60 rfl 0 rfl (cs := [.bool ((rb y2)), .slice u2 ((words y2.natAbs).length) uc2]) rfl rfl) ?_
 intro a hA
 refine any_tk (v := .pointer (some ⟨g4, 4, none⟩)) hA 7 rfl rfl rfl rfl hP (hS.partD (.cons _ (.cons_cons _ (.cons_cons _ .slnil))) 0 rfl (.refl _)) (fun w1 hS => does_field ExJ_fld_62_2 rfl rfl) ?_
 intro a hA
 refine any_tk hA 8 rfl rfl rfl rfl hP (hS.partD (.cons _ (.cons_cons _ (.cons_cons _ .slnil))) 0 rfl (.refl _)) (fun w1 hS => does_load1 hS ExJ_is1_23 rfl 0 rfl rfl) ?_
 intro a hA
 refine any_one (by kernel_rfl) (op_call hA 3 rfl rfl rfl rfl (enters_func  rfl rfl (fun w => by kernel_rfl)) (zopp_any ⟨(hS.rd 2 rfl), hu1.nil, hu1.cap⟩) ?_)
 rintro _ w13 ⟨zo9, zc10, rfl, hs11, hb12⟩
 replace hS := hS.call hb12
 replace hS := hS.addR hs11.rd
 refine ⟨_, rfl, (hS.partD (.cons _ (.cons_cons _ (.cons_cons _ .slnil))) 1 rfl (.refl _)), ?_⟩
 intro a hA
 refine any_one (by kernel_rfl) (op_call hA 6 rfl rfl rfl rfl (enters_func  rfl rfl (fun w => by kernel_rfl)) (zopp_any ⟨(hS.rd 2 rfl), hu2.nil, hu2.cap⟩) ?_)
 rintro _ w18 ⟨zo14, zc15, rfl, hs16, hb17⟩
 replace hS := hS.call hb17
 replace hS := hS.addR hs16.rd
 refine ⟨_, rfl, (hS.partD (.cons _ (.cons_cons _ (.cons_cons _ .slnil))) 2 rfl (.refl _)), ?_⟩
 intro a hA
 refine any_tk (v := .agg #[.bool ((rb (-x2))), .slice zo9 ((words (-x2).natAbs).length) zc10, .bool ((rb (-y2))), .slice zo14 ((words (-y2).natAbs).length) zc15, .slice u3 ((words d2).length) uc3]) hA 9 rfl rfl rfl rfl hP (hS.partD (.cons _ (.cons_cons _ (.cons_cons _ .slnil))) 2 rfl (.refl _)) (fun w1 hS => does_build rfl (fun w => by kernel_rfl)) ?_
 intro a hA
 refine any_one (by kernel_rfl) (op_call hA 10 rfl rfl rfl rfl (enters_func  rfl rfl (fun w => by kernel_rfl)) (zsum_any ⟨(hS.rd 7 rfl), ha1.nil, ha1.cap⟩ ⟨(hS.rd 6 rfl), ha2.nil, ha2.cap⟩ ⟨(hS.rd 5 rfl), ha3.nil, ha3.cap⟩ ⟨(hS.rd 1 rfl), hs11.nil, hs11.cap⟩ ⟨(hS.rd 0 rfl), hs16.nil, hs16.cap⟩ ⟨(hS.rd 2 rfl), hu3.nil, hu3.cap⟩ (by omega) (by omega) (by omega) (by rw [Int.natAbs_neg]; omega) (by rw [Int.natAbs_neg]; omega) (by omega)) ?_)
 rintro _ w24 ⟨p19_1, p19_c1, p19_2, p19_c2, p19_3, p19_c3, rfl, hs20, hs21, hs22, hb23⟩
 replace hS := hS.call hb23
 replace hS := hS.addR hs20.rd
 replace hS := hS.addR hs21.rd
 replace hS := hS.addR hs22.rd
 refine ⟨_, rfl, (hS.partD (.cons _ (.cons_cons _ (.cons_cons _ .slnil))) 5 rfl (.refl _)), ?_⟩
 intro a hA
 refine any_one (by kernel_rfl) (op_store (us := [.bool ((rb (x1 * ((d2 : Nat) : Int) + -x2 * ((d1 : Nat) : Int)))), .slice p19_1 ((words (x1 * ((d2 : Nat) : Int) + -x2 * ((d1 : Nat) : Int)).natAbs).length) p19_c1, .bool ((rb (y1 * ((d2 : Nat) : Int) + -y2 * ((d1 : Nat) : Int)))), .slice p19_2 ((words (y1 * ((d2 : Nat) : Int) + -y2 * ((d1 : Nat) : Int)).natAbs).length) p19_c2, .slice p19_3 ((words (d1 * d2)).length) p19_c3]) hA hS 11 rfl rfl rfl (sets_store rfl rfl rfl (by kernel_rfl) hS 0 rfl rfl rfl) 0 rfl rfl rfl rfl ?_)
 intro w25 hS
 refine ⟨(hS.partD (.cons _ (.cons_cons _ (.cons_cons _ .slnil))) 5 rfl (.refl _)), ?_⟩
 refine any_end (by kernel_rfl) ?_
 refine hK8 _ _ ?_
 refine wp_ret ?_
 refine hret _ _ ?_
 refine ends (v := .agg #[.bool ((rb (x1 * ((d2 : Nat) : Int) + -x2 * ((d1 : Nat) : Int)))), .slice p19_1 ((words (x1 * ((d2 : Nat) : Int) + -x2 * ((d1 : Nat) : Int)).natAbs).length) p19_c1, .bool ((rb (y1 * ((d2 : Nat) : Int) + -y2 * ((d1 : Nat) : Int)))), .slice p19_2 ((words (y1 * ((d2 : Nat) : Int) + -y2 * ((d1 : Nat) : Int)).natAbs).length) p19_c2, .slice p19_3 ((words (d1 * d2)).length) p19_c3]) hA rfl (.cons (res_cell hS ExJ_isS_62 rfl 0 rfl (cs := [.bool ((rb (x1 * ((d2 : Nat) : Int) + -x2 * ((d1 : Nat) : Int)))), .slice p19_1 ((words (x1 * ((d2 : Nat) : Int) + -x2 * ((d1 : Nat) : Int)).natAbs).length) p19_c1, .bool ((rb (y1 * ((d2 : Nat) : Int) + -y2 * ((d1 : Nat) : Int)))), .slice p19_2 ((words (y1 * ((d2 : Nat) : Int) + -y2 * ((d1 : Nat) : Int)).natAbs).length) p19_c2, .slice p19_3 ((words (d1 * d2)).length) p19_c3]) rfl rfl) .nil) rfl ?_
 exact ⟨p19_1, p19_c1, p19_2, p19_c2, p19_3, p19_c3, rfl, ⟨(hS.rd 2 rfl), hs20.nil, hs20.cap⟩, ⟨(hS.rd 1 rfl), hs21.nil, hs21.cap⟩, ⟨(hS.rd 0 rfl), hs22.nil, hs22.cap⟩, hS.bel⟩
end Go.Proofs.YtbajcflbimmnhaaDoor
namespace Go.Proofs.YtbajcflbimmnhaaDoor
open Go.RowKit
set_option linter.unusedVariables false
set_option linter.unusedSimpArgs false

/-- A rational number that is not too long. -/
def fitR (u : Rat) : Prop := (words u.num.natAbs).length ≤ 512 ∧ (words u.den).length ≤ 512
instance (u : Rat) : Decidable (fitR u) := inferInstanceAs (Decidable (_ ∧ _))
/-- The number of two rational ones. -/
def Q6.rat (u v : Rat) : Q6 := ⟨rb u.num, words u.num.natAbs, words u.den, rb v.num, words v.num.natAbs, words v.den⟩
/-- .. unless it is too long. -/
def ratS (u v : Rat) : Q6 × Int := if fitR u ∧ fitR v then (Q6.rat u v, 0) else (Q6.zero, 4)
theorem rt_mk (x : Int) {d : Nat} (hd : d ≠ 0) : rt x d = (mkRat x d).num.natAbs := by
  rw [Rat.num_mkRat, if_neg hd, Nat.gcd_comm]
  unfold rt
  have hg : ((Nat.gcd x.natAbs d : Nat) : Int) ∣ x := Int.ofNat_dvd_left.2 (Nat.gcd_dvd_left _ _)
  rw [Int.natAbs_ediv_of_dvd hg, Int.natAbs_natCast]
theorem rq_mk (x : Int) {d : Nat} (hd : d ≠ 0) : rq x d = (mkRat x d).den := by
  rw [Rat.den_mkRat, if_neg hd, Nat.gcd_comm]
  rfl
theorem rb_mk (x : Int) {d : Nat} (hd : d ≠ 0) : rb x = rb (mkRat x d).num := by
  rw [Rat.num_mkRat, if_neg hd]
  unfold rb
  have hg : 0 < ((Nat.gcd d x.natAbs : Nat) : Int) := by
    have := gcd_ne (x := x.natAbs) hd
    rw [Nat.gcd_comm] at this
    omega
  have h2 : ((Nat.gcd d x.natAbs : Nat) : Int) ∣ x := Int.ofNat_dvd_left.2 (Nat.gcd_dvd_right _ _)
  obtain ⟨k, hk⟩ := h2
  generalize ((Nat.gcd d x.natAbs : Nat) : Int) = g at *
  rw [hk]
  rw [Int.mul_ediv_cancel_left _ (by omega)]
  by_cases h : k < 0
  · have := Int.mul_neg_of_pos_of_neg hg h
    rw [decide_eq_true h, decide_eq_true this]
  · have := Int.mul_nonneg (Int.le_of_lt hg) (by omega : 0 ≤ k)
    rw [decide_eq_false h, decide_eq_false (by omega)]
theorem setQ_rat (x y : Int) {d : Nat} (hd : d ≠ 0) : setQ x y d = ratS (mkRat x d) (mkRat y d) := by
  unfold setQ ratS fitR Q6.rat
  rw [rt_mk x hd, rt_mk y hd, rq_mk x hd, rq_mk y hd, ← rb_mk x hd, ← rb_mk y hd]
  by_cases h : (words (mkRat x d).num.natAbs).length ≤ 512 ∧ (words (mkRat x d).den).length ≤ 512 ∧ (words (mkRat y d).num.natAbs).length ≤ 512 ∧ (words (mkRat y d).den).length ≤ 512
  · rw [if_pos h, if_pos ⟨⟨h.1, h.2.1⟩, h.2.2⟩]
  · rw [if_neg h, if_neg (fun k => h ⟨k.1.1, k.1.2, k.2⟩)]
theorem fracS_rat {u : Rat} (h : fitR u) : fracS (rb u.num) (words u.num.natAbs) (words u.den) = true := by
  unfold fracS gcdS
  rw [sound_of_words h.1, sound_of_words h.2]
  have h1 : ¬ (words u.den).length = 0 := by have := (words_len_pos (x := u.den)).2 u.den_nz; omega
  have h2 : Nat.gcd u.num.natAbs u.den = 1 := u.reduced
  simp only [Bool.and_self, if_true, val_words, h2, words_one, decide_true, Bool.and_true, decide_eq_false h1, Bool.false_or]
  by_cases hz : u.num = 0
  · rw [hz, show rb 0 = false from rfl, Bool.and_false]; rfl
  · have h3 : ¬ (words u.num.natAbs).length = 0 := by have := (words_len_pos (x := u.num.natAbs)).2 (by omega); omega
    rw [decide_eq_false h3]
    rfl
theorem soundQ_rat {u v : Rat} (hu : fitR u) (hv : fitR v) : soundQ (Q6.rat u v) = true := by
  unfold soundQ soundN Q6.rat
  rw [fracS_rat hu, fracS_rat hv]
  rfl
theorem frac_form {b : Bool} {t q : List Nat} (ht : Dig t) (hq : Dig q) (h : fracS b t q = true) : ∃ u : Rat, fitR u ∧ b = rb u.num ∧ t = words u.num.natAbs ∧ q = words u.den := by
  unfold fracS gcdS at h
  by_cases hs : (sound t && sound q) = true
  · rw [if_pos hs] at h
    rw [Bool.and_eq_true] at hs
    obtain ⟨e1, l1⟩ := sound_words ht hs.1
    obtain ⟨e2, l2⟩ := sound_words hq hs.2
    simp only [Bool.and_eq_true, decide_eq_true_eq, Bool.not_eq_true', Bool.or_eq_false_iff, decide_eq_false_iff_not] at h
    obtain ⟨⟨h1, h2⟩, _, h3⟩ := h
    have hd : val q ≠ 0 := fun e => h1 (by rw [e2, e, words_zero]; rfl)
    have hg : Nat.gcd (val t) (val q) = 1 := by
      have := congrArg val h3
      rw [val_words] at this
      rw [this, ← words_one, val_words]
    refine ⟨⟨sgn b (val t), val q, hd, by rw [sgn_abs]; exact hg⟩, ⟨by simp only [sgn_abs]; rw [← e1]; exact l1, by rw [← e2]; exact l2⟩, ?_, by simp only [sgn_abs]; exact e1, e2⟩
    unfold rb
    simp only []
    rw [sgn_neg]
    cases b with
    | false => rfl
    | true =>
      have : 0 < val t := by
        apply Nat.pos_of_ne_zero
        intro e
        rw [e1, e, words_zero] at h2
        simp at h2
      rw [decide_eq_true this]
      rfl
  · rw [if_neg hs] at h
    simp at h
theorem sound_rat {q : Q6} (h1 : Dig q.t1) (h2 : Dig q.q1) (h3 : Dig q.t2) (h4 : Dig q.q2) (h : soundQ q = true) : ∃ u v, q = Q6.rat u v ∧ fitR u ∧ fitR v := by
  unfold soundQ soundN at h
  rw [Bool.and_eq_true] at h
  obtain ⟨u, hu, a1, a2, a3⟩ := frac_form h1 h2 h.1
  obtain ⟨v, hv, b1, b2, b3⟩ := frac_form h3 h4 h.2
  refine ⟨u, v, ?_, hu, hv⟩
  cases q
  simp only [Q6.rat] at *
  rw [a1, a2, a3, b1, b2, b3]
/-- Both parts over one bottom. -/
def spG (u v : Rat) : Nat := Nat.gcd u.den v.den
def spX (u v : Rat) : Int := u.num * ((v.den / spG u v : Nat) : Int)
def spY (u v : Rat) : Int := v.num * ((u.den / spG u v : Nat) : Int)
def spD (u v : Rat) : Nat := u.den * (v.den / spG u v)
theorem spG_pos (u v : Rat) : 0 < spG u v := Nat.gcd_pos_of_pos_left _ (Nat.pos_of_ne_zero u.den_nz)
theorem spD_eq (u v : Rat) : spD u v = v.den * (u.den / spG u v) := by
  unfold spD spG
  rw [← Nat.mul_div_assoc _ (Nat.gcd_dvd_right u.den v.den), ← Nat.mul_div_assoc _ (Nat.gcd_dvd_left u.den v.den), Nat.mul_comm]
theorem div_ne {n g : Nat} (hn : n ≠ 0) (hg : 0 < g) (h : g ∣ n) : n / g ≠ 0 := by
  have := Nat.div_pos (Nat.le_of_dvd (Nat.pos_of_ne_zero hn) h) hg
  omega
theorem spD_ne (u v : Rat) : spD u v ≠ 0 := Nat.mul_ne_zero u.den_nz (div_ne v.den_nz (spG_pos u v) (Nat.gcd_dvd_right _ _))
theorem spX_mk (u v : Rat) : mkRat (spX u v) (spD u v) = u := by
  unfold spX spD
  rw [Rat.mkRat_mul_right (div_ne v.den_nz (spG_pos u v) (Nat.gcd_dvd_right _ _)), Rat.mkRat_self]
theorem spY_mk (u v : Rat) : mkRat (spY u v) (spD u v) = v := by
  rw [spD_eq]
  unfold spY
  rw [Rat.mkRat_mul_right (div_ne u.den_nz (spG_pos u v) (Nat.gcd_dvd_left _ _)), Rat.mkRat_self]
theorem nat_abs_len {n k : Nat} (h : (words n).length ≤ k) : (words ((n : Int)).natAbs).length ≤ k := by rw [Int.natAbs_natCast]; exact h
theorem spX_len {u v : Rat} (hu : fitR u) (hv : fitR v) : (words (spX u v).natAbs).length ≤ 1024 := abs_mul_len (k := 512) (m := 512) hu.1 (nat_abs_len (div_len hv.2))
theorem spY_len {u v : Rat} (hu : fitR u) (hv : fitR v) : (words (spY u v).natAbs).length ≤ 1024 := abs_mul_len (k := 512) (m := 512) hv.1 (nat_abs_len (div_len hu.2))
theorem spD_len {u v : Rat} (hu : fitR u) (hv : fitR v) : (words (spD u v)).length ≤ 1024 := words_mul_length (k := 512) (m := 512) hu.2 (div_len hv.2)
/-- One over x + y i, over d. -/
def ivX (x y : Int) (d : Nat) : Int := if y = 0 then sgn (rb x) d else x * (d : Int)
def ivY (x y : Int) (d : Nat) : Int := if y = 0 then 0 else -y * (d : Int)
def ivD (x y : Int) : Nat := if y = 0 then x.natAbs else (x * x + y * y).natAbs
theorem sq_pos {x y : Int} (h : x ≠ 0 ∨ y ≠ 0) : 0 < x * x + y * y := by
  have h1 : 0 ≤ x * x := by rw [← Int.natAbs_mul_self' x]; exact Int.natCast_nonneg _
  have h2 : 0 ≤ y * y := by rw [← Int.natAbs_mul_self' y]; exact Int.natCast_nonneg _
  rcases h with h | h
  · have : x * x ≠ 0 := fun e => h ((Int.mul_eq_zero.1 e).elim id id)
    omega
  · have : y * y ≠ 0 := fun e => h ((Int.mul_eq_zero.1 e).elim id id)
    omega
theorem ivD_ne {x y : Int} (h : x ≠ 0 ∨ y ≠ 0) : ivD x y ≠ 0 := by
  unfold ivD
  split
  · omega
  · have := sq_pos h; omega
theorem sq_abs {x y : Int} : ((x * x + y * y).natAbs : Int) = x * x + y * y := by
  have h1 : 0 ≤ x * x := by rw [← Int.natAbs_mul_self' x]; exact Int.natCast_nonneg _
  have h2 : 0 ≤ y * y := by rw [← Int.natAbs_mul_self' y]; exact Int.natCast_nonneg _
  omega
theorem rat_nat_int (n : Nat) : ((n : Nat) : Rat) = ((n : Int) : Rat) := rfl
theorem iv_mk {x y : Int} {d : Nat} (hd : d ≠ 0) (h : x ≠ 0 ∨ y ≠ 0) {u v : Rat} (hu : mkRat x d = u) (hv : mkRat y d = v) :
    mkRat (ivX x y d) (ivD x y) = u / (u * u + v * v) ∧ mkRat (ivY x y d) (ivD x y) = -v / (u * u + v * v) ∧ u * u + v * v ≠ 0 := by
  have hd' : ((d : Nat) : Rat) ≠ 0 := by rw [Ne, Rat.natCast_eq_zero_iff]; exact hd
  have hs := sq_pos h
  have hs' : (x : Rat) * (x : Rat) + (y : Rat) * (y : Rat) ≠ 0 := by
    rw [← Rat.intCast_mul, ← Rat.intCast_mul, ← Rat.intCast_add, Ne, Rat.intCast_eq_zero_iff]
    omega
  subst hu hv
  rw [Rat.mkRat_eq_div x d, Rat.mkRat_eq_div y d]
  have hn : (x : Rat) / (d : Rat) * ((x : Rat) / (d : Rat)) + (y : Rat) / (d : Rat) * ((y : Rat) / (d : Rat)) ≠ 0 := by grind
  refine ⟨?_, ?_, hn⟩
  · unfold ivX ivD
    by_cases hy : y = 0
    · rw [if_pos hy, if_pos hy]
      subst hy
      have hx : x ≠ 0 := by rcases h with h | h; exact h; exact absurd rfl h
      have hx' : (x : Rat) ≠ 0 := by rw [Ne, Rat.intCast_eq_zero_iff]; exact hx
      have e : mkRat (sgn (rb x) d) x.natAbs = mkRat (d * x) (x.natAbs * x.natAbs) := by
        rw [Rat.mkRat_eq_iff (by omega) (Nat.mul_ne_zero (by omega) (by omega))]
        rw [Int.natCast_mul]
        have e1 := sgn_rb x
        have e2 : sgn (rb x) d * (x.natAbs : Int) = d * x := by
          unfold sgn rb
          by_cases hx0 : x < 0
          · rw [if_pos (decide_eq_true hx0), show (x.natAbs : Int) = -x from by omega, Int.neg_mul_neg]
          · rw [if_neg (by rw [decide_eq_false hx0]; decide), show (x.natAbs : Int) = x from by omega]
        rw [← Int.mul_assoc, e2]
      rw [e, Rat.mkRat_eq_div, Rat.intCast_mul, rat_nat_int (x.natAbs * x.natAbs), Int.natAbs_mul_self, Rat.intCast_mul]
      simp only [Rat.intCast_zero, rat_nat_int] at *
      grind
    · rw [if_neg hy, if_neg hy, Rat.mkRat_eq_div, rat_nat_int (x * x + y * y).natAbs, sq_abs, Rat.intCast_mul, Rat.intCast_add, Rat.intCast_mul, Rat.intCast_mul]
      rw [rat_nat_int] at *
      grind
  · unfold ivY ivD
    by_cases hy : y = 0
    · rw [if_pos hy, if_pos hy]
      subst hy
      rw [Rat.mkRat_eq_div]
      simp only [Rat.intCast_zero, rat_nat_int] at *
      grind
    · rw [if_neg hy, if_neg hy, Rat.mkRat_eq_div, rat_nat_int (x * x + y * y).natAbs, sq_abs, Rat.intCast_mul, Rat.intCast_neg, Rat.intCast_add, Rat.intCast_mul, Rat.intCast_mul]
      rw [rat_nat_int] at *
      grind
/-- The two rational numbers of a number. -/
def reQ (q : Q6) : Rat := mkRat (sgn q.b1 (val q.t1)) (val q.q1)
def imQ (q : Q6) : Rat := mkRat (sgn q.b2 (val q.t2)) (val q.q2)
theorem reQ_rat (u v : Rat) : reQ (Q6.rat u v) = u := by
  unfold reQ Q6.rat
  simp only [val_words, sgn_rb]
  exact Rat.mkRat_self u
theorem imQ_rat (u v : Rat) : imQ (Q6.rat u v) = v := by
  unfold imQ Q6.rat
  simp only [val_words, sgn_rb]
  exact Rat.mkRat_self v
def subQ (p q : Q6) : Q6 × Int := if soundQ p = true ∧ soundQ q = true then ratS (reQ p - reQ q) (imQ p - imQ q) else (Q6.zero, 2)
theorem subQ_rat {u v x y : Rat} (hu : fitR u) (hv : fitR v) (hx : fitR x) (hy : fitR y) : subQ (Q6.rat u v) (Q6.rat x y) = ratS (u - x) (v - y) := by
  unfold subQ
  rw [if_pos ⟨soundQ_rat hu hv, soundQ_rat hx hy⟩, reQ_rat, reQ_rat, imQ_rat, imQ_rat]
theorem lenQ_rat {u v : Rat} (hu : fitR u) (hv : fitR v) : LenQ (Q6.rat u v) := by
  have h1 := hu.1
  have h2 := hu.2
  have h3 := hv.1
  have h4 := hv.2
  exact ⟨by simp only [Q6.rat]; omega, by simp only [Q6.rat]; omega, by simp only [Q6.rat]; omega, by simp only [Q6.rat]; omega⟩
theorem set_sub {x1 y1 x2 y2 : Int} {d1 d2 : Nat} {u v x y : Rat} (h1 : d1 ≠ 0) (h2 : d2 ≠ 0) (hu : mkRat x1 d1 = u) (hv : mkRat y1 d1 = v) (hx : mkRat x2 d2 = x) (hy : mkRat y2 d2 = y) :
    setQ (x1 * ((d2 : Nat) : Int) + -x2 * ((d1 : Nat) : Int)) (y1 * ((d2 : Nat) : Int) + -y2 * ((d1 : Nat) : Int)) (d1 * d2) = ratS (u - x) (v - y) := by
  subst hu hv hx hy
  rw [setQ_rat _ _ (Nat.mul_ne_zero h1 h2), Rat.sub_eq_add_neg, Rat.sub_eq_add_neg, Rat.neg_mkRat, Rat.neg_mkRat, Rat.mkRat_add_mkRat _ _ h1 h2, Rat.mkRat_add_mkRat _ _ h1 h2]
theorem mk_add {x y : Int} {d : Nat} (hd : d ≠ 0) : mkRat x d + mkRat y d = mkRat (x + y) d := by
  rw [Rat.mkRat_add_mkRat _ _ hd hd, ← Int.add_mul, Rat.mkRat_mul_right hd]
theorem ivX_len {x y : Int} {d k : Nat} (hx : (words x.natAbs).length ≤ k) (hd : (words d).length ≤ k) : (words (ivX x y d).natAbs).length ≤ k + k := by
  unfold ivX
  split
  · rw [sgn_abs]; omega
  · exact abs_mul_len hx (nat_abs_len hd)
theorem ivY_len {x y : Int} {d k : Nat} (hy : (words y.natAbs).length ≤ k) (hd : (words d).length ≤ k) : (words (ivY x y d).natAbs).length ≤ k + k := by
  unfold ivY
  split
  · rw [Int.natAbs_zero, words_zero]; exact Nat.zero_le _
  · exact abs_mul_len (by rw [Int.natAbs_neg]; exact hy) (nat_abs_len hd)
theorem ivD_len {x y : Int} {k : Nat} (hx : (words x.natAbs).length ≤ k) (hy : (words y.natAbs).length ≤ k) : (words (ivD x y)).length ≤ k + k + 1 := by
  unfold ivD
  split
  · omega
  · exact abs_add_len (abs_mul_len hx hx) (abs_mul_len hy hy)
/-- A number is sound, with its two rational ones, or not. -/
theorem sound_cases {q : Q6} {w : World} {o1 o2 o3 o4 : Option Addr} {c1 c2 c3 c4 : Nat} (h : Nm w q o1 c1 o2 c2 o3 c3 o4 c4) : soundQ q = false ∨ ∃ u v, q = Q6.rat u v ∧ fitR u ∧ fitR v := by
  cases hs : soundQ q with
  | false => exact .inl rfl
  | true => exact .inr (sound_rat h.s1.rd.dig h.s2.rd.dig h.s3.rd.dig h.s4.rd.dig hs)
theorem zero_rat (u v : Rat) : (decide ((words u.num.natAbs).length = 0) && decide ((words v.num.natAbs).length = 0)) = decide (u = 0 ∧ v = 0) := by
  have key : ∀ r : Rat, decide ((words r.num.natAbs).length = 0) = decide (r = 0) := fun r => by
    by_cases h : r = 0
    · rw [decide_eq_true h, h]
      rw [show (0 : Rat).num.natAbs = 0 from rfl, words_zero]
      rfl
    · rw [decide_eq_false h]
      apply decide_eq_false
      intro e
      have e1 := words_eq_nil.1 (List.length_eq_zero_iff.1 e)
      exact h (Rat.num_eq_zero.1 (by omega))
  rw [key, key]
  by_cases h1 : u = 0 <;> by_cases h2 : v = 0 <;> simp [h1, h2]
theorem sp_ne {u v : Rat} (h : ¬ (u = 0 ∧ v = 0)) : spX u v ≠ 0 ∨ spY u v ≠ 0 := by
  apply Classical.byContradiction
  intro hn
  have h1 : spX u v = 0 := Classical.byContradiction fun k => hn (.inl k)
  have h2 : spY u v = 0 := Classical.byContradiction fun k => hn (.inr k)
  apply h
  have e1 := spX_mk u v
  have e2 := spY_mk u v
  rw [h1, Rat.zero_mkRat] at e1
  rw [h2, Rat.zero_mkRat] at e2
  exact ⟨e1.symm, e2.symm⟩
end Go.Proofs.YtbajcflbimmnhaaDoor
