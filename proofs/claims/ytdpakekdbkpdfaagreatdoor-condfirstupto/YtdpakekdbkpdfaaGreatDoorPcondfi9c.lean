/- A walk's state, said by two lists: what the slots hold, and which blocks of its own the call has; and a law for each kind of step. A walk's memory, said by a list of blocks of the call's own and a list of rows of words that are read; what each operation does to it. Walks of small questions: does a fraction fit, is a number real, is it 0. Numbers as values of six cells, and what they stand for. Sound and whole numbers, as questions of six parts. Fractions in lowest terms, and whole numbers of any sign, as values. Walks of the small functions of rows of bits. Are two rows of words the same? Numbers of machine words, and sameness. Sound numbers as pairs of rational numbers. Operators on texts. The numbers are a field. Quotients of whole numbers, downwards, and the order of rational ones. Quotient and rest of real numbers. Facts of the order of real numbers. Fractions in lowest terms, as the document makes them. Walks of the document's functions over fractions. Walks of the document's sums of fractions. The document's -a - 1, and shifts of numbers. Walks of the document's -a - 1, and of shifts. How long numbers are in bits, and their opposites less one. Walks of the document's shifts, of lengths, of opposites less one, and of questions of sameness. How many bits of a number are 1. Walks of how many bits are 1. Rows of bits put together word by word. Walks of rows of bits put together. Numbers put together bit by bit. Walks of numbers put together bit by bit, and of Not. The fixed fact on bits. Walks of small numbers and of sameness. Walks of the fixed fact, and of sameness by the document. Numbers that come in as arguments. -/
import Derived.Test.YtdpakekdbkpdfaaGreatDoorPcondfi9b
import Derived.OrdersHeld
import Derived.Deep.RegionHeld3
import Derived.Laws.IdiomCopy
import Derived.ChangeKeysEq
import Derived.LoopN
import Derived.Deep.AppendLies
import Derived.Test.YtdpakekdbkpdfaaGreatDoorNatN
import Derived.Test.YtdpakekdbkpdfaaGreatDoorPcondfi9a
import Derived.Test.YtdpakekdbkpdfaaGreatDoorNatK
import Derived.Test.YtdpakekdbkpdfaaGreatDoorShelf
import Derived.Test.YtdpakekdbkpdfaaGreatDoorBitLen
import Derived.Test.YtdpakekdbkpdfaaGreatDoorNatY
import Derived.Test.YtdpakekdbkpdfaaGreatDoorTxtD
import Derived.Test.YtdpakekdbkpdfaaGreatDoorNatH
import Derived.Test.YtdpakekdbkpdfaaGreatDoorBits
import Derived.Test.YtdpakekdbkpdfaaGreatDoorNatA
import Derived.Test.YtdpakekdbkpdfaaGreatDoorArgs
import Derived.WalkKit
import Derived.ProofKit
import Derived.OpenShut
import Derived.ChangeOld
import Derived.Lib.SmallJoins
import Derived.Deep.Strs
namespace Go.Proofs.YtdpakekdbkpdfaaGreatDoor
open Go.RowKit
set_option linter.unusedVariables false
set_option linter.unusedSimpArgs false
theorem cn {α : Type} {l m : List α} {a : α} (h : l.Sublist m) : l.Sublist (a :: m) := .cons _ h
theorem cc {α : Type} {l m : List α} {a : α} (h : l.Sublist m) : (a :: l).Sublist (a :: m) := .cons_cons _ h

/-! ### Slots -/
def jt : List (Nat × Value) → Nat → Option Value
  | [], _ => none
  | (k, v) :: t, n => cond (Nat.beq k n) (some v) (jt t n)
/-- What an operand is. -/
def ev (l : List (Nat × Value)) : Operand → Option Value
  | .tmp k => jt l k
  | .const v => some v
  | .global g => some (.pointer (some ⟨g, 0, none⟩))
  | .func f => some (.func (.func f) #[] #[])
def evs (l : List (Nat × Value)) : List Operand → Option (List Value)
  | [] => some []
  | x :: xs => match ev l x, evs l xs with | some v, some vs => some (v :: vs) | _, _ => none
def evp (l : List (Nat × Value)) : List (Nat × Operand) → Option (List (Nat × Value))
  | [] => some []
  | (i, x) :: xs => match ev l x, evp l xs with | some v, some vs => some ((i, v) :: vs) | _, _ => none
/-- The frame has n slots, and those that the list names hold what it says; no call waits for the end. -/
structure Sl (a : Act) (n : Nat) (l : List (Nat × Value)) : Prop where
  size : a.tmps.size = n
  holds : ∀ k v, jt l k = some v → a.tmps[k]? = some v
  none_ : a.defers = []
section
variable {a : Act} {n : Nat} {l : List (Nat × Value)}
theorem Sl.ev (h : Sl a n l) {x : Operand} {v : Value} (hx : ev l x = some v) : a.eval x = v := by
  cases x with
  | tmp k =>
    have := h.holds k v hx
    simp [Act.eval, Array.getD_eq_getD_getElem?, this]
  | const u => simpa [YtdpakekdbkpdfaaGreatDoor.ev, Act.eval] using hx
  | global g => simpa [YtdpakekdbkpdfaaGreatDoor.ev, Act.eval] using hx
  | func f => simpa [YtdpakekdbkpdfaaGreatDoor.ev, Act.eval] using hx
theorem Sl.evs (h : Sl a n l) : ∀ {xs : List Operand} {vs : List Value}, evs l xs = some vs → xs.map a.eval = vs := by
  intro xs
  induction xs with
  | nil => intro vs hx; simp [YtdpakekdbkpdfaaGreatDoor.evs] at hx; simp [hx]
  | cons x xs ih =>
    intro vs hx
    unfold YtdpakekdbkpdfaaGreatDoor.evs at hx
    split at hx
    · rename_i v us h1 h2
      cases hx
      simp [h.ev h1, ih h2]
    · cases hx
theorem Sl.evp (h : Sl a n l) : ∀ {xs : List (Nat × Operand)} {vs : List (Nat × Value)}, evp l xs = some vs → xs.map (fun p => (p.1, a.eval p.2)) = vs := by
  intro xs
  induction xs with
  | nil => intro vs hx; simp [YtdpakekdbkpdfaaGreatDoor.evp] at hx; simp [hx]
  | cons x xs ih =>
    intro vs hx
    obtain ⟨i, x⟩ := x
    unfold YtdpakekdbkpdfaaGreatDoor.evp at hx
    split at hx
    · rename_i v us h1 h2
      cases hx
      simp [h.ev h1, ih h2]
    · cases hx
theorem Sl.put (h : Sl a n l) {d : Nat} (hd : Nat.blt d n = true) (v : Value) : Sl (a.put (some d) v) n ((d, v) :: l) := by
  refine ⟨by simp [Act.put, h.size], fun k u hk => ?_, by simp [Act.put, h.none_]⟩
  have hd' : d < a.tmps.size := by rw [h.size]; exact Nat.le_of_ble_eq_true hd
  unfold jt at hk
  cases hb : Nat.beq d k with
  | true =>
    rw [hb] at hk
    have : d = k := Nat.eq_of_beq_eq_true hb
    subst this
    simp only [cond_true, Option.some.injEq] at hk
    subst hk
    simp [Act.put, Array.getElem?_setIfInBounds, hd']
  | false =>
    rw [hb] at hk
    have hne : d ≠ k := fun e => by rw [e, Nat.beq_refl] at hb; cases hb
    simp only [cond_false] at hk
    simp [Act.put, Array.getElem?_setIfInBounds, hne, h.holds k u hk]
theorem Sl.enter {args : List Value} {m : Nat} (hl : args.length ≤ m) : Sl { tmps := args.toArray ++ Array.replicate (m - args.toArray.size) undef, defers := [] } m (args.zipIdx.map fun p => (p.2, p.1)) := by
  refine ⟨by simp; omega, fun k v hk => ?_, rfl⟩
  have key : ∀ (xs : List Value) (o : Nat), jt ((xs.zipIdx o).map fun p => (p.2, p.1)) k = some v → o ≤ k ∧ xs[k - o]? = some v := by
    intro xs
    induction xs with
    | nil => intro o h; simp [jt] at h
    | cons x xs ih =>
      intro o h
      simp only [List.zipIdx_cons, List.map_cons, jt] at h
      cases hb : Nat.beq o k with
      | true =>
        rw [hb] at h
        have : o = k := Nat.eq_of_beq_eq_true hb
        subst this
        simp only [cond_true, Option.some.injEq] at h
        simp [h]
      | false =>
        rw [hb] at h
        have hne : o ≠ k := fun e => by rw [e, Nat.beq_refl] at hb; cases hb
        simp only [cond_false] at h
        obtain ⟨h1, h2⟩ := ih _ h
        refine ⟨by omega, ?_⟩
        have : k - o = (k - (o + 1)) + 1 := by omega
        rw [this, List.getElem?_cons_succ]
        exact h2
  have h := (key args 0 hk).2
  simp only [Nat.sub_zero] at h
  have hlt : k < args.length := (List.getElem?_eq_some_iff.1 h).1
  rw [Array.getElem?_append_left (by simpa using hlt)]
  simpa using h
def AllIn (l : List (Nat × Value)) : List (Nat × Value) → Prop
  | [] => True
  | p :: t => jt l p.1 = some p.2 ∧ AllIn l t
theorem Sl.keep (h : Sl a n l) (l' : List (Nat × Value)) (hs : AllIn l l') : Sl a n l' := by
  refine ⟨h.size, ?_, h.none_⟩
  induction l' with
  | nil => intro k v hk; simp [jt] at hk
  | cons p t ih =>
    intro k v hk
    obtain ⟨d, u⟩ := p
    unfold jt at hk
    cases hb : Nat.beq d k with
    | true =>
      rw [hb] at hk
      have : d = k := Nat.eq_of_beq_eq_true hb
      subst this
      simp only [cond_true, Option.some.injEq] at hk
      subst hk
      exact h.holds _ _ hs.1
    | false =>
      rw [hb] at hk
      exact ih hs.2 k v hk
end

/-! ### What an operation does -/
/-- With these slots, in this world, the operation yields v and leaves w'. -/
def Does (P : Program) (l : List (Nat × Value)) (o : Oper) (w : World) (v : Value) (w' : World) : Prop :=
  ∀ ρ : Operand → Value, (∀ x u, ev l x = some u → ρ x = u) → (execOp ρ o).run P w = .ok (.value v) w'
/-- .. yields nothing (a store). -/
def Sets (P : Program) (l : List (Nat × Value)) (o : Oper) (w : World) (w' : World) : Prop :=
  ∀ ρ : Operand → Value, (∀ x u, ev l x = some u → ρ x = u) → (execOp ρ o).run P w = .ok .skip w'
/-- .. calls a function. -/
def Enters (P : Program) (l : List (Nat × Value)) (o : Oper) (w : World) (f : FuncId) (vs : List Value) : Prop :=
  ∀ ρ : Operand → Value, (∀ x u, ev l x = some u → ρ x = u) → (execOp ρ o).run P w = .ok (.enter f vs.toArray) w
/-- Its guard, if it has one, says yes. -/
def zi (l : List (Nat × Value)) (ops : List Oper) (o : Oper) : Bool :=
  match o.guard with
  | none => true
  | some (j, b) => match ops[j]? with
    | some oj => match oj.dst with
      | some d => match jt l d with
        | some (.bool b') => b' == b
        | _ => false
      | none => false
    | none => false
/-- Its guard says no. -/
def vn (l : List (Nat × Value)) (ops : List Oper) (o : Oper) : Bool :=
  match o.guard with
  | none => false
  | some (j, b) => match ops[j]? with
    | some oj => match oj.dst with
      | some d => match jt l d with
        | some (.bool b') => b' != b
        | _ => false
      | none => false
    | none => false
section
variable {P : Program} {ops : List Oper} {Q : Exit → Act → World → Prop} {a : Act} {w w' : World} {n : Nat} {l : List (Nat × Value)} {o : Oper} {v : Value} {rest : List Oper}
theorem Sl.wanted (h : Sl a n l) (hp : zi l ops o = true) : Region.wanted o (yielded ops.toArray a.tmps) = true := by
  unfold Region.wanted
  unfold zi at hp
  split at hp
  · rename_i hg; rw [hg]
  · rename_i j b hg
    rw [hg]
    split at hp
    · rename_i oj hj
      split at hp
      · rename_i d hd
        split at hp
        · rename_i b' hb
          have := h.holds d _ hb
          simp only [beq_iff_eq] at hp
          simp [yielded, hj, hd, this, hp]
        · cases hp
      · cases hp
    · cases hp
theorem Sl.unwanted (h : Sl a n l) (hp : vn l ops o = true) : Region.wanted o (yielded ops.toArray a.tmps) = false := by
  unfold Region.wanted
  unfold vn at hp
  split at hp
  · cases hp
  · rename_i j b hg
    rw [hg]
    split at hp
    · rename_i oj hj
      split at hp
      · rename_i d hd
        split at hp
        · rename_i b' hb
          have := h.holds d _ hb
          simp only [bne_iff_ne, ne_eq] at hp
          simp [yielded, hj, hd, this, hp]
        · cases hp
      · cases hp
    · cases hp
/-- One step of a region that goes in its text's order. -/
theorem jd (hA : Sl a n l) (hg : zi l ops o = true) {d : Nat} (hdst : o.dst = some d) (hd : Nat.blt d n = true) (he : Does P l o w v w')
    (hk : ∀ a', Sl a' n ((d, v) :: l) → wpList P ops.toArray Q rest a' w') : wpList P ops.toArray Q (o :: rest) a w := by
  unfold wpList
  rw [if_pos (hA.wanted hg)]
  refine .inl ?_
  unfold Oper.wp
  rw [he a.eval (fun x u hx => hA.ev hx), Oper.upon_value, hdst]
  exact hk _ (hA.put hd v)
theorem qbj (hA : Sl a n l) (hg : zi l ops o = true) (hdst : o.dst = none) (he : Sets P l o w w')
    (hk : wpList P ops.toArray Q rest a w') : wpList P ops.toArray Q (o :: rest) a w := by
  unfold wpList
  rw [if_pos (hA.wanted hg)]
  refine .inl ?_
  unfold Oper.wp
  rw [he a.eval (fun x u hx => hA.ev hx), Oper.upon_skip, hdst]
  exact hk
theorem qt (hA : Sl a n l) (hg : vn l ops o = true) {d : Nat} (hdst : o.dst = some d) (hd : Nat.blt d n = true)
    (hk : ∀ a', Sl a' n ((d, undef) :: l) → wpList P ops.toArray Q rest a' w) : wpList P ops.toArray Q (o :: rest) a w := by
  unfold wpList
  rw [hA.unwanted hg, if_neg (by simp), hdst]
  exact hk _ (hA.put hd undef)
theorem xg (hA : Sl a n l) (hg : zi l ops o = true) {d : Nat} (hdst : o.dst = some d) (hd : Nat.blt d n = true) {f : FuncId} {vs : List Value} (he : Enters P l o w f vs)
    {R : Ending → World → Prop} (hc : Calls P f vs.toArray w R)
    (hk : ∀ e w', R e w' → ∃ v, e = .returned v ∧ ∀ a', Sl a' n ((d, v) :: l) → wpList P ops.toArray Q rest a' w') : wpList P ops.toArray Q (o :: rest) a w := by
  unfold wpList
  rw [if_pos (hA.wanted hg)]
  refine .inl ?_
  unfold Oper.wp
  rw [he a.eval (fun x u hx => hA.ev hx), Oper.upon_enter]
  refine hc.mono ?_
  intro e w' hR
  obtain ⟨v, rfl, h⟩ := hk e w' hR
  simp only [hdst]
  exact h _ (hA.put hd v)
theorem qa (hk : Q .normal a w) : wpList P ops.toArray Q [] a w := hk
/-! .. and of a region that draws its order: S is what every world on the way meets. -/
variable {S : World → Prop} {md : Region.Mode} {fuel : Nat} {listed : Array Bool}
theorem qcf (hA : Sl a n l) (i : Nat) (hi : ops[i]? = some o) (hg : zi l ops o = true) {d : Nat} (hdst : o.dst = some d) (hd : Nat.blt d n = true) (hs : Region.noSelect ops.toArray = true) (hf : Region.free md ops.toArray listed i = true)
    (hr : (Region.ready md ops.toArray listed).contains i = true) (hQ : ∀ c a w, Q (.panic c) (a.put o.dst v) w → Q (.panic c) a w) (hS : S w) (he : ∀ w, S w → Does P l o w v w)
    (hk : ∀ a', Sl a' n ((d, v) :: l) → wpAnyH P md ops.toArray Q S fuel (listed.setIfInBounds i true) a' w) : wpAnyH P md ops.toArray Q S (fuel + 1) listed a w := by
  refine wpAnyH_take (i := i) (oi := o) (v := v) (by simpa using hi) hs hf hr hQ (Or.inl ⟨hA.wanted hg, fun w hw => he w hw a.eval (fun x u hx => hA.ev hx)⟩) hS ?_
  rw [hdst]
  exact hk _ (hA.put hd v)
theorem qm (hA : Sl a n l) (i : Nat) (hi : ops[i]? = some o) (hg : zi l ops o = true) {d : Nat} (hdst : o.dst = some d) (hd : Nat.blt d n = true) (hP : ∀ c a d v w, Q (.panic c) (Act.put a d v) w → Q (.panic c) a w) (hS : S w) (he : ∀ w, S w → Does P l o w v w)
    (hk : ∀ a', Sl a' n ((d, v) :: l) → wpAnyH P md ops.toArray Q S fuel (listed.setIfInBounds i true) a' w) (hs : Region.noSelect ops.toArray = true := by kernel_rfl) (hf : Region.free md ops.toArray listed i = true := by kernel_rfl) (hr : (Region.ready md ops.toArray listed).contains i = true := by kernel_rfl) : wpAnyH P md ops.toArray Q S (fuel + 1) listed a w :=
  qcf hA i hi hg hdst hd hs hf hr (fun c a w h => hP c a _ _ w h) hS he hk
theorem op_set (hA : Sl a n l) (i : Nat) (hi : ops[i]? = some o) (hg : zi l ops o = true) (hdst : o.dst = none) (he : Sets P l o w w') (hS : S w')
    (hk : wpAnyH P md ops.toArray Q S fuel (listed.setIfInBounds i true) a w') : wpOp P ops.toArray Q i (fun a' w' => S w' ∧ wpAnyH P md ops.toArray Q S fuel (listed.setIfInBounds i true) a' w') a w := by
  unfold wpOp
  simp only [List.getElem?_toArray, hi]
  rw [if_pos (hA.wanted hg)]
  refine .inl ?_
  unfold Oper.wp
  rw [he a.eval (fun x u hx => hA.ev hx), Oper.upon_skip, hdst]
  exact ⟨hS, hk⟩
theorem jj (hA : Sl a n l) (i : Nat) (hi : ops[i]? = some o) (hg : zi l ops o = true) {d : Nat} (hdst : o.dst = some d) (hd : Nat.blt d n = true)
    {f : FuncId} {vs : List Value} (he : Enters P l o w f vs) {R : Ending → World → Prop} (hc : Calls P f vs.toArray w R)
    (hk : ∀ e w', R e w' → ∃ v, e = .returned v ∧ S w' ∧ ∀ a', Sl a' n ((d, v) :: l) → wpAnyH P md ops.toArray Q S fuel (listed.setIfInBounds i true) a' w') : wpOp P ops.toArray Q i (fun a' w' => S w' ∧ wpAnyH P md ops.toArray Q S fuel (listed.setIfInBounds i true) a' w') a w := by
  unfold wpOp
  simp only [List.getElem?_toArray, hi]
  rw [if_pos (hA.wanted hg)]
  refine .inl ?_
  unfold Oper.wp
  rw [he a.eval (fun x u hx => hA.ev hx), Oper.upon_enter]
  refine hc.mono ?_
  intro e w' hR
  obtain ⟨v, rfl, h1, h2⟩ := hk e w' hR
  simp only [hdst]
  exact ⟨h1, h2 _ (hA.put hd v)⟩
/-- Nothing else may come up. -/
theorem zy {i : Nat} (hr : Region.ready md ops.toArray listed = [i]) (h : wpOp P ops.toArray Q i (fun a' w' => S w' ∧ wpAnyH P md ops.toArray Q S fuel (listed.setIfInBounds i true) a' w') a w) : wpAnyH P md ops.toArray Q S (fuel + 1) listed a w :=
  wpAnyH_all hr (by simp) (fun j hj => by rw [List.mem_singleton] at hj; subst hj; exact h)
theorem jo (hr : Region.ready md ops.toArray listed = []) (hk : Q .normal a w) : wpAnyH P md ops.toArray Q S fuel listed a w := wpAnyH_done hr hk fuel
end
def qia : Value → Bool
  | .int .u32 _ => false
  | _ => true
theorem qge {v : Value} (h : qia v = true) : ∀ n, v ≠ .int .u32 n := by
  intro n e
  subst e
  cases h
/-- Their blocks are others, where they have any. -/
def Apart (x y : Option Addr) : Prop := ∀ a b, x = some a → y = some b → a.block ≠ b.block
def Off (x : Option Addr) (g : Nat) : Prop := ∀ a, x = some a → a.block ≠ g
/-- Memory: as it was at w0, but for new blocks: those of L hold these cells; R: what is read as rows of words; O: rows of words of the call's own, written in place. -/
structure St (w0 w : World) (L : List (Nat × List Value)) (R : List (Option Addr × List Nat)) (O : List (Option Addr × Nat × List Nat)) : Prop where
  bel : Below w0.heap.size w0 w
  own : ∀ p ∈ L, w0.heap.size ≤ p.1 ∧ Blk w p.1 p.2
  dis : L.Pairwise (fun p q => p.1 ≠ q.1)
  rds : ∀ r ∈ R, Rd w r.1 r.2
  rows : ∀ o ∈ O, Own w0.heap.size w o.1 o.2.1 o.2.2
  sepO : O.Pairwise (fun p q => Apart p.1 q.1)
  sepL : ∀ o ∈ O, ∀ p ∈ L, Off o.1 p.1
  sepR : ∀ o ∈ O, ∀ r ∈ R, r.2 ≠ [] → Apart o.1 r.1
section
variable {w0 w w' : World} {L : List (Nat × List Value)} {R : List (Option Addr × List Nat)} {O : List (Option Addr × Nat × List Nat)}
theorem St.start (w : World) : St w w [] [] [] := ⟨Below.refl _ _, by simp, .nil, by simp, by simp, .nil, by simp, by simp⟩
theorem St.addR (h : St w0 w L R []) {so : Option Addr} {l : List Nat} (hr : Rd w so l) : St w0 w L ((so, l) :: R) [] :=
  ⟨h.bel, h.own, h.dis, fun r hm => by rcases List.mem_cons.1 hm with rfl | hm; exact hr; exact h.rds r hm, by simp, .nil, by simp, by simp⟩
theorem St.rd (h : St w0 w L R O) (k : Nat) {so : Option Addr} {l : List Nat} (hk : R[k]? = some (so, l)) : Rd w so l := h.rds _ (List.mem_of_getElem? hk)
theorem St.row (h : St w0 w L R O) (k : Nat) {so : Option Addr} {c : Nat} {l : List Nat} (hk : O[k]? = some (so, c, l)) : Own w0.heap.size w so c l := h.rows _ (List.mem_of_getElem? hk)
theorem St.call (h : St w0 w L R O) (hb : Below w.heap.size w w') : St w0 w' L R O :=
  ⟨chain2 h.bel hb, fun p hp => ⟨(h.own p hp).1, (h.own p hp).2.below hb⟩, h.dis, fun r hr => (h.rds r hr).below hb, fun o ho => (h.rows o ho).below hb, h.sepO, h.sepL, h.sepR⟩
theorem St.drew (h : St w0 w L R O) : St w0 w.drew L R O := ⟨h.bel.drew, fun p hp => ⟨(h.own p hp).1, (h.own p hp).2.drew⟩, h.dis, fun r hr => (h.rds r hr).drew, fun o ho => (h.rows o ho).drew, h.sepO, h.sepL, h.sepR⟩
theorem St.lt (h : St w0 w L R O) : ∀ p ∈ L, p.1 < w.heap.size := fun p hp => (h.own p hp).2.lt
theorem St.new (h : St w0 w L R O) (vs : List Value) (t : TypeId) (hno : vs.all qia = true) : St w0 (w.alloc (.cells vs.toArray t)) ((w.heap.size, vs) :: L) R O := by
  have hb : Below w.heap.size w (w.alloc (.cells vs.toArray t)) := (Below.refl _ _).alloc (Nat.le_refl _) _
  have h' := h.call hb
  refine ⟨h'.bel, fun p hp => ?_, List.pairwise_cons.2 ⟨fun q hq => Nat.ne_of_gt (h.lt q hq), h.dis⟩, h'.rds, h'.rows, h.sepO, fun o ho p hp => ?_, h.sepR⟩
  · rcases List.mem_cons.1 hp with rfl | hp
    · exact ⟨h.bel.size, Blk.new w vs t (fun v hv => qge (List.all_eq_true.1 hno v hv))⟩
    · exact h'.own p hp
  · rcases List.mem_cons.1 hp with rfl | hp
    · exact fun a ha => Nat.ne_of_lt ((h.rows o ho).lt a ha).2
    · exact h.sepL o ho p hp
theorem St.blk (h : St w0 w L R O) (k : Nat) {g : Nat} {vs : List Value} (hk : L[k]? = some (g, vs)) : Blk w g vs := (h.own _ (List.mem_of_getElem? hk)).2
theorem St.subL (h : St w0 w L R O) (L' : List (Nat × List Value)) (hs : L'.Sublist L) : St w0 w L' R O := ⟨h.bel, fun p hp => h.own p (hs.subset hp), h.dis.sublist hs, h.rds, h.rows, h.sepO, fun o ho p hp => h.sepL o ho p (hs.subset hp), h.sepR⟩
theorem St.subO (h : St w0 w L R O) (O' : List (Option Addr × Nat × List Nat)) (hs : O'.Sublist O) : St w0 w L R O' := ⟨h.bel, h.own, h.dis, h.rds, fun o ho => h.rows o (hs.subset ho), h.sepO.sublist hs, fun o ho => h.sepL o (hs.subset ho), fun o ho => h.sepR o (hs.subset ho)⟩
def AllR (R : List (Option Addr × List Nat)) : List (Option Addr × List Nat) → Prop
  | [] => True
  | r :: t => (∃ k : Nat, R[k]? = some r) ∧ AllR R t
theorem AllR.mem : ∀ {R' : List (Option Addr × List Nat)}, AllR R R' → ∀ r ∈ R', r ∈ R
  | r :: t, hs, x, hx => by
    rcases List.mem_cons.1 hx with rfl | hx
    · obtain ⟨⟨k, hk⟩, _⟩ := hs
      exact List.mem_of_getElem? hk
    · exact AllR.mem hs.2 x hx
theorem St.pickR (h : St w0 w L R O) (R' : List (Option Addr × List Nat)) (hs : AllR R R') : St w0 w L R' O :=
  ⟨h.bel, h.own, h.dis, fun r hr => h.rds r (hs.mem r hr), h.rows, h.sepO, h.sepL, fun o ho r hr => h.sepR o ho r (hs.mem r hr)⟩
theorem St.part {L' : List (Nat × List Value)} {R' : List (Option Addr × List Nat)} {O' : List (Option Addr × Nat × List Nat)} (h : St w0 w L R O) (hL : L'.Sublist L) (hR : AllR R R') (hO : O'.Sublist O) : St w0 w L' R' O' := ((h.pickR R' hR).subL L' hL).subO O' hO
theorem St.cell (h : St w0 w L R O) (k : Nat) {g : Nat} {vs : List Value} (hk : L[k]? = some (g, vs)) (i : Nat) {v : Value} (hi : vs[i]? = some v) : w.cell? ⟨g, i, none⟩ = some v :=
  (h.own _ (List.mem_of_getElem? hk)).2.cell i v hi
theorem qib {L : List (Nat × List Value)} (h : L.Pairwise (fun p q => p.1 ≠ q.1)) {k g : Nat} {vs us : List Value} (hk : L[k]? = some (g, vs)) : (L.set k (g, us)).Pairwise (fun p q => p.1 ≠ q.1) := by
  have e : (L.set k (g, us)).map Prod.fst = L.map Prod.fst := by
    rw [List.map_set]
    apply List.ext_getElem?
    intro i
    by_cases hi : k = i
    · subst hi
      have hlt : k < (L.map Prod.fst).length := by simpa using (List.getElem?_eq_some_iff.1 hk).1
      rw [List.getElem?_set_self hlt]
      simp [hk]
    · rw [List.getElem?_set_ne hi]
  have h1 : (L.map Prod.fst).Pairwise (· ≠ ·) := List.pairwise_map.2 h
  rw [← e] at h1
  exact List.pairwise_map.1 h1
theorem qkf {L : List (Nat × List Value)} (h : L.Pairwise (fun p q => p.1 ≠ q.1)) {k g : Nat} {vs us : List Value} (hk : L[k]? = some (g, vs)) {p : Nat × List Value} (hp : p ∈ L.set k (g, us)) : p = (g, us) ∨ (p ∈ L ∧ g ≠ p.1) := by
  obtain ⟨i, hi⟩ := List.mem_iff_getElem?.1 hp
  by_cases e : k = i
  · subst e
    have hlt : k < L.length := (List.getElem?_eq_some_iff.1 hk).1
    rw [List.getElem?_set_self hlt] at hi
    exact .inl (Option.some.inj hi).symm
  · rw [List.getElem?_set_ne e] at hi
    refine .inr ⟨List.mem_of_getElem? hi, ?_⟩
    have h1 := List.pairwise_iff_getElem.1 h
    obtain ⟨hk1, hk2⟩ := List.getElem?_eq_some_iff.1 hk
    obtain ⟨hi1, hi2⟩ := List.getElem?_eq_some_iff.1 hi
    rcases Nat.lt_or_gt_of_ne e with hlt | hlt
    · have := h1 k i hk1 hi1 hlt
      rw [hk2, hi2] at this
      exact this
    · have := h1 i k hi1 hk1 hlt
      rw [hk2, hi2] at this
      exact fun e => this e.symm
theorem grown_set (w : World) (g i : Nat) (v : Value) : w.grownBy (w.setCell ⟨g, i, none⟩ v) (some g) :=
  ⟨rfl, rfl, rfl, by simp, fun k hk hne => Below.heap_setCell w ⟨g, i, none⟩ v k (fun e => hne (by rw [e]))⟩
theorem St.set (h : St w0 w L R O) (k : Nat) {g : Nat} {vs : List Value} (hk : L[k]? = some (g, vs)) (i : Nat) (hi : i < vs.length) (v : Value) (hv : qia v = true) : St w0 (w.setCell ⟨g, i, none⟩ v) (L.set k (g, vs.set i v)) R O := by
  have hm := List.mem_of_getElem? hk
  have ho := h.own _ hm
  refine ⟨h.bel.setCell (p := ⟨g, i, none⟩) ho.1 v, fun p hp => ?_, qib h.dis hk, fun r hr => ho.2.rd (h.rds r hr) i v hi, fun o hO => (h.rows o hO).kept (grown_set w g i v) (fun a ha e => h.sepL o hO _ hm a ha (by simpa using e)), h.sepO, fun o hO p hp => ?_, h.sepR⟩
  · rcases qkf h.dis hk hp with rfl | ⟨hp, hne⟩
    · exact ⟨ho.1, ho.2.set i v hi (qge hv)⟩
    · exact ⟨(h.own p hp).1, (h.own p hp).2.far hne i v⟩
  · rcases qkf h.dis hk hp with rfl | ⟨hp, hne⟩
    · exact (show Off o.1 g from h.sepL o hO _ hm)
    · exact h.sepL o hO p hp
def over : List Value → Nat → List Value → List Value
  | vs, _, [] => vs
  | vs, o, c :: cs => over (vs.set o c) (o + 1) cs
/-! Rows of the call's own. -/
theorem Blk.grown {g : Nat} {vs : List Value} (h : Blk w g vs) {row : Option Nat} (hg : w.grownBy w' row) (hne : some g ≠ row) : Blk w' g vs := by
  have e := hg.block g h.lt hne
  exact ⟨Nat.lt_of_lt_of_le h.lt hg.size, fun i v hv => (World.cell?_of_block (w := w) (a := ⟨g, i, none⟩) e).trans (h.cell i v hv), fun i => (World.frozen?_of_block (w := w) (a := ⟨g, i, none⟩) e).trans (h.froz i), h.no⟩
theorem qic {k : Nat} {o u p : Option Addr × Nat × List Nat} (h : O.Pairwise (fun p q => Apart p.1 q.1)) (hk : O[k]? = some o) (hp : p ∈ O.set k u) : p = u ∨ (p ∈ O ∧ Apart o.1 p.1) := by
  obtain ⟨i, hi⟩ := List.mem_iff_getElem?.1 hp
  by_cases e : k = i
  · subst e
    rw [List.getElem?_set_self (List.getElem?_eq_some_iff.1 hk).1] at hi
    exact .inl (Option.some.inj hi).symm
  · rw [List.getElem?_set_ne e] at hi
    refine .inr ⟨List.mem_of_getElem? hi, ?_⟩
    have h1 := List.pairwise_iff_getElem.1 h
    obtain ⟨hk1, hk2⟩ := List.getElem?_eq_some_iff.1 hk
    obtain ⟨hi1, hi2⟩ := List.getElem?_eq_some_iff.1 hi
    rcases Nat.lt_or_gt_of_ne e with hlt | hlt
    · have := h1 k i hk1 hi1 hlt
      rw [hk2, hi2] at this
      exact this
    · have := h1 i k hi1 hk1 hlt
      rw [hk2, hi2] at this
      exact fun a b ha hb e => this b a hb ha e.symm
/-- One row is changed, or lies anew in a block that is made now; all else vn. -/
theorem St.turn (h : St w0 w L R O) (k : Nat) {ao : Option Addr} {c : Nat} {l : List Nat} (hk : O[k]? = some (ao, c, l)) {bo : Option Addr} {c' : Nat} {l' : List Nat} (hg : w.grownBy w' (Value.slice ao l.length c).ownBlock) (ho : Own w0.heap.size w' bo c' l') (hat : ∀ b, bo = some b → (∃ a, ao = some a ∧ a.block = b.block) ∨ b.block = w.heap.size) :
    St w0 w' L R (O.set k (bo, c', l')) := by
  have hm := List.mem_of_getElem? hk
  have hrow := h.rows _ hm
  have blk : ∀ a, ao = some a → (Value.slice ao l.length c).ownBlock = some a.block := fun a ha => by rw [ha]; rfl
  have far : ∀ g, Off ao g → some g ≠ (Value.slice ao l.length c).ownBlock := fun g hg e => by
    cases hao : ao with
    | none => rw [hao] at e; simp [Value.ownBlock] at e
    | some a => rw [blk a hao] at e; exact hg a hao (by simpa using e.symm)
  -- what lies off the old row and is there lies off the new one
  have off : ∀ g, Off ao g → g < w.heap.size → Off bo g := fun g hg hlt b hb e => by
    rcases hat b hb with ⟨a, ha, e1⟩ | e1
    · exact hg a ha (e1.trans e)
    · omega
  refine ⟨h.bel.grown hg h.bel.size (fun j hj => ?_), fun p hp => ⟨(h.own p hp).1, (h.own p hp).2.grown hg (far _ (h.sepL _ hm p hp))⟩, h.dis, fun r hr => ?_, fun o hO => ?_, ?_, fun o hO p hp => ?_, fun o hO r hr hne => ?_⟩
  · cases hao : ao with
    | none => rw [hao] at hj; simp [Value.ownBlock] at hj
    | some a => rw [blk a hao] at hj; cases hj; exact (hrow.lt a hao).1
  · by_cases hne : r.2 = []
    · rw [hne]; exact Rd.nil _ _
    · exact (h.rds r hr).grown hg (fun a ha => far _ (fun x hx e => h.sepR _ hm r hr hne x a hx ha e))
  · rcases qic h.sepO hk hO with rfl | ⟨hO, hap⟩
    · exact ho
    · exact (h.rows o hO).kept hg (fun a ha => far _ (fun x hx e => hap x a hx ha e))
  · have key : ∀ o ∈ O, Apart ao o.1 → Apart bo o.1 := fun o hO hap b x hb hx e => off x.block (fun y hy ey => hap y x hy hx ey) ((h.rows o hO).lt x hx).2 b hb e
    rw [List.pairwise_iff_getElem]
    intro i j hi hj hij
    have hi' : i < O.length := by simpa using hi
    have hj' : j < O.length := by simpa using hj
    have h1 := List.pairwise_iff_getElem.1 h.sepO
    obtain ⟨hk1, hk2⟩ := List.getElem?_eq_some_iff.1 hk
    rw [List.getElem_set, List.getElem_set]
    by_cases e1 : k = i
    · subst e1
      rw [if_pos rfl, if_neg (by omega)]
      have := h1 k j hi' hj' hij
      rw [hk2] at this
      exact key _ (List.getElem_mem hj') this
    · rw [if_neg e1]
      by_cases e2 : k = j
      · subst e2
        rw [if_pos rfl]
        have := h1 i k hi' hj' hij
        rw [hk2] at this
        exact fun x b hx hb e => key _ (List.getElem_mem hi') (fun p q hp hq e => this q p hq hp e.symm) b x hb hx e.symm
      · rw [if_neg e2]
        exact h1 i j hi' hj' hij
  · rcases qic h.sepO hk hO with rfl | ⟨hO, _⟩
    · exact off _ (h.sepL _ hm p hp) (h.lt p hp)
    · exact h.sepL o hO p hp
  · rcases qic h.sepO hk hO with rfl | ⟨hO, _⟩
    · intro b x hb hx e
      obtain ⟨bb, of_, e1, hlt, _⟩ := (h.rds r hr).pos hne
      rw [e1] at hx
      cases hx
      exact off bb (fun y hy ey => h.sepR _ hm r hr hne y ⟨bb, of_, none⟩ hy e1 ey) hlt b hb e
    · exact h.sepR o hO r hr hne
/-! ### The types -/
/-- A struct type of n cells. -/
structure IsS (P : Program) (t : TypeId) (n : Nat) : Prop where
  und : ∃ fs, P.underlying t = some (.struct fs)
  size : (P.info? t).map (·.size) = some n
theorem ju {P : Program} {t : TypeId} {n : Nat} (h : (P.info? t).map (·.size) = some n) : ∃ i, P.info? t = some i ∧ i.size = n := by
  cases hi : P.info? t with
  | none => rw [hi] at h; cases h
  | some i => rw [hi] at h; exact ⟨i, rfl, by simpa using h⟩
/-- A type of one cell. -/
structure Is1 (P : Program) (t : TypeId) : Prop where
  und : ∃ d, P.underlying t = some d ∧ (match d with | .struct _ | .array _ _ => false | _ => true) = true
  size : (P.info? t).map (·.size) = some 1
/-- Field f of a struct type lies at this cell. -/
def FieldAt (P : Program) (s : TypeId) (f off : Nat) : Prop := ∃ fs fld, P.underlying s = some (.struct fs) ∧ fs[f]? = some fld ∧ fld.offset = off ∧ (P.info? fld.type).map (fun i => Nat.beq i.size 0) = some false

variable {P : Program}
theorem jg (g o j : Nat) : (⟨g, o, none⟩ : Addr).add j = ⟨g, o + j, none⟩ := by unfold Addr.add; split <;> simp_all
theorem jv {t : TypeId} {n : Nat} (ht : IsS P t n) {g o : Nat} (cs : List Value) (hl : cs.length = n) (hc : ∀ j v, cs[j]? = some v → w.cell? ⟨g, o + j, none⟩ = some v) : (loadVar t ⟨g, o, none⟩).run P w = .ok (.agg cs.toArray) w := by
  obtain ⟨fs, hu⟩ := ht.und
  obtain ⟨i, hi, hn⟩ := ju ht.size
  have h1 : (isAgg t).run P w = .ok true w := by simp [isAgg, run_underlying hu]
  have h2 : (sizeOf t).run P w = .ok cs.length w := by simp [sizeOf, typeInfo, hi, hn, hl]
  have h3 := run_loadCells_list (P := P) w ⟨g, o, none⟩ cs (fun j v hj => by rw [jg]; exact hc j v hj)
  simp only [loadVar, Sem.run_bind, h1, Result.andThen_ok, if_true, h2, h3, Sem.run_pure]
theorem jw {t : TypeId} (ht : Is1 P t) {a : Addr} {v : Value} (hc : w.cell? a = some v) : (loadVar t a).run P w = .ok v w := by
  obtain ⟨d, hu, hd⟩ := ht.und
  have h1 : (isAgg t).run P w = .ok false w := by
    cases d <;> first | (simp at hd; done) | simp [isAgg, run_underlying hu]
  simp only [loadVar, Sem.run_bind, h1, Result.andThen_ok, if_false, Bool.false_eq_true]
  simp [hc]

variable {l : List (Nat × Value)} {dst : Option Tmp} {ty : TypeId} {pos : String} {after : Array Edge} {guard : Option (Nat × Bool)} {v : Value}
theorem zj {x : Operand} (hx : ev l x = some v) : Does P l ⟨dst, .move x, ty, pos, after, guard⟩ w v w := fun ρ h => by
  simp only [execOp, h x v hx]; rfl
theorem zq {x : Operand} (hx : ev l x = some v) : Does P l ⟨dst, .assign x, ty, pos, after, guard⟩ w v w := fun ρ h => by
  simp only [execOp, h x v hx]; rfl
theorem vp {c x y : Operand} {b : Bool} {u u' : Value} (hc : ev l c = some (.bool b)) (hx : ev l x = some u) (hy : ev l y = some u') (hv : v = cond b u u') : Does P l ⟨dst, .pick c x y, ty, pos, after, guard⟩ w v w := fun ρ h => by
  subst hv
  simp only [execOp, h c _ hc, h x _ hx, h y _ hy]
  cases b <;> rfl
theorem ql {x : Operand} {vs : List Value} {i : Nat} (hx : ev l x = some (.tuple vs.toArray)) (hi : vs[i]? = some v) : Does P l ⟨dst, .extract x i, ty, pos, after, guard⟩ w v w := fun ρ h => by
  simp only [execOp, h x _ hx, Instr.extract, List.getElem?_toArray, hi]; rfl
theorem jb {t : TypeId} {x : Operand} {a : Addr} (hx : ev l x = some (.pointer (some a))) (hr : (loadVar t a).run P w = .ok v w) : Does P l ⟨dst, .load t x, ty, pos, after, guard⟩ w v w := fun ρ h => by
  simp only [execOp, h x _ hx, Instr.loadAt, Instr.sureAddr, Sem.run_bind, Sem.run_pure, Result.andThen_ok, hr]
/-- A struct out of a block of the call's own. -/
theorem vw (hS : St w0 w L R O) {t : TypeId} {n : Nat} (ht : IsS P t n) {x : Operand} {g o : Nat} (hx : ev l x = some (.pointer (some ⟨g, o, none⟩))) (k : Nat) {vs cs : List Value} (hk : L[k]? = some (g, vs)) (hcs : (vs.drop o).take n = cs) (hl : cs.length = n) :
    Does P l ⟨dst, .load t x, ty, pos, after, guard⟩ w (.agg cs.toArray) w :=
  jb hx (jv ht cs hl (fun j v hj => hS.cell k hk (o + j) (by
    have hjn : j < n := by rw [← hl]; exact (List.getElem?_eq_some_iff.1 hj).1
    rw [← hcs, List.getElem?_take, if_pos hjn, List.getElem?_drop] at hj
    exact hj)))
theorem xm (hS : St w0 w L R O) {t : TypeId} (ht : Is1 P t) {x : Operand} {g o : Nat} (hx : ev l x = some (.pointer (some ⟨g, o, none⟩))) (k : Nat) {vs : List Value} (hk : L[k]? = some (g, vs)) (hv : vs[o]? = some v) :
    Does P l ⟨dst, .load t x, ty, pos, after, guard⟩ w v w := jb hx (jw ht (hS.cell k hk o hv))
theorem Rd.addr {so : Option Addr} {l : List Nat} {i : Nat} (h : Rd w so l) (hi : i < l.length) : ∃ b off, so = some ⟨b, off, none⟩ := by
  obtain ⟨b, off, h1, _⟩ := h.pos (fun e => by rw [e] at hi; simp at hi)
  exact ⟨b, off, h1⟩
theorem Rd.at_ {so : Option Addr} {l : List Nat} {i b off : Nat} (h : Rd w so l) (hso : so = some ⟨b, off, none⟩) (hi : i < l.length) : w.cell? ⟨b, off + i, none⟩ = some (.int .u32 ((l.getD i 0 : Nat) : Int)) := by
  obtain ⟨b', off', h1, _, h3⟩ := h.pos (fun e => by rw [e] at hi; simp at hi)
  rw [hso] at h1
  cases h1
  exact h3 i hi
theorem yu {so : Option Addr} {us : List Nat} {i b off : Nat} (h : Rd w so us) (hso : so = some ⟨b, off, none⟩) (hi : i < us.length) {t : TypeId} (ht : Is1 P t) {x : Operand} (hx : ev l x = some (.pointer (some ⟨b, off + i, none⟩))) :
    Does P l ⟨dst, .load t x, ty, pos, after, guard⟩ w (.int .u32 ((us.getD i 0 : Nat) : Int)) w := jb hx (jw ht (h.at_ hso hi))
theorem qb {s : TypeId} {x : Operand} {f g o off o' : Nat} (hf : FieldAt P s f off) (hx : ev l x = some (.pointer (some ⟨g, o, none⟩))) (ho : o + off = o') : Does P l ⟨dst, .fieldAddr s x f, ty, pos, after, guard⟩ w (.pointer (some ⟨g, o', none⟩)) w := fun ρ h => by
  obtain ⟨fs, fld, hu, hff, hoff, hm⟩ := hf
  obtain ⟨i, hi, hz⟩ : ∃ i, P.info? fld.type = some i ∧ i.size ≠ 0 := by
    cases hi : P.info? fld.type with
    | none => rw [hi] at hm; cases hm
    | some i =>
      rw [hi] at hm
      refine ⟨i, rfl, fun e => ?_⟩
      simp [e] at hm
  subst ho
  have h2 : (sizeOf fld.type).run P w = .ok i.size w := by simp [sizeOf, typeInfo, hi]
  simp only [execOp, h x _ hx, Instr.fieldAt, Sem.run_bind, run_underlying hu, Result.andThen_ok, hff, Instr.sureAddr, Sem.run_pure, fieldPlace, h2, if_neg hz, jg, hoff]
theorem zd {t : TypeId} {x : Operand} {u : Value} (hx : ev l x = some u) {vs : List Value} (hc : u.cells = vs.toArray) : Does P l ⟨dst, .box t x, ty, pos, after, guard⟩ w (.pointer (some ⟨w.heap.size, 0, none⟩)) (w.alloc (.cells vs.toArray t)) := fun ρ h => by
  simp only [execOp, h x _ hx, ← hc]; rfl
theorem qk {t : TypeId} {z : Value} (hz : (P.info? t).map (·.zero) = some (some z)) {vs : List Value} (hc : z.cells = vs.toArray) : Does P l ⟨dst, .alloc t, ty, pos, after, guard⟩ w (.pointer (some ⟨w.heap.size, 0, none⟩)) (w.alloc (.cells vs.toArray t)) := fun ρ h => by
  cases hi : P.info? t with
  | none => rw [hi] at hz; cases hz
  | some i =>
    rw [hi] at hz
    simp only [Option.map_some, Option.some.injEq] at hz
    have h1 : (zeroValue t).run P w = .ok z w := by simp [zeroValue, typeInfo, hi, hz]
    simp only [execOp, Instr.alloc, Sem.run_bind, h1, Result.andThen_ok, ← hc]
    rfl
theorem qn {t : TypeId} {parts : List (Nat × Operand)} {pv : List (Nat × Value)} (hp : evp l parts = some pv) (hb : ∀ w, (Instr.build t pv.toArray).run P w = .ok v w) : Does P l ⟨dst, .build t parts.toArray, ty, pos, after, guard⟩ w v w := fun ρ h => by
  have e : parts.toArray.map (fun p => (p.1, ρ p.2)) = pv.toArray := by
    simp only [List.map_toArray]
    congr 1
    have : ∀ (xs : List (Nat × Operand)) (vs : List (Nat × Value)), evp l xs = some vs → xs.map (fun p => (p.1, ρ p.2)) = vs := by
      intro xs
      induction xs with
      | nil => intro vs hx; simp [evp] at hx; simp [hx]
      | cons x xs ih =>
        intro vs hx
        obtain ⟨i, x⟩ := x
        unfold evp at hx
        split at hx
        · rename_i v us h1 h2
          cases hx
          simp [h _ _ h1, ih _ h2]
        · cases hx
    exact this parts pv hp
  have e' : (parts.toArray.map fun (i, x) => (i, ρ x)) = pv.toArray := e
  simp only [execOp, e', Sem.run_bind, hb w, Result.andThen_ok, Sem.run_pure]
theorem zv {t : TypeId} {n : Nat} {parts : List (Nat × Operand)} {pv : List (Nat × Value)} (hp : evp l parts = some pv) {w' : World} (hb : (Instr.buildSlice t n pv.toArray).run P w = .ok v w') : Does P l ⟨dst, .buildSlice t n parts.toArray, ty, pos, after, guard⟩ w v w' := fun ρ h => by
  have e : parts.toArray.map (fun p => (p.1, ρ p.2)) = pv.toArray := by
    simp only [List.map_toArray]
    congr 1
    have : ∀ (xs : List (Nat × Operand)) (vs : List (Nat × Value)), evp l xs = some vs → xs.map (fun p => (p.1, ρ p.2)) = vs := by
      intro xs
      induction xs with
      | nil => intro vs hx; simp [evp] at hx; simp [hx]
      | cons x xs ih =>
        intro vs hx
        obtain ⟨i, x⟩ := x
        unfold evp at hx
        split at hx
        · rename_i v us h1 h2
          cases hx
          simp [h _ _ h1, ih _ h2]
        · cases hx
    exact this parts pv hp
  have e' : (parts.toArray.map fun (i, x) => (i, ρ x)) = pv.toArray := e
  simp only [execOp, e', Sem.run_bind, hb, Result.andThen_ok, Sem.run_pure]
theorem ze {x : Operand} {t e : TypeId} {so : Option Addr} {n c : Nat} (hu : P.underlying t = some (.slice e)) (hx : ev l x = some (.slice so n c)) : Does P l ⟨dst, .call ⟨.builtin .len, #[x], #[t]⟩, ty, pos, after, guard⟩ w (.int .i64 n) w := fun ρ h => by
  have := h x _ hx
  simp [go_sem, this, Builtin.len_, run_underlying hu, goInt]
theorem qg {b : BinOp} {t t' : TypeId} {x y : Operand} {u u' : Value} (hx : ev l x = some u) (hy : ev l y = some u') (hr : ∀ w, (do eqGuard b t x y u u'; binOp b t u u' : Sem Value).run P w = .ok v w) : Does P l ⟨dst, .binOp b t x y t', ty, pos, after, guard⟩ w v w := fun ρ h => by
  simp only [execOp, h x _ hx, h y _ hy]
  rw [Sem.run_bind, hr w]
  rfl
theorem zb {b : UnOp} {t : TypeId} {x : Operand} {u : Value} (hx : ev l x = some u) (hr : ∀ w, (Op.unary b u).run P w = .ok v w) : Does P l ⟨dst, .unOp b t x, ty, pos, after, guard⟩ w v w := fun ρ h => by
  simp only [execOp, h x _ hx, Sem.run_bind, hr w, Result.andThen_ok, Sem.run_pure]
theorem zf {x : Operand} {f : FuncId} {args : List Operand} {ts : Array TypeId} {vs : List Value} (hx : ev l x = some (.func (.func f) #[] #[])) (ha : evs l args = some vs) (hf : ∀ w, (invoke (.fn (.func f) #[]) vs.toArray).run P w = .ok (.enter f vs.toArray) w) :
    Enters P l ⟨dst, .call ⟨.value x, args.toArray, ts⟩, ty, pos, after, guard⟩ w f vs := fun ρ h => by
  have e : args.map ρ = vs := by
    have : ∀ (xs : List Operand) (vs : List Value), evs l xs = some vs → xs.map ρ = vs := by
      intro xs
      induction xs with
      | nil => intro vs hx; simp [evs] at hx; simp [hx]
      | cons x xs ih =>
        intro vs hx
        unfold evs at hx
        split at hx
        · rename_i v us h1 h2
          cases hx
          simp [h _ _ h1, ih _ h2]
        · cases hx
    exact this args vs ha
  have := hf w
  simp [execOp, resolve, h x _ hx, Deferred.ofValue, e, this]

/-! ### Steps that make or change memory, the world behind them a letter -/
section
variable {ops : List Oper} {Q : Exit → Act → World → Prop} {a : Act} {n : Nat} {o : Oper} {rest : List Oper} {d : Nat}
theorem qca (hA : Sl a n l) (hS : St w0 w L R O) (hg : zi l ops o = true) (hdst : o.dst = some d) (hd : Nat.blt d n = true) {vs : List Value} {t : TypeId} (val : Nat → Value) (he : Does P l o w (val w.heap.size) (w.alloc (.cells vs.toArray t))) (hno : vs.all qia = true)
    (hk : ∀ g w', St w0 w' ((g, vs) :: L) R O → ∀ a', Sl a' n ((d, val g) :: l) → wpList P ops.toArray Q rest a' w') : wpList P ops.toArray Q (o :: rest) a w :=
  jd hA hg hdst hd he (hk _ _ (hS.new vs t hno))
variable {S : World → Prop} {md : Region.Mode} {fuel : Nat} {listed : Array Bool}
/-! Rows of the call's own: made, written, appended to. -/
/-- A region that draws its order. -/
theorem xh {id : Nat} (hm : P.follows .mixedOrders = true) (h : wpAnyH P .any ops.toArray Q S ops.length (Array.replicate ops.length false) a w.drew) : (Code.region id ops.toArray true).wp P Q a w :=
  wp_region_held (S := S) hm (by simpa using h)
end
/-! ### The end -/
def jx (P : Program) (l : List (Nat × Value)) (w : World) : ResultVar → Value → Prop
  | .tmp t, v => jt l t = some v
  | .cell c t, v => ∃ p, jt l c = some (.pointer (some p)) ∧ (loadVar t p).run P w = .ok v w
def AllRes (P : Program) (l : List (Nat × Value)) (w : World) : List ResultVar → List Value → Prop
  | [], [] => True
  | r :: rs, v :: vs => jx P l w r v ∧ AllRes P l w rs vs
  | _, _ => False
theorem AllRes.nil : AllRes P l w [] [] := trivial
theorem AllRes.cons {r : ResultVar} {v : Value} {rs : List ResultVar} {vs : List Value} (h : jx P l w r v) (t : AllRes P l w rs vs) : AllRes P l w (r :: rs) (v :: vs) := ⟨h, t⟩
section
variable {a : Act} {n : Nat} {fn : Func} {Z : Ending → World → Prop}
theorem qe {t : Tmp} (h : jt l t = some v) : jx P l w (.tmp t) v := h
def xb (tmps : Array Value) : ResultVar → Sem Value
  | .tmp t => pure (tmps.getD t undef)
  | .cell c t => do loadVar t (← asAddr (tmps.getD c undef))
def vx : List Value → Value
  | [x] => x
  | xs => .tuple xs.toArray
theorem Sl.res (hA : Sl a n l) {r : ResultVar} (h : jx P l w r v) : (xb a.tmps r).run P w = .ok v w := by
  cases r with
  | tmp t =>
    have := hA.holds t v h
    simp [xb, Array.getD_eq_getD_getElem?, this]
  | cell c t =>
    obtain ⟨p, hp, hr⟩ := h
    have := hA.holds c _ hp
    simp [xb, Array.getD_eq_getD_getElem?, this, asAddr, hr]
theorem xi (hA : Sl a n l) : ∀ (rs : List ResultVar) (vs : List Value), AllRes P l w rs vs → Sem.run P (rs.mapM (xb a.tmps)) w = .ok vs w
  | [], [], _ => by simp
  | [], _ :: _, h => h.elim
  | _ :: _, [], h => h.elim
  | r :: rs, v :: vs, h => by
    have e1 := hA.res h.1
    have e2 := xi hA rs vs h.2
    simp only [List.mapM_cons, Sem.run_bind, e1, Result.andThen_ok, e2, Sem.run_pure]
/-- The function's end: what it answers. -/
theorem kl (hA : Sl a n l) {rs : List ResultVar} (hrs : fn.results = rs.toArray) {vs : List Value} (hvs : AllRes P l w rs vs) (hv : vx vs = v) (hz : Z (.returned v) w) : bodyPost P fn Z .ret a w := by
  refine ⟨hA.none_, v, ?_, hz⟩
  have e := xi hA rs vs hvs
  subst hv
  have e' : results fn a.tmps = (do let us ← fn.results.mapM (xb a.tmps); pure (if h : us.size = 1 then us[0] else .tuple us)) := by
    unfold results
    congr 1
  have e2 : Sem.run P (List.toArray <$> rs.mapM (xb a.tmps)) w = .ok vs.toArray w := by
    show Sem.run P (rs.mapM (xb a.tmps) >>= fun us => pure us.toArray) w = _
    rw [Sem.run_bind, e]
    rfl
  rw [e', hrs, List.mapM_toArray, Sem.run_bind, e2, Result.andThen_ok]
  match vs with
  | [] => simp [vx]
  | [x] => simp [vx]
  | x :: y :: r => simp [vx]
end
/-- A call, by a walk of its body from what its slots hold at the start. -/
theorem qr {f : FuncId} {fn : Func} {c : Code} {args : List Value} {n : Nat} {Z : Ending → World → Prop} (hf : P.funcs[f]? = some fn) (hb : fn.body = some c) (hn : fn.ntmps = n) (hl : Nat.ble args.length n = true) (hs : (args.zipIdx.map fun p => (p.2, p.1)) = l)
    (h : ∀ Q : Exit → Act → World → Prop, (∀ a w, bodyPost P fn Z .ret a w → Q .ret a w) → (∀ a w, bodyPost P fn Z .ret a w → Q .normal a w) → (∀ c a d v w, Q (.panic c) (Act.put a d v) w → Q (.panic c) a w) → ∀ a, Sl a n l → c.wp P Q a w) : Calls P f args.toArray w Z := by
  subst hs
  refine calls_of_wp hf hb (h _ (fun _ _ h => h) (fun _ _ h => h) (fun c a d v w h => ?_) _ ?_)
  · cases d <;> exact h
  · rw [hn]
    exact Sl.enter (Nat.le_of_ble_eq_true hl)
/-! ### Loops -/
section
variable {Q : Exit → Act → World → Prop} {a : Act} {c : Code}
theorem qkg {m : Nat} (h : ∀ K : Act → World → Prop, (∀ a w, Code.rounds P c Q m a w → K a w) → c.wp P (Exit.then K Q) a w) : Code.rounds P c Q (m + 1) a w := h _ (fun _ _ h => h)
theorem xu : ∀ n m, n ≤ m → ∀ a w, Code.rounds P c Q n a w → Code.rounds P c Q m a w
  | 0, _, _, _, _, h => h.elim
  | n + 1, 0, hl, _, _, _ => by omega
  | n + 1, m + 1, hl, a, w, h => Code.wp_mono (fun e a w q => by
      cases e <;> first | exact xu n m (by omega) _ _ q | exact q) h
/-- A loop, by a number that falls. -/
theorem ja (I : Nat → Act → World → Prop) (N : Nat) (h0 : I N a w) (round : ∀ m a w, I m a w → ∀ K : Act → World → Prop, (∀ m' a' w', m' < m → I m' a' w' → K a' w') → c.wp P (Exit.then K Q) a w) : (Code.loop c).wp P Q a w := by
  have key : ∀ m a w, I m a w → Code.rounds P c Q (m + 1) a w := by
    intro m
    induction m using Nat.strongRecOn with
    | _ m ih =>
      intro a w h
      exact round m a w h _ (fun m' a' w' hm h' => xu (m' + 1) m (by omega) _ _ (ih m' hm a' w' h'))
  exact wp_loop_rounds (N + 1) (key N a w h0)
end
theorem xd {t : TypeId} {x i : Operand} {u u' : Value} (hx : ev l x = some u) (hi : ev l i = some u') (hr : ∀ w, (Instr.indexAt t u u').run P w = .ok v w) : Does P l ⟨dst, .indexAddr t x i, ty, pos, after, guard⟩ w v w := fun ρ h => by
  simp only [execOp, h x _ hx, h i _ hi, Sem.run_bind, hr w, Result.andThen_ok, Sem.run_pure]
/-- The place of an element of a row of words. -/
theorem yf {t e : TypeId} (hu : P.underlying t = some (.slice e)) (he : (P.info? e).map (·.size) = some 1) {g o n c k : Nat} (hk : k < n) : ∀ w, (Instr.indexAt t (.slice (some ⟨g, o, none⟩) n c) (.int .i64 (k : Nat))).run P w = .ok (.pointer (some ⟨g, o + k, none⟩)) w := fun w => by
  obtain ⟨i, hi, hs⟩ := ju he
  have h2 : (sizeOf e).run P w = .ok 1 w := by simp [sizeOf, typeInfo, hi, hs]
  have h3 : (0 : Int) ≤ (k : Nat) ∧ ((k : Nat) : Int) < (n : Nat) := ⟨by omega, by omega⟩
  simp [Instr.indexAt, asIntOf, run_underlying hu, h2, h3, jg]
  intro h
  omega
theorem jl {t e : TypeId} (hu : P.underlying t = some (.slice e)) (he : (P.info? e).map (·.size) = some 1) {x i : Operand} {so : Option Addr} {b off n c k : Nat} {z : Int} (hx : ev l x = some (.slice so n c)) (hi : ev l i = some (.int .i64 z)) (hz : z = (k : Nat)) (hso : so = some ⟨b, off, none⟩) (hk : k < n) :
    Does P l ⟨dst, .indexAddr t x i, ty, pos, after, guard⟩ w (.pointer (some ⟨b, off + k, none⟩)) w := by
  subst hso hz
  exact xd hx hi (yf hu he hk)
theorem yv {s d : TypeId} {x : Operand} {u : Value} (hx : ev l x = some u) (hr : ∀ w, (convert s d u).run P w = .ok v w) : Does P l ⟨dst, .convert s d x, ty, pos, after, guard⟩ w v w := fun ρ h => by
  simp only [execOp, h x _ hx, Sem.run_bind, hr w, Result.andThen_ok, Sem.run_pure]
theorem vy {b : Builtin} {xs : List Operand} {ts : Array TypeId} {vs : List Value} (hx : evs l xs = some vs) (hr : ∀ w cs, (builtin b ts ty cs vs.toArray).run P w = .ok (.value v) w) : Does P l ⟨dst, .call ⟨.builtin b, xs.toArray, ts⟩, ty, pos, after, guard⟩ w v w := fun ρ h => by
  have e : xs.map ρ = vs := by
    have : ∀ (xs : List Operand) (vs : List Value), evs l xs = some vs → xs.map ρ = vs := by
      intro xs
      induction xs with
      | nil => intro vs hx; simp [evs] at hx; simp [hx]
      | cons x xs ih =>
        intro vs hx
        unfold evs at hx
        split at hx
        · rename_i v us h1 h2
          cases hx
          simp [h _ _ h1, ih _ h2]
        · cases hx
    exact this xs vs hx
  rw [BigFrame.execOp_builtin]
  simp only [List.map_toArray, e, hr]

/-! ### Operators -/
section
variable {t : TypeId} {x y : Operand} {k : IntKind} {a b : Int}
theorem zl : ∀ w, (do eqGuard .lss t x y (.int k a) (.int k b); binOp .lss t (.int k a) (.int k b) : Sem Value).run P w = .ok (.bool (decide (a < b))) w := fun w => by simp [go_sem]
theorem qid : ∀ w, (do eqGuard .leq t x y (.int k a) (.int k b); binOp .leq t (.int k a) (.int k b) : Sem Value).run P w = .ok (.bool (decide (a ≤ b))) w := fun w => by simp [go_sem]
theorem xy : ∀ w, (do eqGuard .gtr t x y (.int k a) (.int k b); binOp .gtr t (.int k a) (.int k b) : Sem Value).run P w = .ok (.bool (decide (b < a))) w := fun w => by simp [go_sem]
theorem xz : ∀ w, (do eqGuard .geq t x y (.int k a) (.int k b); binOp .geq t (.int k a) (.int k b) : Sem Value).run P w = .ok (.bool (decide (b ≤ a))) w := fun w => by simp [go_sem]
theorem qx : ∀ w, (do eqGuard .eql t x y (.int k a) (.int k b); binOp .eql t (.int k a) (.int k b) : Sem Value).run P w = .ok (.bool (a == b)) w := fun w => by simp [go_sem]
theorem zm : ∀ w, (do eqGuard .neq t x y (.int k a) (.int k b); binOp .neq t (.int k a) (.int k b) : Sem Value).run P w = .ok (.bool (a != b)) w := fun w => by simp [go_sem]
theorem xj {a : Int} (h0 : -9223372036854775808 ≤ a) (h1 : a ≤ 9223372036854775807) : IntKind.i64.wrap a = a := IntWalk.i64_in a ⟨h0, h1⟩
theorem jk (h : k.wrap (a + b) = a + b) : ∀ w, (do eqGuard .add t x y (.int k a) (.int k b); binOp .add t (.int k a) (.int k b) : Sem Value).run P w = .ok (.int k (a + b)) w := fun w => by simp [go_sem, h]
theorem bin_sub (h : k.wrap (a - b) = a - b) : ∀ w, (do eqGuard .sub t x y (.int k a) (.int k b); binOp .sub t (.int k a) (.int k b) : Sem Value).run P w = .ok (.int k (a - b)) w := fun w => by simp [go_sem, h]
theorem qkh (hu : P.underlying t = some .bool) {c d : Bool} : ∀ w, (do eqGuard .eql t x y (.bool c) (.bool d); binOp .eql t (.bool c) (.bool d) : Sem Value).run P w = .ok (.bool (c == d)) w := fun w => by
  simp [go_sem, hu, run_underlying hu]
theorem zn {c : Bool} : ∀ w, (Op.unary .not (.bool c)).run P w = .ok (.bool (!c)) w := fun w => by simp [go_sem]
end
end
section
variable {P : Program} {ops : List Oper} {Q : Exit → Act → World → Prop} {a : Act} {w w' : World} {n : Nat} {l : List (Nat × Value)} {o : Oper} {v : Value} {rest : List Oper} {d : Nat}
theorem sdo (hA : Sl a n l) (he : Does P l o w v w') (hk : ∀ a', Sl a' n ((d, v) :: l) → wpList P ops.toArray Q rest a' w') (hg : zi l ops o = true := by rfl) (hdst : o.dst = some d := by rfl) (hd : Nat.blt d n = true := by rfl) : wpList P ops.toArray Q (o :: rest) a w := jd hA hg hdst hd he hk
theorem sdm {x : Operand} {ty : TypeId} {pos : String} {after : Array Edge} {guard : Option (Nat × Bool)} (hA : Sl a n l) (hk : ∀ a', Sl a' n ((d, v) :: l) → wpList P ops.toArray Q rest a' w) (hx : ev l x = some v := by rfl) (hg : zi l ops ⟨some d, .move x, ty, pos, after, guard⟩ = true := by rfl) (hd : Nat.blt d n = true := by rfl) : wpList P ops.toArray Q (⟨some d, .move x, ty, pos, after, guard⟩ :: rest) a w := sdo hA (zj hx) hk hg rfl hd
theorem sda {x : Operand} {ty : TypeId} {pos : String} {after : Array Edge} {guard : Option (Nat × Bool)} (hA : Sl a n l) (hk : ∀ a', Sl a' n ((d, v) :: l) → wpList P ops.toArray Q rest a' w) (hx : ev l x = some v := by rfl) (hg : zi l ops ⟨some d, .assign x, ty, pos, after, guard⟩ = true := by rfl) (hd : Nat.blt d n = true := by rfl) : wpList P ops.toArray Q (⟨some d, .assign x, ty, pos, after, guard⟩ :: rest) a w := sdo hA (zq hx) hk hg rfl hd
theorem sdk {c x y : Operand} {b : Bool} {u u' : Value} {ty : TypeId} {pos : String} {after : Array Edge} {guard : Option (Nat × Bool)} (hA : Sl a n l) (hk : ∀ a', Sl a' n ((d, v) :: l) → wpList P ops.toArray Q rest a' w) (hc : ev l c = some (.bool b) := by rfl) (hx : ev l x = some u := by rfl) (hy : ev l y = some u' := by rfl) (hv : v = cond b u u' := by rfl) (hg : zi l ops ⟨some d, .pick c x y, ty, pos, after, guard⟩ = true := by rfl) (hd : Nat.blt d n = true := by rfl) : wpList P ops.toArray Q (⟨some d, .pick c x y, ty, pos, after, guard⟩ :: rest) a w := sdo hA (vp hc hx hy hv) hk hg rfl hd
abbrev pg (g : Nat) : Value := .pointer (some ⟨g, 0, none⟩)
theorem wsk {x y : Code} (h : ∀ K : Act → World → Prop, (∀ a w, y.wp P Q a w → K a w) → x.wp P (Exit.then K Q) a w) : (Code.seq x y).wp P Q a w := wp_seq_k h
theorem wrl {id : Nat} {l : List Oper} (h : wpList P l.toArray Q l a w) : (Code.region id l.toArray false).wp P Q a w := wp_region_lit h
theorem tf (b : Bool) : b = true ∨ b = false := Bool.eq_false_or_eq_true b
theorem ef {x : Operand} {f : FuncId} {args : List Operand} {ts : Array TypeId} {vs : List Value} {dst : Option Tmp} {ty : TypeId} {pos : String} {after : Array Edge} {guard : Option (Nat × Bool)} (hx : ev l x = some (.func (.func f) #[] #[])) (ha : evs l args = some vs) (hf : ∀ w, (invoke (.fn (.func f) #[]) vs.toArray).run P w = .ok (.enter f vs.toArray) w := by exact fun w => by kernel_rfl) : Enters P l ⟨dst, .call ⟨.value x, args.toArray, ts⟩, ty, pos, after, guard⟩ w f vs := zf hx ha hf
theorem sct {f : FuncId} {vs : List Value} (hA : Sl a n l) (he : Enters P l o w f vs) {R : Ending → World → Prop} (hc : Calls P f vs.toArray w R) (hk : ∀ e w', R e w' → ∃ v, e = .returned v ∧ ∀ a', Sl a' n ((d, v) :: l) → wpList P ops.toArray Q rest a' w') (hg : zi l ops o = true := by rfl) (hdst : o.dst = some d := by rfl) (hd : Nat.blt d n = true := by rfl) : wpList P ops.toArray Q (o :: rest) a w := xg hA hg hdst hd he hc hk
theorem sdc {b : BinOp} {t t' ty : TypeId} {x y : Operand} {u u' : Value} {c e : Bool} {pos : String} {after : Array Edge} {guard : Option (Nat × Bool)} (hA : Sl a n l) (hr : ∀ w, (do eqGuard b t x y u u'; binOp b t u u' : Sem Value).run P w = .ok (.bool c) w) (h : c = e) (hk : ∀ a', Sl a' n ((d, .bool e) :: l) → wpList P ops.toArray Q rest a' w) (hx : ev l x = some u := by rfl) (hy : ev l y = some u' := by rfl) (hg : zi l ops ⟨some d, .binOp b t x y t', ty, pos, after, guard⟩ = true := by rfl) (hd : Nat.blt d n = true := by rfl) : wpList P ops.toArray Q (⟨some d, .binOp b t x y t', ty, pos, after, guard⟩ :: rest) a w := sdo hA (qg hx hy (h ▸ hr)) hk hg rfl hd
variable {fn : Func} {Z : Ending → World → Prop} {r1 r2 r3 : ResultVar} {v1 v2 v3 : Value}
theorem en1 (hA : Sl a n l) (hrs : fn.results = #[r1]) (h1 : jx P l w r1 v1) (hz : Z (.returned v1) w) : bodyPost P fn Z .ret a w := kl hA (rs := [r1]) hrs (.cons h1 .nil) rfl hz
theorem en2 (hA : Sl a n l) (hrs : fn.results = #[r1, r2]) (h1 : jx P l w r1 v1) (h2 : jx P l w r2 v2) (hz : Z (.returned (.tuple #[v1, v2])) w) : bodyPost P fn Z .ret a w := kl hA (rs := [r1, r2]) hrs (.cons h1 (.cons h2 .nil)) rfl hz
theorem en3 (hA : Sl a n l) (hrs : fn.results = #[r1, r2, r3]) (h1 : jx P l w r1 v1) (h2 : jx P l w r2 v2) (h3 : jx P l w r3 v3) (hz : Z (.returned (.tuple #[v1, v2, v3])) w) : bodyPost P fn Z .ret a w := kl hA (rs := [r1, r2, r3]) hrs (.cons h1 (.cons h2 (.cons h3 .nil))) rfl hz
end

/-- A slice of words: what it reads as; room only where there is memory. -/
structure Sc (w : World) (o : Option Addr) (c : Nat) (l : List Nat) : Prop where
  rd : Rd w o l
  nil : o = none → c = 0
  cap : l.length ≤ c
theorem Sc.below {w w' : World} {o : Option Addr} {c : Nat} {l : List Nat} (h : Sc w o c l) (hb : Below w.heap.size w w') : Sc w' o c l := ⟨h.rd.below hb, h.nil, h.cap⟩
theorem Sc.none (w : World) : Sc w none 0 [] := ⟨Rd.nil _ _, fun _ => rfl, Nat.le_refl _⟩
/-- A number of two fractions: its signs, tops and bottoms. -/
structure Q6 where
  b1 : Bool
  t1 : List Nat
  q1 : List Nat
  b2 : Bool
  t2 : List Nat
  q2 : List Nat
/-- The value of six cells: signs, and slices of so many words. -/
def numV (q : Q6) (o1 : Option Addr) (c1 : Nat) (o2 : Option Addr) (c2 : Nat) (o3 : Option Addr) (c3 : Nat) (o4 : Option Addr) (c4 : Nat) : Value :=
  .agg #[.bool q.b1, .slice o1 q.t1.length c1, .slice o2 q.q1.length c2, .bool q.b2, .slice o3 q.t2.length c3, .slice o4 q.q2.length c4]
structure Nm (w : World) (q : Q6) (o1 : Option Addr) (c1 : Nat) (o2 : Option Addr) (c2 : Nat) (o3 : Option Addr) (c3 : Nat) (o4 : Option Addr) (c4 : Nat) : Prop where
  s1 : Sc w o1 c1 q.t1
  s2 : Sc w o2 c2 q.q1
  s3 : Sc w o3 c3 q.t2
  s4 : Sc w o4 c4 q.q2
/-- The number without anything. -/
def Q6.zero : Q6 := ⟨false, [], [], false, [], []⟩
/-- A whole number of a sign and a size. -/
def Q6.whole (b : Bool) (x : Nat) : Q6 := ⟨b, words x, [1], false, [], [1]⟩
theorem qgf : words 1 = [1] := by rw [words_pos (by omega)]; simp [words_zero]
/-- How long an argument's lists can be. -/
structure LenQ (q : Q6) : Prop where
  l1 : q.t1.length ≤ 9223372036854775807
  l2 : q.q1.length ≤ 9223372036854775807
  l3 : q.t2.length ≤ 9223372036854775807
  l4 : q.q2.length ≤ 9223372036854775807
def qie (q : Q6) : Bool := soundN q.b1 q.t1 q.q1 q.b2 q.t2 q.q2
theorem qcg {w : World} {q : Q6} {o1 o2 o3 o4 : Option Addr} {c1 c2 c3 c4 : Nat} (h : Nm w q o1 c1 o2 c2 o3 c3 o4 c4) (hl : LenQ q) {r : Bool} (hr : qie q = r) :
    Calls Tryz.prog 119 #[numV q o1 c1 o2 c2 o3 c3 o4 c4] w fun e w' => e = .returned (.bool r) ∧ Below w.heap.size w w' := by
  subst hr
  exact soundN_any c1 c2 c3 c4 h.s1.rd h.s2.rd h.s3.rd h.s4.rd hl.l1 hl.l2 hl.l3 hl.l4 h.s1.nil h.s2.nil h.s3.nil h.s4.nil

set_option maxRecDepth 100000
theorem BiB_is1_117 : Is1 Tryz.prog 117 := ⟨⟨_, Tryz.underlying117, rfl⟩, by kernel_rfl⟩
theorem rsame_any {w : World} {ao bo : Option Addr} {l1 l2 : List Nat} (ca cb : Nat) (ha : Rd w ao l1) (hb : Rd w bo l2) (h1 : l1.length ≤ 9223372036854775807) (h2 : l2.length ≤ 9223372036854775807) : Calls Tryz.prog 101 #[.slice ao l1.length ca, .slice bo l2.length cb] w fun e w' => e = .returned (.bool (decide (l1 = l2))) ∧ Below w.heap.size w w' := by
 have V : St w w [] [(bo, l2), (ao, l1)] [] := ((St.start w).addR ha).addR hb
 refine qr (l := [(0, .slice ao l1.length ca), (1, .slice bo l2.length cb)]) Tryz.func101 rfl Tryz.ntmps101 rfl rfl ?_
 intro Q hret hnorm hP a A
 refine wsk fun K1 hK1 => wrl (sda A λa A↦?_)
 refine qa (hK1 _ _ (wsk fun K2 hK2 => wsk fun K3 hK3 => wrl (sdm A λa A↦?_)))
 refine sdo A (ze Tryz.underlying46 rfl) λa A↦?_
 refine sdm A λa A↦?_
 refine sdo A (ze Tryz.underlying46 rfl) λa A↦?_
 rcases tf ((((l1.length : Nat) : Int) != ((l2.length : Nat) : Int))) with hb4 | hb4
 ·
  have hb4' := bne_iff_ne.1 hb4
  refine sdc A zm hb4 λa A↦?_
  refine qa (hK3 _ _ (wp_cond_true (A.ev rfl) ?_))
  refine wsk fun K5 hK5 => wrl (sda A λa A↦?_)
  refine qa (hK5 _ _ (wp_ret (hret _ _ (en1 A rfl (qe rfl) ?_))))
  exact ⟨by rw [decide_eq_false (fun e => by subst e; omega)], V.bel⟩
 ·
  have hb4' := bne_eq_false_iff_eq.1 hb4
  refine sdc A zm hb4 λa A↦?_
  refine qa (hK3 _ _ (wp_cond_false (A.ev rfl) ?_))
  refine wp_skip (hK2 _ _ (wsk fun K6 hK6 => wsk fun K7 hK7 => wrl (sda A λa A↦?_)))
  refine qa (hK7 _ _ (wp_block (ja (fun m a w1 => ∃ (i : Nat), m = l1.length - i ∧ (i ≤ l1.length ∧ ∀ j, j < i → l1.getD j 0 = l2.getD j 0) ∧ Sl a 26 [(0, .slice ao l1.length ca), (1, .slice bo l2.length cb), (5, .int .i64 (((i : Nat) : Int))), (6, .slice ao l1.length ca), (7, .int .i64 (((l1.length : Nat) : Int))), (8, .slice bo l2.length cb), (9, .int .i64 (((l2.length : Nat) : Int))), (10, .bool false)] ∧ St w w1 [] [(bo, l2), (ao, l1)] []) _ ⟨0, rfl, ⟨by omega, fun j hj => by omega⟩, A.keep _ (by repeat' constructor), V⟩ ?_)))
  clear V A
  rintro m a w8 ⟨i, rfl, hinv10, A, V⟩ K9 hK9
  have hle := hinv10.1
  refine wsk fun K11 hK11 => wsk fun K12 hK12 => wrl ?_
  iterate 2 refine sdm A λa A↦?_
  refine sdo A (ze Tryz.underlying46 rfl) λa A↦?_
  rcases tf (decide (((i : Nat) : Int) < ((l1.length : Nat) : Int))) with hb13 | hb13
  ·
   have hb13' := of_decide_eq_true hb13
   refine sdc A zl hb13 λa A↦?_
   refine qa (hK12 _ _ (wp_cond_true (A.ev rfl) ?_))
   refine wp_skip (hK11 _ _ (wsk fun K14 hK14 => wp_block (wsk fun K15 hK15 => xh (S := fun w1 => St w w1 [] [(bo, l2), (ao, l1)] []) (by kernel_rfl) ?_)))
   replace V := V.drew
   refine qm A 0 rfl rfl rfl rfl hP V (fun w1 V => zj rfl) λa A↦?_
   refine qm A 1 rfl rfl rfl rfl hP V (fun w1 V => zj rfl) λa A↦?_
   have hi19 : i < l1.length := by first | omega | (simp only [List.length_set]; omega)
   obtain ⟨b16, f17, hso18⟩ := Rd.addr (V.rd 1 rfl) hi19
   refine qm (v := .pointer (some ⟨b16, f17 + i, none⟩)) A 2 rfl rfl rfl rfl hP V (fun w1 V => jl (k := i) Tryz.underlying46 (by kernel_rfl) rfl rfl (by omega) hso18 hi19) λa A↦?_
   refine qm (v := .int .u32 (((l1.getD i 0 : Nat) : Int))) A 3 rfl rfl rfl rfl hP V (fun w1 V => yu (V.rd 1 rfl) hso18 hi19 BiB_is1_117 rfl) λa A↦?_
   refine qm A 4 rfl rfl rfl rfl hP V (fun w1 V => zj rfl) λa A↦?_
   refine qm A 5 rfl rfl rfl rfl hP V (fun w1 V => zj rfl) λa A↦?_
   have hi23 : i < l2.length := by first | omega | (simp only [List.length_set]; omega)
   obtain ⟨b20, f21, hso22⟩ := Rd.addr (V.rd 0 rfl) hi23
   refine qm (v := .pointer (some ⟨b20, f21 + i, none⟩)) A 6 rfl rfl rfl rfl hP V (fun w1 V => jl (k := i) Tryz.underlying46 (by kernel_rfl) rfl rfl (by omega) hso22 hi23) λa A↦?_
   refine qm (v := .int .u32 (((l2.getD i 0 : Nat) : Int))) A 7 rfl rfl rfl rfl hP V (fun w1 V => yu (V.rd 0 rfl) hso22 hi23 BiB_is1_117 rfl) λa A↦?_
   rcases tf ((((l1.getD i 0 : Nat) : Int) != ((l2.getD i 0 : Nat) : Int))) with hb24 | hb24
   ·
    have hb24' := bne_iff_ne.1 hb24
    refine qm (v := .bool true) A 8 rfl rfl rfl rfl hP V (fun w1 V => qg rfl rfl (fun w => (zm w).trans (by rw [hb24]))) λa A↦?_
    refine jo (by kernel_rfl) ?_
    refine hK15 _ _ (wp_cond_true (A.ev rfl) ?_)
    refine wsk fun K25 hK25 => wrl (sda A λa A↦?_)
    refine qa (hK25 _ _ (wp_ret (hret _ _ (en1 A rfl (qe rfl) ?_))))
    exact ⟨by rw [decide_eq_false (fun e => by subst e; omega)], V.bel⟩
   ·
    have hb24' := bne_eq_false_iff_eq.1 hb24
    refine qm (v := .bool false) A 8 rfl rfl rfl rfl hP V (fun w1 V => qg rfl rfl (fun w => (zm w).trans (by rw [hb24]))) λa A↦?_
    refine jo (by kernel_rfl) ?_
    refine hK15 _ _ (wp_cond_false (A.ev rfl) ?_)
    refine wp_skip (hK14 _ _ (wrl (sdm A λa A↦?_)))
    refine sdo (v := .int .i64 (((i + 1 : Nat) : Int))) A (qg rfl rfl (fun w => (jk (xj (by omega) (by omega)) w).trans (by rw [show (((i : Nat) : Int) + 1 : Int) = ((i + 1 : Nat) : Int) from by omega]))) λa A↦?_
    refine sda A λa A↦?_
    refine qa ?_
    refine hK9 _ _ _ (by omega) ⟨i + 1, rfl, ⟨by omega, fun j hj => by rcases Nat.lt_succ_iff_lt_or_eq.1 hj with h | h; exact hinv10.2 j h; subst h; omega⟩, A.keep _ (by repeat' constructor), V⟩
  ·
   have hb13' := of_decide_eq_false hb13
   refine sdc A zl hb13 λa A↦?_
   refine qa (hK12 _ _ (wp_cond_false (A.ev rfl) ?_))
   refine wp_exit (hK6 _ _ (wsk fun K26 hK26 => wrl (sda A λa A↦?_)))
   refine qa (hK26 _ _ (wp_ret (hret _ _ (en1 A rfl (qe rfl) ?_))))
   exact ⟨by rw [decide_eq_true (list_of_getD (by omega) (fun j hj => hinv10.2 j (by omega)))], V.bel⟩
section
variable {P : Program}
end
def xk (b : Bool) (t q : List Nat) (b' : Bool) (t' q' : List Nat) : Bool := (b == b') && (decide (t = t') && decide (q = q'))
/-- A rational number that is not too long. -/
def fitR (u : Rat) : Prop := (words u.num.natAbs).length ≤ 512 ∧ (words u.den).length ≤ 512
instance (u : Rat) : Decidable (fitR u) := inferInstanceAs (Decidable (_ ∧ _))
section
variable {P : Program} {t : TypeId} {x y : Operand} {a b : ByteArray}
theorem yx (hu : P.underlying t = some .string) : ∀ w, (do eqGuard .eql t x y (.string a) (.string b); binOp .eql t (.string a) (.string b) : Sem Value).run P w = .ok (.bool (a.toList == b.toList)) w := fun w => by
  simp [go_sem, hu, run_underlying hu]
end
section
variable {P : Program} {ops : List Oper} {Q : Exit → Act → World → Prop} {a : Act} {w w' : World} {n : Nat} {l : List (Nat × Value)} {o : Oper} {v : Value} {rest : List Oper}
end




theorem kh {w : World} {ao bo : Option Addr} {l1 l2 : List Nat} (ca cb : Nat) (ha : Rd w ao l1) (hb : Rd w bo l2) (h1 : l1.length ≤ 9223372036854775807) (h2 : l2.length ≤ 9223372036854775807) {r : Bool} (hr : decide (l1 = l2) = r) :
    Calls Tryz.prog 101 #[.slice ao l1.length ca, .slice bo l2.length cb] w fun e w' => e = .returned (.bool r) ∧ Below w.heap.size w w' := by
  subst hr
  exact rsame_any ca cb ha hb h1 h2






section
variable {P : Program} {l : List (Nat × Value)} {dst : Option Tmp} {ty t : TypeId} {pos : String} {after : Array Edge} {guard : Option (Nat × Bool)} {w : World} {x y : Operand}
end

section
variable {fop : Nat → Nat → Nat} {fb : Bool → Bool → Bool} {b1 b2 : Bool} {y1 y2 : Nat}
end
section
variable {P : Program} {t : TypeId} {a b : Operand} {x y : Nat}
end





theorem BiK_is1_4 : Is1 Tryz.prog 4 := ⟨⟨_, Tryz.underlying4, rfl⟩, by kernel_rfl⟩
theorem BiK_is1_46 : Is1 Tryz.prog 46 := ⟨⟨_, Tryz.underlying46, rfl⟩, by kernel_rfl⟩
theorem BiK_fld_48_0 : FieldAt Tryz.prog 48 0 0 := ⟨_, _, Tryz.underlying48, rfl, rfl, by kernel_rfl⟩
theorem BiK_fld_48_1 : FieldAt Tryz.prog 48 1 1 := ⟨_, _, Tryz.underlying48, rfl, rfl, by kernel_rfl⟩
theorem BiK_fld_48_2 : FieldAt Tryz.prog 48 2 2 := ⟨_, _, Tryz.underlying48, rfl, rfl, by kernel_rfl⟩
theorem vk {w : World} {b b' : Bool} {t q t' q' : List Nat} {a1 a2 : Option Addr} {ac1 ac2 : Nat} (ha1 : Sc w a1 ac1 t) (ha2 : Sc w a2 ac2 q) {u1 u2 : Option Addr} {uc1 uc2 : Nat} (hu1 : Sc w u1 uc1 t') (hu2 : Sc w u2 uc2 q') (l1 : t.length ≤ 9223372036854775807) (l2 : q.length ≤ 9223372036854775807) (l3 : t'.length ≤ 9223372036854775807) (l4 : q'.length ≤ 9223372036854775807) {r : Bool} (hr : xk b t q b' t' q' = r) :
  Calls Tryz.prog 84 #[.agg #[.bool b, .slice a1 t.length ac1, .slice a2 q.length ac2], .agg #[.bool b', .slice u1 t'.length uc1, .slice u2 q'.length uc2]] w fun e w' => e = .returned (.bool r) ∧ Below w.heap.size w w' := by
 have S : St w w [] [(u2, q'), (u1, t'), (a2, q), (a1, t)] [] := ((((St.start w).addR ha1.rd).addR ha2.rd).addR hu1.rd).addR hu2.rd
 refine qr (l := [(0, .agg #[.bool b, .slice a1 t.length ac1, .slice a2 q.length ac2]), (1, .agg #[.bool b', .slice u1 t'.length uc1, .slice u2 q'.length uc2])]) Tryz.func84 rfl Tryz.ntmps84 rfl rfl ?_
 intro Q hret hnorm hP a A
 refine wsk fun K1 hK1 => wrl (qca A S rfl rfl rfl pg (zd rfl rfl) rfl ?_)
 intro g2 w3 S a A
 refine qca A S rfl rfl rfl pg (zd rfl rfl) rfl ?_
 intro g4 w5 S a A
 refine sda A λa A↦?_
 refine qa (hK1 _ _ (wsk fun K6 hK6 => wrl (sdo (v := .pointer (some ⟨g2, 0, none⟩)) A (qb BiK_fld_48_0 rfl rfl) λa A↦?_)))
 refine sdo A (xm S BiK_is1_4 rfl 1 rfl rfl) λa A↦?_
 refine sdo (v := .pointer (some ⟨g4, 0, none⟩)) A (qb BiK_fld_48_0 rfl rfl) λa A↦?_
 refine sdo A (xm S BiK_is1_4 rfl 0 rfl rfl) λa A↦?_
 rcases tf ((b == b')) with hb7 | hb7
 ·
  have hb7' := eq_of_beq hb7
  refine sdo (v := .bool true) A (qg rfl rfl (fun w => ((qkh Tryz.underlying4) w).trans (by rw [hb7]))) λa A↦?_
  refine sdm A λa A↦?_
  refine sdo (v := .pointer (some ⟨g2, 1, none⟩)) A (qb BiK_fld_48_1 rfl rfl) λa A↦?_
  refine sdo A (xm S BiK_is1_46 rfl 1 rfl rfl) λa A↦?_
  refine sdo (v := .pointer (some ⟨g4, 1, none⟩)) A (qb BiK_fld_48_1 rfl rfl) λa A↦?_
  refine sdo A (xm S BiK_is1_46 rfl 0 rfl rfl) λa A↦?_
  rcases tf (decide (t = t')) with hb8 | hb8
  ·
   have hb8' := of_decide_eq_true hb8
   refine sct A (ef rfl rfl) (kh _ _ (S.rd 3 rfl) (S.rd 1 rfl) l1 l3 hb8) ?_
   rintro _ w10 ⟨rfl, hb9⟩
   replace S := S.call hb9
   refine ⟨_, rfl, ?_⟩
   intro a A
   refine sdk (v := .bool true) A λa A↦?_
   refine sdm A λa A↦?_
   refine sdo (v := .pointer (some ⟨g2, 2, none⟩)) A (qb BiK_fld_48_2 rfl rfl) λa A↦?_
   refine sdo A (xm S BiK_is1_46 rfl 1 rfl rfl) λa A↦?_
   refine sdo (v := .pointer (some ⟨g4, 2, none⟩)) A (qb BiK_fld_48_2 rfl rfl) λa A↦?_
   refine sdo A (xm S BiK_is1_46 rfl 0 rfl rfl) λa A↦?_
   rcases tf (decide (q = q')) with hb11 | hb11
   ·
    have hb11' := of_decide_eq_true hb11
    refine sct A (ef rfl rfl) (kh _ _ (S.rd 2 rfl) (S.rd 0 rfl) l2 l4 hb11) ?_
    rintro _ w13 ⟨rfl, hb12⟩
    replace S := S.call hb12
    refine ⟨_, rfl, ?_⟩
    intro a A
    refine sdk (v := .bool true) A λa A↦?_
    refine sda A λa A↦?_
    refine qa (hK6 _ _ (wp_ret (hret _ _ (en1 A rfl (qe rfl) ?_))))
    subst hr
    exact ⟨by unfold xk; rw [hb7, hb8, hb11]; try rfl, S.bel⟩
   ·
    have hb11' := of_decide_eq_false hb11
    refine sct A (ef rfl rfl) (kh _ _ (S.rd 2 rfl) (S.rd 0 rfl) l2 l4 hb11) ?_
    rintro _ w15 ⟨rfl, hb14⟩
    replace S := S.call hb14
    refine ⟨_, rfl, ?_⟩
    intro a A
    refine sdk (v := .bool false) A λa A↦?_
    refine sda A λa A↦?_
    refine qa (hK6 _ _ (wp_ret (hret _ _ (en1 A rfl (qe rfl) ?_))))
    subst hr
    exact ⟨by unfold xk; rw [hb7, hb8, hb11]; try rfl, S.bel⟩
  ·
   have hb8' := of_decide_eq_false hb8
   refine sct A (ef rfl rfl) (kh _ _ (S.rd 3 rfl) (S.rd 1 rfl) l1 l3 hb8) ?_
   rintro _ w17 ⟨rfl, hb16⟩
   replace S := S.call hb16
   refine ⟨_, rfl, ?_⟩
   intro a A
   refine sdk (v := .bool false) A λa A↦?_
   refine sdm A λa A↦?_
   iterate 5 refine qt A rfl rfl rfl λa A↦?_
   refine sdk (v := .bool false) A λa A↦?_
   refine sda A λa A↦?_
   refine qa (hK6 _ _ (wp_ret (hret _ _ (en1 A rfl (qe rfl) ?_))))
   subst hr
   exact ⟨by unfold xk; rw [hb7, hb8]; try rfl, S.bel⟩
 ·
  have hb7' := ne_of_beq_false hb7
  refine sdo (v := .bool false) A (qg rfl rfl (fun w => ((qkh Tryz.underlying4) w).trans (by rw [hb7]))) λa A↦?_
  refine sdm A λa A↦?_
  iterate 5 refine qt A rfl rfl rfl λa A↦?_
  refine sdk (v := .bool false) A λa A↦?_
  refine sdm A λa A↦?_
  iterate 5 refine qt A rfl rfl rfl λa A↦?_
  refine sdk (v := .bool false) A λa A↦?_
  refine sda A λa A↦?_
  refine qa (hK6 _ _ (wp_ret (hret _ _ (en1 A rfl (qe rfl) ?_))))
  subst hr
  exact ⟨by unfold xk; rw [hb7]; try rfl, S.bel⟩
open Go.ChangeShapes Go.WideShapes Go.ChangeAt Go.RowKit Go.Joins Go.Deep
section
variable {H : Type} {enc : TypeId × Value → H} {W : World}
theorem trod_bool {fuel : Nat} {v : Value} {x : DataW H × List MemPlace} (h : DataW.trod enc Tryz.prog W 0 (fun _ => true) true fuel 4 [v] = some x) : ∃ b, v = .bool b := by
  obtain ⟨b, h, _⟩ := DataW.trod_bool Tryz.underlying4 h
  exact ⟨b, by simpa using h⟩
end
end Go.Proofs.YtdpakekdbkpdfaaGreatDoor
