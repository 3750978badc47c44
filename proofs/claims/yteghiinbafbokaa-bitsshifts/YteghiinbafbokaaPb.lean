/- Blocks of the call's own of any length, fractions as values, and walks of lowest, isOne, fits. A walk's state, said by two lists: what the slots hold, and which blocks of its own the call has; and a law for each kind of step. A walk's memory, said by a list of blocks of the call's own and a list of rows of words that are read; what each operation does to it. Walks of what is a fraction, and of what is a sound number. Walks of small questions: does a fraction fit, is a number real, is it 0. Walk of Shift. Walks of the document's differences and order; the answers of Sub and Cmp. Walks of Sub, Cmp, Bits and Of, the program's own and the document's. Numbers as values of six cells, and what they stand for. Sound and whole numbers, as questions of six parts. Walks of the small functions of rows of bits. Are two rows of words the same? Walks of the document's products, and of the document's answers. Walks of the document's shifts. Walks of the document's shifts down, and of its Shift. Walks of the document's common divisor, by halves and differences. Walk of the document's double. -/
import Derived.Test.YteghiinbafbokaaPa
import Derived.OrdersHeld
import Derived.Deep.RegionHeld3
import Derived.Laws.IdiomCopy
import Derived.ChangeKeysEq
import Derived.LoopN
import Derived.Deep.AppendLies
import Derived.Deep.LoopGhost
namespace Go.Proofs.Yteghiinbafbokaa
open Go.RowKit
set_option linter.unusedVariables false
set_option linter.unusedSimpArgs false

/-- A block whose first cells hold these values, none of them a word, and nothing of it is frozen. -/
structure Blk (w : World) (g : Nat) (vs : List Value) : Prop where
  lt : g < w.heap.size
  cell : ∀ i v, vs[i]? = some v → w.cell? ⟨g, i, none⟩ = some v
  froz : ∀ i, w.frozen? ⟨g, i, none⟩ = false
  no : ∀ v ∈ vs, ∀ n, v ≠ .int .u32 n
theorem Blk.new (w : World) (vs : List Value) (t : TypeId) (hno : ∀ v ∈ vs, ∀ n, v ≠ .int .u32 n) : Blk (w.alloc (.cells vs.toArray t)) w.heap.size vs := by
  refine ⟨by simp, fun i v h => ?_, fun i => ?_, hno⟩
  · rw [World.cell?_alloc_at _ _ _ _ rfl]
    simpa using h
  · exact World.frozen?_alloc_at _ _ _ _ rfl
theorem Blk.alloc {w : World} {g : Nat} {vs : List Value} (h : Blk w g vs) (o : Obj) : Blk (w.alloc o) g vs :=
  ⟨by have := h.lt; simp; omega, fun i v hv => (World.cell?_alloc_past o g i h.lt).trans (h.cell i v hv), fun i => (World.frozen?_alloc_past o g i h.lt).trans (h.froz i), h.no⟩
theorem Blk.drew {w : World} {g : Nat} {vs : List Value} (h : Blk w g vs) : Blk w.drew g vs := ⟨h.lt, h.cell, h.froz, h.no⟩
theorem Blk.below {w w' : World} {g : Nat} {vs : List Value} (h : Blk w g vs) (hb : Below w.heap.size w w') : Blk w' g vs := by
  refine ⟨Nat.lt_of_lt_of_le h.lt hb.size, fun i v hv => (hb.cell (p := ⟨g, i, none⟩) h.lt).trans (h.cell i v hv), fun i => ?_, h.no⟩
  have := hb.block g h.lt
  have e : w'.frozen? ⟨g, i, none⟩ = w.frozen? ⟨g, i, none⟩ := by simp only [World.frozen?, this]
  rw [e]
  exact h.froz i
theorem Blk.far {w : World} {g g' : Nat} {vs : List Value} (h : Blk w g vs) (hne : g' ≠ g) (j : Nat) (x : Value) : Blk (w.setCell ⟨g', j, none⟩ x) g vs :=
  ⟨by simpa using h.lt, fun i v hv => (World.cell?_setCell_other _ _ _ _ (by intro e; cases e; exact hne rfl)).trans (h.cell i v hv), fun i => by simpa using h.froz i, h.no⟩
theorem Blk.set {w : World} {g : Nat} {vs : List Value} (h : Blk w g vs) (i : Nat) (v : Value) (hi : i < vs.length) (hv : ∀ n, v ≠ .int .u32 n) : Blk (w.setCell ⟨g, i, none⟩ v) g (vs.set i v) := by
  refine ⟨by simpa using h.lt, fun j u hu => ?_, fun j => by simpa using h.froz j, fun u hu n => ?_⟩
  · by_cases e : i = j
    · subst e
      rw [List.getElem?_set_self hi] at hu
      cases hu
      exact World.cell?_setCell_same _ _ _ (h.cell i vs[i] (by rw [List.getElem?_eq_getElem hi]))
    · rw [List.getElem?_set_ne e] at hu
      rw [World.cell?_setCell_other _ _ _ _ (by intro k; cases k; exact e rfl)]
      exact h.cell j u hu
  · rcases List.mem_or_eq_of_mem_set hu with h1 | h1
    · exact h.no u h1 n
    · subst h1
      exact hv n
theorem Blk.rd {w : World} {g : Nat} {vs : List Value} (h : Blk w g vs) {so : Option Addr} {l : List Nat} (hr : Rd w so l) (i : Nat) (v : Value) (hi : i < vs.length) : Rd (w.setCell ⟨g, i, none⟩ v) so l :=
  hr.setNo (h.cell i vs[i] (by rw [List.getElem?_eq_getElem hi])) (h.no _ (List.getElem_mem hi)) v

/-- A block of the call's own, behind which memory is as it was. -/
structure Mine (w0 w : World) (g : Nat) (vs : List Value) : Prop where
  ge : w0.heap.size ≤ g
  bel : Below w0.heap.size w0 w
  blk : Blk w g vs
theorem Mine.set {w0 w : World} {g : Nat} {vs : List Value} (h : Mine w0 w g vs) (i : Nat) (v : Value) (hi : i < vs.length) (hv : ∀ n, v ≠ .int .u32 n) : Mine w0 (w.setCell ⟨g, i, none⟩ v) g (vs.set i v) :=
  ⟨h.ge, h.bel.setCell (p := ⟨g, i, none⟩) h.ge v, h.blk.set i v hi hv⟩
theorem Mine.below {w0 w w' : World} {g : Nat} {vs : List Value} (h : Mine w0 w g vs) (hb : Below w.heap.size w w') : Mine w0 w' g vs := ⟨h.ge, chain2 h.bel hb, h.blk.below hb⟩

theorem fin3 {w0 w : World} {g : Nat} {a b c : Value} (h : Mine w0 w g [a, b, c]) (x y z : Value) (hx : ∀ n, x ≠ .int .u32 n) (hy : ∀ n, y ≠ .int .u32 n) (hz : ∀ n, z ≠ .int .u32 n) :
    Mine w0 (((w.setCell ⟨g, 0, none⟩ x).setCell ⟨g, 1, none⟩ y).setCell ⟨g, 2, none⟩ z) g [x, y, z] ∧ ∀ so l, Rd w so l → Rd (((w.setCell ⟨g, 0, none⟩ x).setCell ⟨g, 1, none⟩ y).setCell ⟨g, 2, none⟩ z) so l := by
  have h1 := h.set 0 x (by simp) hx
  have h2 := h1.set 1 y (by simp) hy
  have h3 := h2.set 2 z (by simp) hz
  exact ⟨h3, fun so l hr => h2.blk.rd (h1.blk.rd (h.blk.rd hr 0 x (by simp)) 1 y (by simp)) 2 z (by simp)⟩

/-- The value '.agg #[.bool b, .slice to_ m tc, .slice bo n bc]' stands for a fraction t over q. -/
structure Rt (w : World) (b : Bool) (to_ : Option Addr) (m tc : Nat) (bo : Option Addr) (n bc : Nat) (t : Int) (q : Nat) : Prop where
  neg : b = decide (t < 0)
  top : m = (words t.natAbs).length
  bot : n = (words q).length
  rdT : Rd w to_ (words t.natAbs)
  rdB : Rd w bo (words q)
  nilT : to_ = none → tc = 0
  nilB : bo = none → bc = 0
theorem Rt.below {w w' : World} {b : Bool} {to_ bo : Option Addr} {m tc n bc : Nat} {t : Int} {q : Nat} (h : Rt w b to_ m tc bo n bc t q) (hb : Below w.heap.size w w') : Rt w' b to_ m tc bo n bc t q := ⟨h.neg, h.top, h.bot, h.rdT.below hb, h.rdB.below hb, h.nilT, h.nilB⟩
theorem Rt.carry {w w' : World} {b : Bool} {to_ bo : Option Addr} {m tc n bc : Nat} {t : Int} {q : Nat} (h : Rt w b to_ m tc bo n bc t q) (hr : ∀ so l, Rd w so l → Rd w' so l) : Rt w' b to_ m tc bo n bc t q := ⟨h.neg, h.top, h.bot, hr _ _ h.rdT, hr _ _ h.rdB, h.nilT, h.nilB⟩
/-- A fraction in lowest terms. -/
def lowT (z : Int) (d : Nat) : Int := sgn (decide (z < 0)) (z.natAbs / Nat.gcd z.natAbs d)
def lowB (z : Int) (d : Nat) : Nat := d / Nat.gcd z.natAbs d
theorem lowT_abs (z : Int) (d : Nat) : (lowT z d).natAbs = z.natAbs / Nat.gcd z.natAbs d := sgn_abs _ _
theorem lowT_neg {z : Int} {d : Nat} (hd : d ≠ 0) : decide (lowT z d < 0) = decide (z < 0) := by
  unfold lowT
  rw [sgn_neg]
  by_cases h : z < 0
  · have h1 : 0 < z.natAbs := by omega
    have h2 : 0 < z.natAbs / Nat.gcd z.natAbs d := Nat.div_pos (Nat.gcd_le_left d h1) (Nat.gcd_pos_of_pos_left d h1)
    rw [decide_eq_true h, decide_eq_true h2]
    rfl
  · rw [decide_eq_false h]
    rfl

set_option maxHeartbeats 1000000 in
set_option maxRecDepth 1000000 in
theorem isOne_any {w : World} {ao : Option Addr} {l : List Nat} (ca : Nat) (ha : Rd w ao l) (hl : l.length ≤ 9223372036854775807) :
    Calls Try.prog 76 #[.slice ao l.length ca] w fun e w' => e = .returned (.bool (decide (l = [1]))) ∧ w' = w := by
  by_cases h1 : l.length = 1
  · obtain ⟨d, rfl⟩ : ∃ d, l = [d] := by
      match l, h1 with
      | [d], _ => exact ⟨d, rfl⟩
    obtain ⟨b, off, rfl, _, hc⟩ := ha.pos (by simp)
    have k := hc 0 (by simp)
    simp only [List.getD_cons_zero, Nat.add_zero] at k
    have hd := ha.dig d (by simp)
    clear ha hc hl h1
    by_cases hd1 : d = 1
    · subst hd1
      simp only [List.length_singleton]
      go_enter Try.func76, Try.ntmps76
      go_wp2
      go_ret
      exact ⟨rfl, rfl⟩
    · have e : decide ([d] = [1]) = false := by simp [hd1]
      rw [e]
      have hdI : ((d : Int) == 1) = false := by simp; omega
      simp only [List.length_singleton]
      clear e hd1
      go_enter Try.func76, Try.ntmps76
      go_wp2
      go_ret
      exact ⟨rfl, rfl⟩
  · have e : decide (l = [1]) = false := by
      apply decide_eq_false
      intro h
      rw [h] at h1
      exact h1 rfl
    rw [e]
    generalize l.length = n at *
    have hnI : ((n : Int) == 1) = false := by simp; omega
    clear ha e
    go_enter Try.func76, Try.ntmps76
    go_wp2
    go_ret
    exact ⟨rfl, rfl⟩
end Go.Proofs.Yteghiinbafbokaa
namespace Go.Proofs.Yteghiinbafbokaa
open Go.RowKit
set_option linter.unusedVariables false
set_option linter.unusedSimpArgs false

/-! ### Slots -/
def look : List (Nat × Value) → Nat → Option Value
  | [], _ => none
  | (k, v) :: t, n => cond (Nat.beq k n) (some v) (look t n)
/-- What an operand is. -/
def ev (l : List (Nat × Value)) : Operand → Option Value
  | .tmp k => look l k
  | .const v => some v
  | .global g => some (.pointer (some ⟨g, 0, none⟩))
  | .func f => some (.func (.func f) #[] #[])
def evs (l : List (Nat × Value)) : List Operand → Option (List Value)
  | [] => some []
  | x :: xs => match ev l x, evs l xs with | some v, some vs => some (v :: vs) | _, _ => none
def evp (l : List (Nat × Value)) : List (Nat × Operand) → Option (List (Nat × Value))
  | [] => some []
  | (i, x) :: xs => match ev l x, evp l xs with | some v, some vs => some ((i, v) :: vs) | _, _ => none
/-- The frame has n slots, and those that the list names hold what it says; no call waits for the end. -/
structure Sl (a : Act) (n : Nat) (l : List (Nat × Value)) : Prop where
  size : a.tmps.size = n
  holds : ∀ k v, look l k = some v → a.tmps[k]? = some v
  none_ : a.defers = []
section
variable {a : Act} {n : Nat} {l : List (Nat × Value)}
theorem Sl.ev (h : Sl a n l) {x : Operand} {v : Value} (hx : ev l x = some v) : a.eval x = v := by
  cases x with
  | tmp k =>
    have := h.holds k v hx
    simp [Act.eval, Array.getD_eq_getD_getElem?, this]
  | const u => simpa [Yteghiinbafbokaa.ev, Act.eval] using hx
  | global g => simpa [Yteghiinbafbokaa.ev, Act.eval] using hx
  | func f => simpa [Yteghiinbafbokaa.ev, Act.eval] using hx
theorem Sl.evs (h : Sl a n l) : ∀ {xs : List Operand} {vs : List Value}, evs l xs = some vs → xs.map a.eval = vs := by
  intro xs
  induction xs with
  | nil => intro vs hx; simp [Yteghiinbafbokaa.evs] at hx; simp [hx]
  | cons x xs ih =>
    intro vs hx
    unfold Yteghiinbafbokaa.evs at hx
    split at hx
    · rename_i v us h1 h2
      cases hx
      simp [h.ev h1, ih h2]
    · cases hx
theorem Sl.evp (h : Sl a n l) : ∀ {xs : List (Nat × Operand)} {vs : List (Nat × Value)}, evp l xs = some vs → xs.map (fun p => (p.1, a.eval p.2)) = vs := by
  intro xs
  induction xs with
  | nil => intro vs hx; simp [Yteghiinbafbokaa.evp] at hx; simp [hx]
  | cons x xs ih =>
    intro vs hx
    obtain ⟨i, x⟩ := x
    unfold Yteghiinbafbokaa.evp at hx
    split at hx
    · rename_i v us h1 h2
      cases hx
      simp [h.ev h1, ih h2]
    · cases hx
theorem Sl.put (h : Sl a n l) {d : Nat} (hd : Nat.blt d n = true) (v : Value) : Sl (a.put (some d) v) n ((d, v) :: l) := by
  refine ⟨by simp [Act.put, h.size], fun k u hk => ?_, by simp [Act.put, h.none_]⟩
  have hd' : d < a.tmps.size := by rw [h.size]; exact Nat.le_of_ble_eq_true hd
  unfold look at hk
  cases hb : Nat.beq d k with
  | true =>
    rw [hb] at hk
    have : d = k := Nat.eq_of_beq_eq_true hb
    subst this
    simp only [cond_true, Option.some.injEq] at hk
    subst hk
    simp [Act.put, Array.getElem?_setIfInBounds, hd']
  | false =>
    rw [hb] at hk
    have hne : d ≠ k := fun e => by rw [e, Nat.beq_refl] at hb; cases hb
    simp only [cond_false] at hk
    simp [Act.put, Array.getElem?_setIfInBounds, hne, h.holds k u hk]
theorem Sl.enter {args : List Value} {m : Nat} (hl : args.length ≤ m) : Sl { tmps := args.toArray ++ Array.replicate (m - args.toArray.size) undef, defers := [] } m (args.zipIdx.map fun p => (p.2, p.1)) := by
  refine ⟨by simp; omega, fun k v hk => ?_, rfl⟩
  have key : ∀ (xs : List Value) (o : Nat), look ((xs.zipIdx o).map fun p => (p.2, p.1)) k = some v → o ≤ k ∧ xs[k - o]? = some v := by
    intro xs
    induction xs with
    | nil => intro o h; simp [look] at h
    | cons x xs ih =>
      intro o h
      simp only [List.zipIdx_cons, List.map_cons, look] at h
      cases hb : Nat.beq o k with
      | true =>
        rw [hb] at h
        have : o = k := Nat.eq_of_beq_eq_true hb
        subst this
        simp only [cond_true, Option.some.injEq] at h
        simp [h]
      | false =>
        rw [hb] at h
        have hne : o ≠ k := fun e => by rw [e, Nat.beq_refl] at hb; cases hb
        simp only [cond_false] at h
        obtain ⟨h1, h2⟩ := ih _ h
        refine ⟨by omega, ?_⟩
        have : k - o = (k - (o + 1)) + 1 := by omega
        rw [this, List.getElem?_cons_succ]
        exact h2
  have h := (key args 0 hk).2
  simp only [Nat.sub_zero] at h
  have hlt : k < args.length := (List.getElem?_eq_some_iff.1 h).1
  rw [Array.getElem?_append_left (by simpa using hlt)]
  simpa using h
def AllIn (l : List (Nat × Value)) : List (Nat × Value) → Prop
  | [] => True
  | p :: t => look l p.1 = some p.2 ∧ AllIn l t
theorem Sl.keep (h : Sl a n l) (l' : List (Nat × Value)) (hs : AllIn l l') : Sl a n l' := by
  refine ⟨h.size, ?_, h.none_⟩
  induction l' with
  | nil => intro k v hk; simp [look] at hk
  | cons p t ih =>
    intro k v hk
    obtain ⟨d, u⟩ := p
    unfold look at hk
    cases hb : Nat.beq d k with
    | true =>
      rw [hb] at hk
      have : d = k := Nat.eq_of_beq_eq_true hb
      subst this
      simp only [cond_true, Option.some.injEq] at hk
      subst hk
      exact h.holds _ _ hs.1
    | false =>
      rw [hb] at hk
      exact ih hs.2 k v hk
theorem Sl.cut (h : Sl a n l) (l' : List (Nat × Value)) (hl : ∀ k v, look l' k = some v → look l k = some v) : Sl a n l' := ⟨h.size, fun k v hk => h.holds k v (hl k v hk), h.none_⟩
end

/-! ### What an operation does -/
/-- With these slots, in this world, the operation yields v and leaves w'. -/
def Does (P : Program) (l : List (Nat × Value)) (o : Oper) (w : World) (v : Value) (w' : World) : Prop :=
  ∀ ρ : Operand → Value, (∀ x u, ev l x = some u → ρ x = u) → (execOp ρ o).run P w = .ok (.value v) w'
/-- .. yields nothing (a store). -/
def Sets (P : Program) (l : List (Nat × Value)) (o : Oper) (w : World) (w' : World) : Prop :=
  ∀ ρ : Operand → Value, (∀ x u, ev l x = some u → ρ x = u) → (execOp ρ o).run P w = .ok .skip w'
/-- .. calls a function. -/
def Enters (P : Program) (l : List (Nat × Value)) (o : Oper) (w : World) (f : FuncId) (vs : List Value) : Prop :=
  ∀ ρ : Operand → Value, (∀ x u, ev l x = some u → ρ x = u) → (execOp ρ o).run P w = .ok (.enter f vs.toArray) w
/-- Its guard, if it has one, says yes. -/
def passes (l : List (Nat × Value)) (ops : List Oper) (o : Oper) : Bool :=
  match o.guard with
  | none => true
  | some (j, b) => match ops[j]? with
    | some oj => match oj.dst with
      | some d => match look l d with
        | some (.bool b') => b' == b
        | _ => false
      | none => false
    | none => false
/-- Its guard says no. -/
def stays (l : List (Nat × Value)) (ops : List Oper) (o : Oper) : Bool :=
  match o.guard with
  | none => false
  | some (j, b) => match ops[j]? with
    | some oj => match oj.dst with
      | some d => match look l d with
        | some (.bool b') => b' != b
        | _ => false
      | none => false
    | none => false
section
variable {P : Program} {ops : List Oper} {Q : Exit → Act → World → Prop} {a : Act} {w w' : World} {n : Nat} {l : List (Nat × Value)} {o : Oper} {v : Value} {rest : List Oper}
theorem Sl.wanted (h : Sl a n l) (hp : passes l ops o = true) : Region.wanted o (yielded ops.toArray a.tmps) = true := by
  unfold Region.wanted
  unfold passes at hp
  split at hp
  · rename_i hg; rw [hg]
  · rename_i j b hg
    rw [hg]
    split at hp
    · rename_i oj hj
      split at hp
      · rename_i d hd
        split at hp
        · rename_i b' hb
          have := h.holds d _ hb
          simp only [beq_iff_eq] at hp
          simp [yielded, hj, hd, this, hp]
        · cases hp
      · cases hp
    · cases hp
theorem Sl.unwanted (h : Sl a n l) (hp : stays l ops o = true) : Region.wanted o (yielded ops.toArray a.tmps) = false := by
  unfold Region.wanted
  unfold stays at hp
  split at hp
  · cases hp
  · rename_i j b hg
    rw [hg]
    split at hp
    · rename_i oj hj
      split at hp
      · rename_i d hd
        split at hp
        · rename_i b' hb
          have := h.holds d _ hb
          simp only [bne_iff_ne, ne_eq] at hp
          simp [yielded, hj, hd, this, hp]
        · cases hp
      · cases hp
    · cases hp
/-- One step of a region that goes in its text's order. -/
theorem seq_do (hA : Sl a n l) (hg : passes l ops o = true) {d : Nat} (hdst : o.dst = some d) (hd : Nat.blt d n = true) (he : Does P l o w v w')
    (hk : ∀ a', Sl a' n ((d, v) :: l) → wpList P ops.toArray Q rest a' w') : wpList P ops.toArray Q (o :: rest) a w := by
  unfold wpList
  rw [if_pos (hA.wanted hg)]
  refine .inl ?_
  unfold Oper.wp
  rw [he a.eval (fun x u hx => hA.ev hx), Oper.upon_value, hdst]
  exact hk _ (hA.put hd v)
theorem seq_set (hA : Sl a n l) (hg : passes l ops o = true) (hdst : o.dst = none) (he : Sets P l o w w')
    (hk : wpList P ops.toArray Q rest a w') : wpList P ops.toArray Q (o :: rest) a w := by
  unfold wpList
  rw [if_pos (hA.wanted hg)]
  refine .inl ?_
  unfold Oper.wp
  rw [he a.eval (fun x u hx => hA.ev hx), Oper.upon_skip, hdst]
  exact hk
theorem seq_skip (hA : Sl a n l) (hg : stays l ops o = true) {d : Nat} (hdst : o.dst = some d) (hd : Nat.blt d n = true)
    (hk : ∀ a', Sl a' n ((d, undef) :: l) → wpList P ops.toArray Q rest a' w) : wpList P ops.toArray Q (o :: rest) a w := by
  unfold wpList
  rw [hA.unwanted hg, if_neg (by simp), hdst]
  exact hk _ (hA.put hd undef)
theorem seq_call (hA : Sl a n l) (hg : passes l ops o = true) {d : Nat} (hdst : o.dst = some d) (hd : Nat.blt d n = true) {f : FuncId} {vs : List Value} (he : Enters P l o w f vs)
    {R : Ending → World → Prop} (hc : Calls P f vs.toArray w R)
    (hk : ∀ e w', R e w' → ∃ v, e = .returned v ∧ ∀ a', Sl a' n ((d, v) :: l) → wpList P ops.toArray Q rest a' w') : wpList P ops.toArray Q (o :: rest) a w := by
  unfold wpList
  rw [if_pos (hA.wanted hg)]
  refine .inl ?_
  unfold Oper.wp
  rw [he a.eval (fun x u hx => hA.ev hx), Oper.upon_enter]
  refine hc.mono ?_
  intro e w' hR
  obtain ⟨v, rfl, h⟩ := hk e w' hR
  simp only [hdst]
  exact h _ (hA.put hd v)
theorem seq_end (hk : Q .normal a w) : wpList P ops.toArray Q [] a w := hk
/-! .. and of a region that draws its order: S is what every world on the way meets. -/
variable {S : World → Prop} {md : Region.Mode} {fuel : Nat} {listed : Array Bool}
theorem any_take (hA : Sl a n l) (i : Nat) (hi : ops[i]? = some o) (hg : passes l ops o = true) {d : Nat} (hdst : o.dst = some d) (hd : Nat.blt d n = true) (hs : Region.noSelect ops.toArray = true) (hf : Region.free md ops.toArray listed i = true)
    (hr : (Region.ready md ops.toArray listed).contains i = true) (hQ : ∀ c a w, Q (.panic c) (a.put o.dst v) w → Q (.panic c) a w) (hS : S w) (he : ∀ w, S w → Does P l o w v w)
    (hk : ∀ a', Sl a' n ((d, v) :: l) → wpAnyH P md ops.toArray Q S fuel (listed.setIfInBounds i true) a' w) : wpAnyH P md ops.toArray Q S (fuel + 1) listed a w := by
  refine wpAnyH_take (i := i) (oi := o) (v := v) (by simpa using hi) hs hf hr hQ (Or.inl ⟨hA.wanted hg, fun w hw => he w hw a.eval (fun x u hx => hA.ev hx)⟩) hS ?_
  rw [hdst]
  exact hk _ (hA.put hd v)
theorem any_skip (hA : Sl a n l) (i : Nat) (hi : ops[i]? = some o) (hg : stays l ops o = true) {d : Nat} (hdst : o.dst = some d) (hd : Nat.blt d n = true) (hs : Region.noSelect ops.toArray = true) (hf : Region.free md ops.toArray listed i = true)
    (hr : (Region.ready md ops.toArray listed).contains i = true) (hQ : ∀ c a w, Q (.panic c) (a.put o.dst undef) w → Q (.panic c) a w) (hS : S w)
    (hk : ∀ a', Sl a' n ((d, undef) :: l) → wpAnyH P md ops.toArray Q S fuel (listed.setIfInBounds i true) a' w) : wpAnyH P md ops.toArray Q S (fuel + 1) listed a w := by
  refine wpAnyH_take (i := i) (oi := o) (v := undef) (by simpa using hi) hs hf hr hQ (Or.inr ⟨hA.unwanted hg, rfl⟩) hS ?_
  rw [hdst]
  exact hk _ (hA.put hd undef)
/-- One operation of it. -/
theorem op_do (hA : Sl a n l) (i : Nat) (hi : ops[i]? = some o) (hg : passes l ops o = true) {d : Nat} (hdst : o.dst = some d) (hd : Nat.blt d n = true) (he : Does P l o w v w') (hS : S w')
    (hk : ∀ a', Sl a' n ((d, v) :: l) → wpAnyH P md ops.toArray Q S fuel (listed.setIfInBounds i true) a' w') : wpOp P ops.toArray Q i (fun a' w' => S w' ∧ wpAnyH P md ops.toArray Q S fuel (listed.setIfInBounds i true) a' w') a w := by
  unfold wpOp
  simp only [List.getElem?_toArray, hi]
  rw [if_pos (hA.wanted hg)]
  refine .inl ?_
  unfold Oper.wp
  rw [he a.eval (fun x u hx => hA.ev hx), Oper.upon_value, hdst]
  exact ⟨hS, hk _ (hA.put hd v)⟩
theorem op_set (hA : Sl a n l) (i : Nat) (hi : ops[i]? = some o) (hg : passes l ops o = true) (hdst : o.dst = none) (he : Sets P l o w w') (hS : S w')
    (hk : wpAnyH P md ops.toArray Q S fuel (listed.setIfInBounds i true) a w') : wpOp P ops.toArray Q i (fun a' w' => S w' ∧ wpAnyH P md ops.toArray Q S fuel (listed.setIfInBounds i true) a' w') a w := by
  unfold wpOp
  simp only [List.getElem?_toArray, hi]
  rw [if_pos (hA.wanted hg)]
  refine .inl ?_
  unfold Oper.wp
  rw [he a.eval (fun x u hx => hA.ev hx), Oper.upon_skip, hdst]
  exact ⟨hS, hk⟩
theorem op_call (hA : Sl a n l) (i : Nat) (hi : ops[i]? = some o) (hg : passes l ops o = true) {d : Nat} (hdst : o.dst = some d) (hd : Nat.blt d n = true)
    {f : FuncId} {vs : List Value} (he : Enters P l o w f vs) {R : Ending → World → Prop} (hc : Calls P f vs.toArray w R)
    (hk : ∀ e w', R e w' → ∃ v, e = .returned v ∧ S w' ∧ ∀ a', Sl a' n ((d, v) :: l) → wpAnyH P md ops.toArray Q S fuel (listed.setIfInBounds i true) a' w') : wpOp P ops.toArray Q i (fun a' w' => S w' ∧ wpAnyH P md ops.toArray Q S fuel (listed.setIfInBounds i true) a' w') a w := by
  unfold wpOp
  simp only [List.getElem?_toArray, hi]
  rw [if_pos (hA.wanted hg)]
  refine .inl ?_
  unfold Oper.wp
  rw [he a.eval (fun x u hx => hA.ev hx), Oper.upon_enter]
  refine hc.mono ?_
  intro e w' hR
  obtain ⟨v, rfl, h1, h2⟩ := hk e w' hR
  simp only [hdst]
  exact ⟨h1, h2 _ (hA.put hd v)⟩
/-- Nothing else may come up. -/
theorem any_one {i : Nat} (hr : Region.ready md ops.toArray listed = [i]) (h : wpOp P ops.toArray Q i (fun a' w' => S w' ∧ wpAnyH P md ops.toArray Q S fuel (listed.setIfInBounds i true) a' w') a w) : wpAnyH P md ops.toArray Q S (fuel + 1) listed a w :=
  wpAnyH_all hr (by simp) (fun j hj => by rw [List.mem_singleton] at hj; subst hj; exact h)
def AllOps (W : Nat → Prop) : List Nat → Prop
  | [] => True
  | i :: t => W i ∧ AllOps W t
theorem AllOps.get {W : Nat → Prop} : ∀ {rs : List Nat}, AllOps W rs → ∀ i ∈ rs, W i
  | _ :: _, h, i, hi => by
    rcases List.mem_cons.1 hi with rfl | hi
    · exact h.1
    · exact AllOps.get h.2 i hi
/-- Whichever comes up. -/
theorem any_many {rs : List Nat} (hr : Region.ready md ops.toArray listed = rs) (hne : rs ≠ []) (h : AllOps (fun i => wpOp P ops.toArray Q i (fun a' w' => S w' ∧ wpAnyH P md ops.toArray Q S fuel (listed.setIfInBounds i true) a' w') a w) rs) : wpAnyH P md ops.toArray Q S (fuel + 1) listed a w :=
  wpAnyH_all hr hne (fun i hi => h.get i hi)
theorem any_end (hr : Region.ready md ops.toArray listed = []) (hk : Q .normal a w) : wpAnyH P md ops.toArray Q S fuel listed a w := wpAnyH_done hr hk fuel
end
end Go.Proofs.Yteghiinbafbokaa
namespace Go.Proofs.Yteghiinbafbokaa
open Go.RowKit
set_option linter.unusedVariables false
set_option linter.unusedSimpArgs false

def noWord : Value → Bool
  | .int .u32 _ => false
  | _ => true
theorem noWord_ne {v : Value} (h : noWord v = true) : ∀ n, v ≠ .int .u32 n := by
  intro n e
  subst e
  cases h
/-- Their blocks are others, where they have any. -/
def Apart (x y : Option Addr) : Prop := ∀ a b, x = some a → y = some b → a.block ≠ b.block
def Off (x : Option Addr) (g : Nat) : Prop := ∀ a, x = some a → a.block ≠ g
/-- Memory: as it was at w0, but for new blocks: those of L hold these cells; R: what is read as rows of words; O: rows of words of the call's own, written in place. -/
structure St (w0 w : World) (L : List (Nat × List Value)) (R : List (Option Addr × List Nat)) (O : List (Option Addr × Nat × List Nat)) : Prop where
  bel : Below w0.heap.size w0 w
  own : ∀ p ∈ L, w0.heap.size ≤ p.1 ∧ Blk w p.1 p.2
  dis : L.Pairwise (fun p q => p.1 ≠ q.1)
  rds : ∀ r ∈ R, Rd w r.1 r.2
  rows : ∀ o ∈ O, Own w0.heap.size w o.1 o.2.1 o.2.2
  sepO : O.Pairwise (fun p q => Apart p.1 q.1)
  sepL : ∀ o ∈ O, ∀ p ∈ L, Off o.1 p.1
  sepR : ∀ o ∈ O, ∀ r ∈ R, r.2 ≠ [] → Apart o.1 r.1
section
variable {w0 w w' : World} {L : List (Nat × List Value)} {R : List (Option Addr × List Nat)} {O : List (Option Addr × Nat × List Nat)}
theorem St.start (w : World) : St w w [] [] [] := ⟨Below.refl _ _, by simp, .nil, by simp, by simp, .nil, by simp, by simp⟩
theorem St.addR (h : St w0 w L R []) {so : Option Addr} {l : List Nat} (hr : Rd w so l) : St w0 w L ((so, l) :: R) [] :=
  ⟨h.bel, h.own, h.dis, fun r hm => by rcases List.mem_cons.1 hm with rfl | hm; exact hr; exact h.rds r hm, by simp, .nil, by simp, by simp⟩
theorem St.addRO (h : St w0 w L R O) {so : Option Addr} {l : List Nat} (hr : Rd w so l) (hs : ∀ o ∈ O, Apart o.1 so) : St w0 w L ((so, l) :: R) O :=
  ⟨h.bel, h.own, h.dis, fun r hm => by rcases List.mem_cons.1 hm with rfl | hm; exact hr; exact h.rds r hm, h.rows, h.sepO, h.sepL, fun o ho r hm hne => by rcases List.mem_cons.1 hm with rfl | hm; exact hs o ho; exact h.sepR o ho r hm hne⟩
/-- What a call has made new lies apart from what was there. -/
theorem St.fresh (h : St w0 w L R O) {so : Option Addr} {c : Nat} {l : List Nat} (ho : Own w.heap.size w' so c l) : ∀ o ∈ O, Apart o.1 so := fun o hm a b ha hb => by
  have h1 := ((h.rows o hm).lt a ha).2
  have h2 := (ho.lt b hb).1
  omega
theorem St.rd (h : St w0 w L R O) (k : Nat) {so : Option Addr} {l : List Nat} (hk : R[k]? = some (so, l)) : Rd w so l := h.rds _ (List.mem_of_getElem? hk)
theorem St.row (h : St w0 w L R O) (k : Nat) {so : Option Addr} {c : Nat} {l : List Nat} (hk : O[k]? = some (so, c, l)) : Own w0.heap.size w so c l := h.rows _ (List.mem_of_getElem? hk)
theorem St.call (h : St w0 w L R O) (hb : Below w.heap.size w w') : St w0 w' L R O :=
  ⟨chain2 h.bel hb, fun p hp => ⟨(h.own p hp).1, (h.own p hp).2.below hb⟩, h.dis, fun r hr => (h.rds r hr).below hb, fun o ho => (h.rows o ho).below hb, h.sepO, h.sepL, h.sepR⟩
theorem St.drew (h : St w0 w L R O) : St w0 w.drew L R O := ⟨h.bel.drew, fun p hp => ⟨(h.own p hp).1, (h.own p hp).2.drew⟩, h.dis, fun r hr => (h.rds r hr).drew, fun o ho => (h.rows o ho).drew, h.sepO, h.sepL, h.sepR⟩
theorem St.lt (h : St w0 w L R O) : ∀ p ∈ L, p.1 < w.heap.size := fun p hp => (h.own p hp).2.lt
theorem St.new (h : St w0 w L R O) (vs : List Value) (t : TypeId) (hno : vs.all noWord = true) : St w0 (w.alloc (.cells vs.toArray t)) ((w.heap.size, vs) :: L) R O := by
  have hb : Below w.heap.size w (w.alloc (.cells vs.toArray t)) := (Below.refl _ _).alloc (Nat.le_refl _) _
  have h' := h.call hb
  refine ⟨h'.bel, fun p hp => ?_, List.pairwise_cons.2 ⟨fun q hq => Nat.ne_of_gt (h.lt q hq), h.dis⟩, h'.rds, h'.rows, h.sepO, fun o ho p hp => ?_, h.sepR⟩
  · rcases List.mem_cons.1 hp with rfl | hp
    · exact ⟨h.bel.size, Blk.new w vs t (fun v hv => noWord_ne (List.all_eq_true.1 hno v hv))⟩
    · exact h'.own p hp
  · rcases List.mem_cons.1 hp with rfl | hp
    · exact fun a ha => Nat.ne_of_lt ((h.rows o ho).lt a ha).2
    · exact h.sepL o ho p hp
/-- A new row of words. -/
theorem St.newU (h : St w0 w L R O) (l : List Nat) (t : TypeId) (hd : Dig l) : St w0 (w.alloc (.cells (U l).toArray t)) L ((some ⟨w.heap.size, 0, none⟩, l) :: R) O := by
  have hb : Below w.heap.size w (w.alloc (.cells (U l).toArray t)) := (Below.refl _ _).alloc (Nat.le_refl _) _
  refine (h.call hb).addRO ⟨hd, fun _ => ⟨w.heap.size, 0, rfl, by simp, fun j hj => ?_⟩⟩ (fun o ho a b ha hb => ?_)
  · rw [World.cell?_alloc_at _ _ _ _ rfl]
    have := U_get l j hj
    simpa using this
  · cases hb
    exact Nat.ne_of_lt ((h.rows o ho).lt a ha).2
theorem St.blk (h : St w0 w L R O) (k : Nat) {g : Nat} {vs : List Value} (hk : L[k]? = some (g, vs)) : Blk w g vs := (h.own _ (List.mem_of_getElem? hk)).2
theorem St.subL (h : St w0 w L R O) (L' : List (Nat × List Value)) (hs : L'.Sublist L) : St w0 w L' R O := ⟨h.bel, fun p hp => h.own p (hs.subset hp), h.dis.sublist hs, h.rds, h.rows, h.sepO, fun o ho p hp => h.sepL o ho p (hs.subset hp), h.sepR⟩
theorem St.subO (h : St w0 w L R O) (O' : List (Option Addr × Nat × List Nat)) (hs : O'.Sublist O) : St w0 w L R O' := ⟨h.bel, h.own, h.dis, h.rds, fun o ho => h.rows o (hs.subset ho), h.sepO.sublist hs, fun o ho => h.sepL o (hs.subset ho), fun o ho => h.sepR o (hs.subset ho)⟩
/-- The blocks in another order: 'ks' are their places. -/
theorem St.pickL (h : St w0 w L R O) (L' : List (Nat × List Value)) (ks : List Nat) (hs : ks.map (fun k => L[k]?) = L'.map some) (hn : ks.Nodup) : St w0 w L' R O := by
  have hlen : ks.length = L'.length := by have := congrArg List.length hs; simpa using this
  have at_ : ∀ i (h1 : i < L'.length), ∃ h2 : i < ks.length, L[ks[i]]? = some L'[i] := by
    intro i h1
    have h2 : i < ks.length := by omega
    refine ⟨h2, ?_⟩
    have := congrArg (fun l => l[i]?) hs
    simpa [h1, h2] using this
  have mem : ∀ p ∈ L', p ∈ L := fun p hp => by
    obtain ⟨i, hi, rfl⟩ := List.mem_iff_getElem.1 hp
    obtain ⟨_, e⟩ := at_ i hi
    exact List.mem_of_getElem? e
  refine ⟨h.bel, fun p hp => h.own p (mem p hp), ?_, h.rds, h.rows, h.sepO, fun o ho p hp => h.sepL o ho p (mem p hp), h.sepR⟩
  rw [List.pairwise_iff_getElem]
  intro i j hi hj hij
  obtain ⟨hi2, ei⟩ := at_ i hi
  obtain ⟨hj2, ej⟩ := at_ j hj
  have hne : ks[i] ≠ ks[j] := fun e => by
    have := (List.nodup_iff_pairwise_ne.1 hn)
    rw [List.pairwise_iff_getElem] at this
    exact this i j hi2 hj2 hij e
  have hp := List.pairwise_iff_getElem.1 h.dis
  obtain ⟨a1, b1⟩ := List.getElem?_eq_some_iff.1 ei
  obtain ⟨a2, b2⟩ := List.getElem?_eq_some_iff.1 ej
  rcases Nat.lt_or_gt_of_ne hne with hlt | hlt
  · have := hp _ _ a1 a2 hlt
    rw [b1, b2] at this
    exact this
  · have := hp _ _ a2 a1 hlt
    rw [b1, b2] at this
    exact fun e => this e.symm
def AllR (R : List (Option Addr × List Nat)) : List (Option Addr × List Nat) → Prop
  | [] => True
  | r :: t => (∃ k : Nat, R[k]? = some r) ∧ AllR R t
theorem AllR.mem : ∀ {R' : List (Option Addr × List Nat)}, AllR R R' → ∀ r ∈ R', r ∈ R
  | r :: t, hs, x, hx => by
    rcases List.mem_cons.1 hx with rfl | hx
    · obtain ⟨⟨k, hk⟩, _⟩ := hs
      exact List.mem_of_getElem? hk
    · exact AllR.mem hs.2 x hx
theorem St.pickR (h : St w0 w L R O) (R' : List (Option Addr × List Nat)) (hs : AllR R R') : St w0 w L R' O :=
  ⟨h.bel, h.own, h.dis, fun r hr => h.rds r (hs.mem r hr), h.rows, h.sepO, h.sepL, fun o ho r hr => h.sepR o ho r (hs.mem r hr)⟩
/-- A part of the state. -/
theorem St.part {L' : List (Nat × List Value)} {R' : List (Option Addr × List Nat)} {O' : List (Option Addr × Nat × List Nat)} (h : St w0 w L R O) (hL : L'.Sublist L) (hR : AllR R R') (hO : O'.Sublist O) : St w0 w L' R' O' := ((h.pickR R' hR).subL L' hL).subO O' hO
theorem St.cell (h : St w0 w L R O) (k : Nat) {g : Nat} {vs : List Value} (hk : L[k]? = some (g, vs)) (i : Nat) {v : Value} (hi : vs[i]? = some v) : w.cell? ⟨g, i, none⟩ = some v :=
  (h.own _ (List.mem_of_getElem? hk)).2.cell i v hi
theorem pairwise_set {L : List (Nat × List Value)} (h : L.Pairwise (fun p q => p.1 ≠ q.1)) {k g : Nat} {vs us : List Value} (hk : L[k]? = some (g, vs)) : (L.set k (g, us)).Pairwise (fun p q => p.1 ≠ q.1) := by
  have e : (L.set k (g, us)).map Prod.fst = L.map Prod.fst := by
    rw [List.map_set]
    apply List.ext_getElem?
    intro i
    by_cases hi : k = i
    · subst hi
      have hlt : k < (L.map Prod.fst).length := by simpa using (List.getElem?_eq_some_iff.1 hk).1
      rw [List.getElem?_set_self hlt]
      simp [hk]
    · rw [List.getElem?_set_ne hi]
  have h1 : (L.map Prod.fst).Pairwise (· ≠ ·) := List.pairwise_map.2 h
  rw [← e] at h1
  exact List.pairwise_map.1 h1
theorem other_of {L : List (Nat × List Value)} (h : L.Pairwise (fun p q => p.1 ≠ q.1)) {k g : Nat} {vs us : List Value} (hk : L[k]? = some (g, vs)) {p : Nat × List Value} (hp : p ∈ L.set k (g, us)) : p = (g, us) ∨ (p ∈ L ∧ g ≠ p.1) := by
  obtain ⟨i, hi⟩ := List.mem_iff_getElem?.1 hp
  by_cases e : k = i
  · subst e
    have hlt : k < L.length := (List.getElem?_eq_some_iff.1 hk).1
    rw [List.getElem?_set_self hlt] at hi
    exact .inl (Option.some.inj hi).symm
  · rw [List.getElem?_set_ne e] at hi
    refine .inr ⟨List.mem_of_getElem? hi, ?_⟩
    have h1 := List.pairwise_iff_getElem.1 h
    obtain ⟨hk1, hk2⟩ := List.getElem?_eq_some_iff.1 hk
    obtain ⟨hi1, hi2⟩ := List.getElem?_eq_some_iff.1 hi
    rcases Nat.lt_or_gt_of_ne e with hlt | hlt
    · have := h1 k i hk1 hi1 hlt
      rw [hk2, hi2] at this
      exact this
    · have := h1 i k hi1 hk1 hlt
      rw [hk2, hi2] at this
      exact fun e => this e.symm
theorem grown_set (w : World) (g i : Nat) (v : Value) : w.grownBy (w.setCell ⟨g, i, none⟩ v) (some g) :=
  ⟨rfl, rfl, rfl, by simp, fun k hk hne => Below.heap_setCell w ⟨g, i, none⟩ v k (fun e => hne (by rw [e]))⟩
theorem St.set (h : St w0 w L R O) (k : Nat) {g : Nat} {vs : List Value} (hk : L[k]? = some (g, vs)) (i : Nat) (hi : i < vs.length) (v : Value) (hv : noWord v = true) : St w0 (w.setCell ⟨g, i, none⟩ v) (L.set k (g, vs.set i v)) R O := by
  have hm := List.mem_of_getElem? hk
  have ho := h.own _ hm
  refine ⟨h.bel.setCell (p := ⟨g, i, none⟩) ho.1 v, fun p hp => ?_, pairwise_set h.dis hk, fun r hr => ho.2.rd (h.rds r hr) i v hi, fun o hO => (h.rows o hO).kept (grown_set w g i v) (fun a ha e => h.sepL o hO _ hm a ha (by simpa using e)), h.sepO, fun o hO p hp => ?_, h.sepR⟩
  · rcases other_of h.dis hk hp with rfl | ⟨hp, hne⟩
    · exact ⟨ho.1, ho.2.set i v hi (noWord_ne hv)⟩
    · exact ⟨(h.own p hp).1, (h.own p hp).2.far hne i v⟩
  · rcases other_of h.dis hk hp with rfl | ⟨hp, hne⟩
    · exact (show Off o.1 g from h.sepL o hO _ hm)
    · exact h.sepL o hO p hp
def over : List Value → Nat → List Value → List Value
  | vs, _, [] => vs
  | vs, o, c :: cs => over (vs.set o c) (o + 1) cs
theorem St.sets {g : Nat} : ∀ (cs : List Value) (w : World) (L : List (Nat × List Value)) (vs : List Value) (o : Nat), St w0 w L R O → ∀ k, L[k]? = some (g, vs) → o + cs.length ≤ vs.length → cs.all noWord = true → St w0 (w.setCells g o cs) (L.set k (g, over vs o cs)) R O
  | [], w, L, vs, o, h, k, hk, _, _ => by
    have : L.set k (g, over vs o []) = L := by
      apply List.ext_getElem?
      intro i
      by_cases hi : k = i
      · subst hi
        rw [List.getElem?_set_self (List.getElem?_eq_some_iff.1 hk).1, hk]
        rfl
      · rw [List.getElem?_set_ne hi]
    rw [this]
    exact h
  | c :: cs, w, L, vs, o, h, k, hk, hl, hc => by
    simp only [List.all_cons, Bool.and_eq_true] at hc
    simp only [List.length_cons] at hl
    have h1 := h.set k hk o (by omega) c hc.1
    have hk1 : (L.set k (g, vs.set o c))[k]? = some (g, vs.set o c) := List.getElem?_set_self (List.getElem?_eq_some_iff.1 hk).1
    have h2 := St.sets cs _ _ (vs.set o c) (o + 1) h1 k hk1 (by rw [List.length_set]; omega) hc.2
    rw [List.set_set] at h2
    exact h2
/-! Rows of the call's own. -/
theorem Blk.grown {g : Nat} {vs : List Value} (h : Blk w g vs) {row : Option Nat} (hg : w.grownBy w' row) (hne : some g ≠ row) : Blk w' g vs := by
  have e := hg.block g h.lt hne
  exact ⟨Nat.lt_of_lt_of_le h.lt hg.size, fun i v hv => (World.cell?_of_block (w := w) (a := ⟨g, i, none⟩) e).trans (h.cell i v hv), fun i => (World.frozen?_of_block (w := w) (a := ⟨g, i, none⟩) e).trans (h.froz i), h.no⟩
theorem othersO {k : Nat} {o u p : Option Addr × Nat × List Nat} (h : O.Pairwise (fun p q => Apart p.1 q.1)) (hk : O[k]? = some o) (hp : p ∈ O.set k u) : p = u ∨ (p ∈ O ∧ Apart o.1 p.1) := by
  obtain ⟨i, hi⟩ := List.mem_iff_getElem?.1 hp
  by_cases e : k = i
  · subst e
    rw [List.getElem?_set_self (List.getElem?_eq_some_iff.1 hk).1] at hi
    exact .inl (Option.some.inj hi).symm
  · rw [List.getElem?_set_ne e] at hi
    refine .inr ⟨List.mem_of_getElem? hi, ?_⟩
    have h1 := List.pairwise_iff_getElem.1 h
    obtain ⟨hk1, hk2⟩ := List.getElem?_eq_some_iff.1 hk
    obtain ⟨hi1, hi2⟩ := List.getElem?_eq_some_iff.1 hi
    rcases Nat.lt_or_gt_of_ne e with hlt | hlt
    · have := h1 k i hk1 hi1 hlt
      rw [hk2, hi2] at this
      exact this
    · have := h1 i k hi1 hk1 hlt
      rw [hk2, hi2] at this
      exact fun a b ha hb e => this b a hb ha e.symm
/-- One row is changed, or lies anew in a block that is made now; all else stays. -/
theorem St.turn (h : St w0 w L R O) (k : Nat) {ao : Option Addr} {c : Nat} {l : List Nat} (hk : O[k]? = some (ao, c, l)) {bo : Option Addr} {c' : Nat} {l' : List Nat} (hg : w.grownBy w' (Value.slice ao l.length c).ownBlock) (ho : Own w0.heap.size w' bo c' l') (hat : ∀ b, bo = some b → (∃ a, ao = some a ∧ a.block = b.block) ∨ b.block = w.heap.size) :
    St w0 w' L R (O.set k (bo, c', l')) := by
  have hm := List.mem_of_getElem? hk
  have hrow := h.rows _ hm
  have blk : ∀ a, ao = some a → (Value.slice ao l.length c).ownBlock = some a.block := fun a ha => by rw [ha]; rfl
  have far : ∀ g, Off ao g → some g ≠ (Value.slice ao l.length c).ownBlock := fun g hg e => by
    cases hao : ao with
    | none => rw [hao] at e; simp [Value.ownBlock] at e
    | some a => rw [blk a hao] at e; exact hg a hao (by simpa using e.symm)
  -- what lies off the old row and is there lies off the new one
  have off : ∀ g, Off ao g → g < w.heap.size → Off bo g := fun g hg hlt b hb e => by
    rcases hat b hb with ⟨a, ha, e1⟩ | e1
    · exact hg a ha (e1.trans e)
    · omega
  refine ⟨h.bel.grown hg h.bel.size (fun j hj => ?_), fun p hp => ⟨(h.own p hp).1, (h.own p hp).2.grown hg (far _ (h.sepL _ hm p hp))⟩, h.dis, fun r hr => ?_, fun o hO => ?_, ?_, fun o hO p hp => ?_, fun o hO r hr hne => ?_⟩
  · cases hao : ao with
    | none => rw [hao] at hj; simp [Value.ownBlock] at hj
    | some a => rw [blk a hao] at hj; cases hj; exact (hrow.lt a hao).1
  · by_cases hne : r.2 = []
    · rw [hne]; exact Rd.nil _ _
    · exact (h.rds r hr).grown hg (fun a ha => far _ (fun x hx e => h.sepR _ hm r hr hne x a hx ha e))
  · rcases othersO h.sepO hk hO with rfl | ⟨hO, hap⟩
    · exact ho
    · exact (h.rows o hO).kept hg (fun a ha => far _ (fun x hx e => hap x a hx ha e))
  · have key : ∀ o ∈ O, Apart ao o.1 → Apart bo o.1 := fun o hO hap b x hb hx e => off x.block (fun y hy ey => hap y x hy hx ey) ((h.rows o hO).lt x hx).2 b hb e
    rw [List.pairwise_iff_getElem]
    intro i j hi hj hij
    have hi' : i < O.length := by simpa using hi
    have hj' : j < O.length := by simpa using hj
    have h1 := List.pairwise_iff_getElem.1 h.sepO
    obtain ⟨hk1, hk2⟩ := List.getElem?_eq_some_iff.1 hk
    rw [List.getElem_set, List.getElem_set]
    by_cases e1 : k = i
    · subst e1
      rw [if_pos rfl, if_neg (by omega)]
      have := h1 k j hi' hj' hij
      rw [hk2] at this
      exact key _ (List.getElem_mem hj') this
    · rw [if_neg e1]
      by_cases e2 : k = j
      · subst e2
        rw [if_pos rfl]
        have := h1 i k hi' hj' hij
        rw [hk2] at this
        exact fun x b hx hb e => key _ (List.getElem_mem hi') (fun p q hp hq e => this q p hq hp e.symm) b x hb hx e.symm
      · rw [if_neg e2]
        exact h1 i j hi' hj' hij
  · rcases othersO h.sepO hk hO with rfl | ⟨hO, _⟩
    · exact off _ (h.sepL _ hm p hp) (h.lt p hp)
    · exact h.sepL o hO p hp
  · rcases othersO h.sepO hk hO with rfl | ⟨hO, _⟩
    · intro b x hb hx e
      obtain ⟨bb, of_, e1, hlt, _⟩ := (h.rds r hr).pos hne
      rw [e1] at hx
      cases hx
      exact off bb (fun y hy ey => h.sepR _ hm r hr hne y ⟨bb, of_, none⟩ hy e1 ey) hlt b hb e
    · exact h.sepR o hO r hr hne
theorem St.setRow (h : St w0 w L R O) (k : Nat) {g c : Nat} {l : List Nat} (hk : O[k]? = some (some ⟨g, 0, none⟩, c, l)) (j d : Nat) (hd : d < 4294967296) : St w0 (w.setCell ⟨g, j, none⟩ (.int .u32 ((d : Nat) : Int))) L R (O.set k (some ⟨g, 0, none⟩, c, l.set j d)) :=
  h.turn k hk (by exact grown_set w g j _) ((h.row k hk).set j d hd) (fun b hb => by cases hb; exact .inl ⟨_, rfl, rfl⟩)
/-- A new row is the call's own. -/
theorem St.newO (h : St w0 w L R O) (hb : Below w.heap.size w w') {bo : Option Addr} {c : Nat} {l : List Nat} (ho : Own w.heap.size w' bo c l) : St w0 w' L R ((bo, c, l) :: O) := by
  have h' := h.call hb
  refine ⟨h'.bel, h'.own, h.dis, h'.rds, fun o hO => ?_, List.pairwise_cons.2 ⟨fun o hO a b ha hb => (h.fresh ho o hO b a hb ha).symm, h.sepO⟩, fun o hO p hp => ?_, fun o hO r hr hne => ?_⟩
  · rcases List.mem_cons.1 hO with rfl | hO
    · exact ho.lower h.bel.size
    · exact h'.rows o hO
  · rcases List.mem_cons.1 hO with rfl | hO
    · exact fun a ha e => by have := (ho.lt a ha).1; have := h.lt p hp; omega
    · exact h.sepL o hO p hp
  · rcases List.mem_cons.1 hO with rfl | hO
    · intro a b ha hb e
      obtain ⟨bb, of_, e1, hlt, _⟩ := (h.rds r hr).pos hne
      rw [e1] at hb
      cases hb
      have := (ho.lt a ha).1
      have e : a.block = bb := e
      omega
    · exact h.sepR o hO r hr hne
/-- A row is said anew, in the same world. -/
theorem St.retake (h : St w0 w L R O) (k : Nat) {ao : Option Addr} {c : Nat} {l l' : List Nat} (hk : O[k]? = some (ao, c, l)) (ho : Own w0.heap.size w ao c l') : St w0 w L R (O.set k (ao, c, l')) :=
  h.turn k hk ⟨rfl, rfl, rfl, Nat.le_refl _, fun _ _ _ => rfl⟩ ho (fun b hb => .inl ⟨b, hb, rfl⟩)
/-- The first row is cut short. -/
theorem St.cutRow (h : St w0 w L R O) (k : Nat) {g c : Nat} {l : List Nat} (hk : O[k]? = some (some ⟨g, 0, none⟩, c, l)) (n : Nat) (hn : n ≤ l.length) : St w0 w L R (O.set k (some ⟨g, 0, none⟩, c, l.take n)) :=
  h.turn k hk ⟨rfl, rfl, rfl, Nat.le_refl _, fun _ _ _ => rfl⟩ ((h.row k hk).cut n hn) (fun b hb => by cases hb; exact .inl ⟨_, rfl, rfl⟩)

/-! ### The types -/
/-- A struct type of n cells. -/
structure IsS (P : Program) (t : TypeId) (n : Nat) : Prop where
  und : ∃ fs, P.underlying t = some (.struct fs)
  size : (P.info? t).map (·.size) = some n
theorem info_size {P : Program} {t : TypeId} {n : Nat} (h : (P.info? t).map (·.size) = some n) : ∃ i, P.info? t = some i ∧ i.size = n := by
  cases hi : P.info? t with
  | none => rw [hi] at h; cases h
  | some i => rw [hi] at h; exact ⟨i, rfl, by simpa using h⟩
/-- A type of one cell. -/
structure Is1 (P : Program) (t : TypeId) : Prop where
  und : ∃ d, P.underlying t = some d ∧ (match d with | .struct _ | .array _ _ => false | _ => true) = true
  size : (P.info? t).map (·.size) = some 1
/-- Field f of a struct type lies at this cell. -/
def FieldAt (P : Program) (s : TypeId) (f off : Nat) : Prop := ∃ fs fld, P.underlying s = some (.struct fs) ∧ fs[f]? = some fld ∧ fld.offset = off ∧ (P.info? fld.type).map (fun i => Nat.beq i.size 0) = some false

variable {P : Program}
theorem addr_add (g o j : Nat) : (⟨g, o, none⟩ : Addr).add j = ⟨g, o + j, none⟩ := by unfold Addr.add; split <;> simp_all
theorem run_loadS {t : TypeId} {n : Nat} (ht : IsS P t n) {g o : Nat} (cs : List Value) (hl : cs.length = n) (hc : ∀ j v, cs[j]? = some v → w.cell? ⟨g, o + j, none⟩ = some v) : (loadVar t ⟨g, o, none⟩).run P w = .ok (.agg cs.toArray) w := by
  obtain ⟨fs, hu⟩ := ht.und
  obtain ⟨i, hi, hn⟩ := info_size ht.size
  have h1 : (isAgg t).run P w = .ok true w := by simp [isAgg, run_underlying hu]
  have h2 : (sizeOf t).run P w = .ok cs.length w := by simp [sizeOf, typeInfo, hi, hn, hl]
  have h3 := run_loadCells_list (P := P) w ⟨g, o, none⟩ cs (fun j v hj => by rw [addr_add]; exact hc j v hj)
  simp only [loadVar, Sem.run_bind, h1, Result.andThen_ok, if_true, h2, h3, Sem.run_pure]
theorem run_load1 {t : TypeId} (ht : Is1 P t) {a : Addr} {v : Value} (hc : w.cell? a = some v) : (loadVar t a).run P w = .ok v w := by
  obtain ⟨d, hu, hd⟩ := ht.und
  have h1 : (isAgg t).run P w = .ok false w := by
    cases d <;> first | (simp at hd; done) | simp [isAgg, run_underlying hu]
  simp only [loadVar, Sem.run_bind, h1, Result.andThen_ok, if_false, Bool.false_eq_true]
  simp [hc]

variable {l : List (Nat × Value)} {dst : Option Tmp} {ty : TypeId} {pos : String} {after : Array Edge} {guard : Option (Nat × Bool)} {v : Value}
theorem does_move {x : Operand} (hx : ev l x = some v) : Does P l ⟨dst, .move x, ty, pos, after, guard⟩ w v w := fun ρ h => by
  simp only [execOp, h x v hx]; rfl
theorem does_assign {x : Operand} (hx : ev l x = some v) : Does P l ⟨dst, .assign x, ty, pos, after, guard⟩ w v w := fun ρ h => by
  simp only [execOp, h x v hx]; rfl
theorem does_pick {c x y : Operand} {b : Bool} {u u' : Value} (hc : ev l c = some (.bool b)) (hx : ev l x = some u) (hy : ev l y = some u') (hv : v = cond b u u') : Does P l ⟨dst, .pick c x y, ty, pos, after, guard⟩ w v w := fun ρ h => by
  subst hv
  simp only [execOp, h c _ hc, h x _ hx, h y _ hy]
  cases b <;> rfl
theorem does_extract {x : Operand} {vs : List Value} {i : Nat} (hx : ev l x = some (.tuple vs.toArray)) (hi : vs[i]? = some v) : Does P l ⟨dst, .extract x i, ty, pos, after, guard⟩ w v w := fun ρ h => by
  simp only [execOp, h x _ hx, Instr.extract, List.getElem?_toArray, hi]; rfl
theorem does_load {t : TypeId} {x : Operand} {a : Addr} (hx : ev l x = some (.pointer (some a))) (hr : (loadVar t a).run P w = .ok v w) : Does P l ⟨dst, .load t x, ty, pos, after, guard⟩ w v w := fun ρ h => by
  simp only [execOp, h x _ hx, Instr.loadAt, Instr.sureAddr, Sem.run_bind, Sem.run_pure, Result.andThen_ok, hr]
/-- A struct out of a block of the call's own. -/
theorem does_loadS (hS : St w0 w L R O) {t : TypeId} {n : Nat} (ht : IsS P t n) {x : Operand} {g o : Nat} (hx : ev l x = some (.pointer (some ⟨g, o, none⟩))) (k : Nat) {vs cs : List Value} (hk : L[k]? = some (g, vs)) (hcs : (vs.drop o).take n = cs) (hl : cs.length = n) :
    Does P l ⟨dst, .load t x, ty, pos, after, guard⟩ w (.agg cs.toArray) w :=
  does_load hx (run_loadS ht cs hl (fun j v hj => hS.cell k hk (o + j) (by
    have hjn : j < n := by rw [← hl]; exact (List.getElem?_eq_some_iff.1 hj).1
    rw [← hcs, List.getElem?_take, if_pos hjn, List.getElem?_drop] at hj
    exact hj)))
theorem does_load1 (hS : St w0 w L R O) {t : TypeId} (ht : Is1 P t) {x : Operand} {g o : Nat} (hx : ev l x = some (.pointer (some ⟨g, o, none⟩))) (k : Nat) {vs : List Value} (hk : L[k]? = some (g, vs)) (hv : vs[o]? = some v) :
    Does P l ⟨dst, .load t x, ty, pos, after, guard⟩ w v w := does_load hx (run_load1 ht (hS.cell k hk o hv))
/-- .. out of a block that was there before the call. -/
theorem does_loadSF (hS : St w0 w L R O) {g : Nat} {vs : List Value} (hF : Blk w0 g vs) {t : TypeId} {n : Nat} (ht : IsS P t n) {x : Operand} {o : Nat} (hx : ev l x = some (.pointer (some ⟨g, o, none⟩))) {cs : List Value} (hcs : (vs.drop o).take n = cs) (hl : cs.length = n) :
    Does P l ⟨dst, .load t x, ty, pos, after, guard⟩ w (.agg cs.toArray) w :=
  does_load hx (run_loadS ht cs hl (fun j v hj => (hF.below hS.bel).cell (o + j) v (by
    have hjn : j < n := by rw [← hl]; exact (List.getElem?_eq_some_iff.1 hj).1
    rw [← hcs, List.getElem?_take, if_pos hjn, List.getElem?_drop] at hj
    exact hj)))
theorem does_load1F (hS : St w0 w L R O) {g : Nat} {vs : List Value} (hF : Blk w0 g vs) {t : TypeId} (ht : Is1 P t) {x : Operand} {o : Nat} (hx : ev l x = some (.pointer (some ⟨g, o, none⟩))) (hv : vs[o]? = some v) :
    Does P l ⟨dst, .load t x, ty, pos, after, guard⟩ w v w := does_load hx (run_load1 ht ((hF.below hS.bel).cell o v hv))
theorem Rd.addr {so : Option Addr} {l : List Nat} {i : Nat} (h : Rd w so l) (hi : i < l.length) : ∃ b off, so = some ⟨b, off, none⟩ := by
  obtain ⟨b, off, h1, _⟩ := h.pos (fun e => by rw [e] at hi; simp at hi)
  exact ⟨b, off, h1⟩
theorem Rd.at_ {so : Option Addr} {l : List Nat} {i b off : Nat} (h : Rd w so l) (hso : so = some ⟨b, off, none⟩) (hi : i < l.length) : w.cell? ⟨b, off + i, none⟩ = some (.int .u32 ((l.getD i 0 : Nat) : Int)) := by
  obtain ⟨b', off', h1, _, h3⟩ := h.pos (fun e => by rw [e] at hi; simp at hi)
  rw [hso] at h1
  cases h1
  exact h3 i hi
theorem does_loadRow {so : Option Addr} {us : List Nat} {i b off : Nat} (h : Rd w so us) (hso : so = some ⟨b, off, none⟩) (hi : i < us.length) {t : TypeId} (ht : Is1 P t) {x : Operand} (hx : ev l x = some (.pointer (some ⟨b, off + i, none⟩))) :
    Does P l ⟨dst, .load t x, ty, pos, after, guard⟩ w (.int .u32 ((us.getD i 0 : Nat) : Int)) w := does_load hx (run_load1 ht (h.at_ hso hi))
theorem does_field {s : TypeId} {x : Operand} {f g o off o' : Nat} (hf : FieldAt P s f off) (hx : ev l x = some (.pointer (some ⟨g, o, none⟩))) (ho : o + off = o') : Does P l ⟨dst, .fieldAddr s x f, ty, pos, after, guard⟩ w (.pointer (some ⟨g, o', none⟩)) w := fun ρ h => by
  obtain ⟨fs, fld, hu, hff, hoff, hm⟩ := hf
  obtain ⟨i, hi, hz⟩ : ∃ i, P.info? fld.type = some i ∧ i.size ≠ 0 := by
    cases hi : P.info? fld.type with
    | none => rw [hi] at hm; cases hm
    | some i =>
      rw [hi] at hm
      refine ⟨i, rfl, fun e => ?_⟩
      simp [e] at hm
  subst ho
  have h2 : (sizeOf fld.type).run P w = .ok i.size w := by simp [sizeOf, typeInfo, hi]
  simp only [execOp, h x _ hx, Instr.fieldAt, Sem.run_bind, run_underlying hu, Result.andThen_ok, hff, Instr.sureAddr, Sem.run_pure, fieldPlace, h2, if_neg hz, addr_add, hoff]
theorem does_box {t : TypeId} {x : Operand} {u : Value} (hx : ev l x = some u) {vs : List Value} (hc : u.cells = vs.toArray) : Does P l ⟨dst, .box t x, ty, pos, after, guard⟩ w (.pointer (some ⟨w.heap.size, 0, none⟩)) (w.alloc (.cells vs.toArray t)) := fun ρ h => by
  simp only [execOp, h x _ hx, ← hc]; rfl
theorem does_alloc {t : TypeId} {z : Value} (hz : (P.info? t).map (·.zero) = some (some z)) {vs : List Value} (hc : z.cells = vs.toArray) : Does P l ⟨dst, .alloc t, ty, pos, after, guard⟩ w (.pointer (some ⟨w.heap.size, 0, none⟩)) (w.alloc (.cells vs.toArray t)) := fun ρ h => by
  cases hi : P.info? t with
  | none => rw [hi] at hz; cases hz
  | some i =>
    rw [hi] at hz
    simp only [Option.map_some, Option.some.injEq] at hz
    have h1 : (zeroValue t).run P w = .ok z w := by simp [zeroValue, typeInfo, hi, hz]
    simp only [execOp, Instr.alloc, Sem.run_bind, h1, Result.andThen_ok, ← hc]
    rfl
theorem does_build {t : TypeId} {parts : List (Nat × Operand)} {pv : List (Nat × Value)} (hp : evp l parts = some pv) (hb : ∀ w, (Instr.build t pv.toArray).run P w = .ok v w) : Does P l ⟨dst, .build t parts.toArray, ty, pos, after, guard⟩ w v w := fun ρ h => by
  have e : parts.toArray.map (fun p => (p.1, ρ p.2)) = pv.toArray := by
    simp only [List.map_toArray]
    congr 1
    have : ∀ (xs : List (Nat × Operand)) (vs : List (Nat × Value)), evp l xs = some vs → xs.map (fun p => (p.1, ρ p.2)) = vs := by
      intro xs
      induction xs with
      | nil => intro vs hx; simp [evp] at hx; simp [hx]
      | cons x xs ih =>
        intro vs hx
        obtain ⟨i, x⟩ := x
        unfold evp at hx
        split at hx
        · rename_i v us h1 h2
          cases hx
          simp [h _ _ h1, ih _ h2]
        · cases hx
    exact this parts pv hp
  have e' : (parts.toArray.map fun (i, x) => (i, ρ x)) = pv.toArray := e
  simp only [execOp, e', Sem.run_bind, hb w, Result.andThen_ok, Sem.run_pure]
theorem does_buildSlice {t : TypeId} {n : Nat} {parts : List (Nat × Operand)} {pv : List (Nat × Value)} (hp : evp l parts = some pv) {w' : World} (hb : (Instr.buildSlice t n pv.toArray).run P w = .ok v w') : Does P l ⟨dst, .buildSlice t n parts.toArray, ty, pos, after, guard⟩ w v w' := fun ρ h => by
  have e : parts.toArray.map (fun p => (p.1, ρ p.2)) = pv.toArray := by
    simp only [List.map_toArray]
    congr 1
    have : ∀ (xs : List (Nat × Operand)) (vs : List (Nat × Value)), evp l xs = some vs → xs.map (fun p => (p.1, ρ p.2)) = vs := by
      intro xs
      induction xs with
      | nil => intro vs hx; simp [evp] at hx; simp [hx]
      | cons x xs ih =>
        intro vs hx
        obtain ⟨i, x⟩ := x
        unfold evp at hx
        split at hx
        · rename_i v us h1 h2
          cases hx
          simp [h _ _ h1, ih _ h2]
        · cases hx
    exact this parts pv hp
  have e' : (parts.toArray.map fun (i, x) => (i, ρ x)) = pv.toArray := e
  simp only [execOp, e', Sem.run_bind, hb, Result.andThen_ok, Sem.run_pure]
theorem does_len {x : Operand} {t e : TypeId} {so : Option Addr} {n c : Nat} (hu : P.underlying t = some (.slice e)) (hx : ev l x = some (.slice so n c)) : Does P l ⟨dst, .call ⟨.builtin .len, #[x], #[t]⟩, ty, pos, after, guard⟩ w (.int .i64 n) w := fun ρ h => by
  have := h x _ hx
  simp [go_sem, this, Builtin.len_, run_underlying hu, goInt]
theorem does_bin {b : BinOp} {t t' : TypeId} {x y : Operand} {u u' : Value} (hx : ev l x = some u) (hy : ev l y = some u') (hr : ∀ w, (do eqGuard b t x y u u'; binOp b t u u' : Sem Value).run P w = .ok v w) : Does P l ⟨dst, .binOp b t x y t', ty, pos, after, guard⟩ w v w := fun ρ h => by
  simp only [execOp, h x _ hx, h y _ hy]
  rw [Sem.run_bind, hr w]
  rfl
theorem does_un {b : UnOp} {t : TypeId} {x : Operand} {u : Value} (hx : ev l x = some u) (hr : ∀ w, (Op.unary b u).run P w = .ok v w) : Does P l ⟨dst, .unOp b t x, ty, pos, after, guard⟩ w v w := fun ρ h => by
  simp only [execOp, h x _ hx, Sem.run_bind, hr w, Result.andThen_ok, Sem.run_pure]
theorem sets_store {t : TypeId} {x y : Operand} {g o : Nat} {u : Value} {cs : List Value} (hx : ev l x = some (.pointer (some ⟨g, o, none⟩))) (hy : ev l y = some u) (hc : u.cells = cs.toArray) (hn : (P.info? t).map (·.size) = some cs.length)
    (hS : St w0 w L R O) (k : Nat) {vs : List Value} (hk : L[k]? = some (g, vs)) (hl : Nat.ble (o + cs.length) vs.length = true) (h1 : cs.all Value.oneCell' = true) : Sets P l ⟨dst, .store t x y, ty, pos, after, guard⟩ w (w.setCells g o cs) := fun ρ h => by
  obtain ⟨i, hi, hsz⟩ := info_size hn
  have hl' : o + cs.length ≤ vs.length := Nat.le_of_ble_eq_true hl
  have hb := (hS.own _ (List.mem_of_getElem? hk)).2
  have h2 : (sizeOf t).run P w = .ok cs.length w := by simp [sizeOf, typeInfo, hi, hsz]
  have h3 := run_storeCells_cells (P := P) g o cs 0 w (fun j hj => by
      have hlt : o + 0 + j < vs.length := by omega
      rw [hb.cell (o + 0 + j) vs[o + 0 + j] (List.getElem?_eq_getElem hlt)]; rfl) (fun j hj => hb.froz _) (fun v hv => List.all_eq_true.1 h1 v hv)
  rw [Nat.add_zero] at h3
  have h4 : u.cells.toList = cs := by rw [hc]
  simp only [execOp, h x _ hx, h y _ hy, Instr.storeAt, Instr.sureAddr, Sem.run_bind, Sem.run_pure, Result.andThen_ok, storeVar, h2, hc, List.size_toArray, ne_eq, not_true_eq_false, if_false, List.toList_toArray, h3]
theorem enters_func {x : Operand} {f : FuncId} {args : List Operand} {ts : Array TypeId} {vs : List Value} (hx : ev l x = some (.func (.func f) #[] #[])) (ha : evs l args = some vs) (hf : ∀ w, (invoke (.fn (.func f) #[]) vs.toArray).run P w = .ok (.enter f vs.toArray) w) :
    Enters P l ⟨dst, .call ⟨.value x, args.toArray, ts⟩, ty, pos, after, guard⟩ w f vs := fun ρ h => by
  have e : args.map ρ = vs := by
    have : ∀ (xs : List Operand) (vs : List Value), evs l xs = some vs → xs.map ρ = vs := by
      intro xs
      induction xs with
      | nil => intro vs hx; simp [evs] at hx; simp [hx]
      | cons x xs ih =>
        intro vs hx
        unfold evs at hx
        split at hx
        · rename_i v us h1 h2
          cases hx
          simp [h _ _ h1, ih _ h2]
        · cases hx
    exact this args vs ha
  have := hf w
  simp [execOp, resolve, h x _ hx, Deferred.ofValue, e, this]

/-! ### Steps that make or change memory, the world behind them a letter -/
section
variable {ops : List Oper} {Q : Exit → Act → World → Prop} {a : Act} {n : Nat} {o : Oper} {rest : List Oper} {d : Nat}
theorem seq_new (hA : Sl a n l) (hS : St w0 w L R O) (hg : passes l ops o = true) (hdst : o.dst = some d) (hd : Nat.blt d n = true) {vs : List Value} {t : TypeId} (val : Nat → Value) (he : Does P l o w (val w.heap.size) (w.alloc (.cells vs.toArray t))) (hno : vs.all noWord = true)
    (hk : ∀ g w', St w0 w' ((g, vs) :: L) R O → ∀ a', Sl a' n ((d, val g) :: l) → wpList P ops.toArray Q rest a' w') : wpList P ops.toArray Q (o :: rest) a w :=
  seq_do hA hg hdst hd he (hk _ _ (hS.new vs t hno))
theorem seq_newU (hA : Sl a n l) (hS : St w0 w L R O) (hg : passes l ops o = true) (hdst : o.dst = some d) (hd : Nat.blt d n = true) {us : List Nat} {t : TypeId} {m : Nat} (he : Does P l o w (.slice (some ⟨w.heap.size, 0, none⟩) m m) (w.alloc (.cells (U us).toArray t))) (hu : Dig us)
    (hk : ∀ g w', St w0 w' L ((some ⟨g, 0, none⟩, us) :: R) O → ∀ a', Sl a' n ((d, .slice (some ⟨g, 0, none⟩) m m) :: l) → wpList P ops.toArray Q rest a' w') : wpList P ops.toArray Q (o :: rest) a w :=
  seq_do hA hg hdst hd he (hk _ _ (hS.newU us t hu))
theorem seq_store (hA : Sl a n l) (hS : St w0 w L R O) (hg : passes l ops o = true) (hdst : o.dst = none) {g q : Nat} {cs vs us : List Value} (he : Sets P l o w (w.setCells g q cs)) (k : Nat) (hk0 : L[k]? = some (g, vs)) (hl : Nat.ble (q + cs.length) vs.length = true) (hno : cs.all noWord = true) (hus : over vs q cs = us)
    (hk : ∀ w', St w0 w' (L.set k (g, us)) R O → wpList P ops.toArray Q rest a w') : wpList P ops.toArray Q (o :: rest) a w :=
  seq_set hA hg hdst he (hk _ (by subst hus; exact St.sets cs w L vs q hS k hk0 (Nat.le_of_ble_eq_true hl) hno))
variable {S : World → Prop} {md : Region.Mode} {fuel : Nat} {listed : Array Bool}
theorem op_new (hA : Sl a n l) (hS : St w0 w L R O) (i : Nat) (hi : ops[i]? = some o) (hg : passes l ops o = true) (hdst : o.dst = some d) (hd : Nat.blt d n = true) {vs : List Value} {t : TypeId} (val : Nat → Value) (he : Does P l o w (val w.heap.size) (w.alloc (.cells vs.toArray t))) (hno : vs.all noWord = true)
    (hk : ∀ g w', St w0 w' ((g, vs) :: L) R O → S w' ∧ ∀ a', Sl a' n ((d, val g) :: l) → wpAnyH P md ops.toArray Q S fuel (listed.setIfInBounds i true) a' w') : wpOp P ops.toArray Q i (fun a' w' => S w' ∧ wpAnyH P md ops.toArray Q S fuel (listed.setIfInBounds i true) a' w') a w :=
  op_do hA i hi hg hdst hd he (hk _ _ (hS.new vs t hno)).1 (hk _ _ (hS.new vs t hno)).2
theorem op_newU (hA : Sl a n l) (hS : St w0 w L R O) (i : Nat) (hi : ops[i]? = some o) (hg : passes l ops o = true) (hdst : o.dst = some d) (hd : Nat.blt d n = true) {us : List Nat} {t : TypeId} {m : Nat} (he : Does P l o w (.slice (some ⟨w.heap.size, 0, none⟩) m m) (w.alloc (.cells (U us).toArray t))) (hu : Dig us)
    (hk : ∀ g w', St w0 w' L ((some ⟨g, 0, none⟩, us) :: R) O → S w' ∧ ∀ a', Sl a' n ((d, .slice (some ⟨g, 0, none⟩) m m) :: l) → wpAnyH P md ops.toArray Q S fuel (listed.setIfInBounds i true) a' w') : wpOp P ops.toArray Q i (fun a' w' => S w' ∧ wpAnyH P md ops.toArray Q S fuel (listed.setIfInBounds i true) a' w') a w :=
  op_do hA i hi hg hdst hd he (hk _ _ (hS.newU us t hu)).1 (hk _ _ (hS.newU us t hu)).2
theorem op_store (hA : Sl a n l) (hS : St w0 w L R O) (i : Nat) (hi : ops[i]? = some o) (hg : passes l ops o = true) (hdst : o.dst = none) {g q : Nat} {cs vs us : List Value} (he : Sets P l o w (w.setCells g q cs)) (k : Nat) (hk0 : L[k]? = some (g, vs)) (hl : Nat.ble (q + cs.length) vs.length = true) (hno : cs.all noWord = true) (hus : over vs q cs = us)
    (hk : ∀ w', St w0 w' (L.set k (g, us)) R O → S w' ∧ wpAnyH P md ops.toArray Q S fuel (listed.setIfInBounds i true) a w') : wpOp P ops.toArray Q i (fun a' w' => S w' ∧ wpAnyH P md ops.toArray Q S fuel (listed.setIfInBounds i true) a' w') a w := by
  have h := hk _ (by subst hus; exact St.sets cs w L vs q hS k hk0 (Nat.le_of_ble_eq_true hl) hno)
  exact op_set hA i hi hg hdst he h.1 h.2
/-! Rows of the call's own: made, written, appended to. -/
theorem does_make {t e : TypeId} (ht : P.underlying t = some (.slice e)) (hinfo : (P.info? e).map (fun i => (i.zero, i.size, i.bytes)) = some (some (.int .u32 0), 1, 4)) {x y : Operand} {m : Nat} (hx : ev l x = some (.int .i64 ((m : Nat) : Int))) (hy : ev l y = some (.int .i64 ((m : Nat) : Int))) (hm : m ≤ 1000000) :
    Does P l ⟨dst, .makeSlice t x y, ty, pos, after, guard⟩ w (.slice (some ⟨w.heap.size, 0, none⟩) m m) (w.alloc (.cells (madeCells #[.int .u32 0] m) e)) := fun ρ h => by
  have := run_make_row' (P := P) t e (.int .u32 0) 4 ht hinfo rfl .i64 .i64 m (by omega) (by omega) w
  simp only [execOp, h x _ hx, h y _ hy, Sem.run_bind, this, Result.andThen_ok, Sem.run_pure]
theorem st_made (hS : St w0 w L R O) {m : Nat} (hm : m ≤ 1000000) : St w0 (w.alloc (.cells (madeCells #[.int .u32 0] m) 41)) L R ((some ⟨w.heap.size, 0, none⟩, m, List.replicate m 0) :: O) :=
  hS.newO ((Below.refl _ _).alloc (Nat.le_refl _) _) (Own.made w m (by omega))
theorem seq_make (hA : Sl a n l) (hS : St w0 w L R O) (hg : passes l ops o = true) (hdst : o.dst = some d) (hd : Nat.blt d n = true) {m : Nat} (he : Does P l o w (.slice (some ⟨w.heap.size, 0, none⟩) m m) (w.alloc (.cells (madeCells #[.int .u32 0] m) 41))) (hm : m ≤ 1000000)
    (hk : ∀ g w', St w0 w' L R ((some ⟨g, 0, none⟩, m, List.replicate m 0) :: O) → ∀ a', Sl a' n ((d, .slice (some ⟨g, 0, none⟩) m m) :: l) → wpList P ops.toArray Q rest a' w') : wpList P ops.toArray Q (o :: rest) a w :=
  seq_do hA hg hdst hd he (hk _ _ (st_made hS hm))
theorem sets_row {t : TypeId} (ht : (P.info? t).map (·.size) = some 1) {x y : Operand} {g j d : Nat} (hx : ev l x = some (.pointer (some ⟨g, 0 + j, none⟩))) (hy : ev l y = some (.int .u32 ((d : Nat) : Int))) (hS : St w0 w L R O) (k : Nat) {c : Nat} {us : List Nat} (hk : O[k]? = some (some ⟨g, 0, none⟩, c, us)) (hj : j < us.length) :
    Sets P l ⟨dst, .store t x y, ty, pos, after, guard⟩ w (w.setCell ⟨g, j, none⟩ (.int .u32 ((d : Nat) : Int))) := fun ρ h => by
  obtain ⟨i, hi, hsz⟩ := info_size ht
  have h2 : (sizeOf t).run P w = .ok 1 w := by simp [sizeOf, typeInfo, hi, hsz]
  have hc := (hS.row k hk).cell j hj
  have hf := (hS.row k hk).frozen j
  rw [Nat.zero_add] at hx
  simp [execOp, h x _ hx, h y _ hy, Instr.storeAt, Instr.sureAddr, storeVar, h2, Value.cells, storeCells, addr_add, go_sem, hc, hf]
theorem seq_row (hA : Sl a n l) (hS : St w0 w L R O) (hg : passes l ops o = true) (hdst : o.dst = none) {g j d : Nat} (he : Sets P l o w (w.setCell ⟨g, j, none⟩ (.int .u32 ((d : Nat) : Int)))) (k : Nat) {c : Nat} {us us' : List Nat} (hk0 : O[k]? = some (some ⟨g, 0, none⟩, c, us)) (hd : d < 4294967296) (hus : us.set j d = us')
    (hk : ∀ w', St w0 w' L R (O.set k (some ⟨g, 0, none⟩, c, us')) → wpList P ops.toArray Q rest a w') : wpList P ops.toArray Q (o :: rest) a w :=
  seq_set hA hg hdst he (hk _ (by subst hus; exact hS.setRow k hk0 j d hd))
theorem op_row (hA : Sl a n l) (hS : St w0 w L R O) (i : Nat) (hi : ops[i]? = some o) (hg : passes l ops o = true) (hdst : o.dst = none) {g j d : Nat} (he : Sets P l o w (w.setCell ⟨g, j, none⟩ (.int .u32 ((d : Nat) : Int)))) (k : Nat) {c : Nat} {us us' : List Nat} (hk0 : O[k]? = some (some ⟨g, 0, none⟩, c, us)) (hd : d < 4294967296) (hus : us.set j d = us')
    (hk : ∀ w', St w0 w' L R (O.set k (some ⟨g, 0, none⟩, c, us')) → S w' ∧ wpAnyH P md ops.toArray Q S fuel (listed.setIfInBounds i true) a w') : wpOp P ops.toArray Q i (fun a' w' => S w' ∧ wpAnyH P md ops.toArray Q S fuel (listed.setIfInBounds i true) a' w') a w := by
  have h := hk _ (by subst hus; exact hS.setRow k hk0 j d hd)
  exact op_set hA i hi hg hdst he h.1 h.2
/-- What append does to a row of the call's own. -/
theorem does_append {t e : TypeId} (ht : P.underlying t = some (.slice e)) (he : e = 41) (hinfo : (P.info? e).map (fun i => (i.zero, i.size, i.bytes)) = some (some (.int .u32 0), 1, 4)) {x y : Operand} (hS : St w0 w L R O) (k : Nat) {ao : Option Addr} {c m : Nat} {us news : List Nat} (hk : O[k]? = some (ao, c, us)) (hx : ev l x = some (.slice ao us.length c)) {b : Nat} {c2 : Nat} (hy : ev l y = some (.slice (some ⟨b, 0, none⟩) m c2)) (j : Nat) (hj : R[j]? = some (some ⟨b, 0, none⟩, news)) (hm : m = news.length) (hne : Nat.blt 0 m = true) (hlen : us.length + m ≤ 1000000) :
    ∃ g cap w', Does P l ⟨dst, .call ⟨.builtin .append, #[x, y], #[t, t]⟩, ty, pos, after, guard⟩ w (.slice (some ⟨g, 0, none⟩) (us ++ news).length cap) w' ∧ St w0 w' L R (O.set k (some ⟨g, 0, none⟩, cap, us ++ news)) := by
  subst he hm
  obtain ⟨i, hi, hzz⟩ := Option.map_eq_some_iff.1 hinfo
  simp only [Prod.mk.injEq] at hzz
  obtain ⟨hz, hs, hb⟩ := hzz
  have hrow := hS.row k hk
  have hrd := hS.rd j hj
  have hpos : 0 < news.length := Nat.le_of_ble_eq_true hne
  obtain ⟨g, cap, w', hr, hown, hgr, hat, hlt⟩ := run_append_lies (P := P) w t ty w0.heap.size 41 i (.int .u32 0) 1 4 ht hi hz hs hb rfl (by decide) (.slice ao us.length c) us.length (U us) hrow.row ⟨b, 0, none⟩ news.length c2 (U news) (by rw [U_length]; omega) (fun p u hp => by
      rw [addr_add]
      have hlt : p < news.length := by have := (List.getElem?_eq_some_iff.1 hp).1; rwa [U_length] at this
      rw [U_get news p hlt] at hp
      cases hp
      exact hrd.at_ rfl hlt) (U_one news) hpos (by unfold maxLen; omega) (by omega) hS.bel.size w.heap.size rfl
  refine ⟨g, cap, w', fun ρ h => ?_, ?_⟩
  · rw [List.length_append]
    simp [execOp, resolve, invoke, builtin, h x _ hx, h y _ hy, hr]
  · refine hS.turn k hk hgr ⟨dig_append.2 ⟨hrow.dig, hrd.dig⟩, ?_⟩ (fun b' hb' => ?_)
    · rw [List.length_append, U_append]
      exact hown
    · cases hb'
      rcases hat with h | h
      · cases hao : ao with
        | none => rw [hao] at h; simp [Value.ownBlock] at h
        | some a => rw [hao] at h; exact .inl ⟨a, rfl, by simpa [Value.ownBlock] using h⟩
      · exact .inr h
theorem seq_append (hA : Sl a n l) (hg : passes l ops o = true) (hdst : o.dst = some d) (hd : Nat.blt d n = true) {k : Nat} {us news : List Nat} (he : ∃ g cap w', Does P l o w (.slice (some ⟨g, 0, none⟩) (us ++ news).length cap) w' ∧ St w0 w' L R (O.set k (some ⟨g, 0, none⟩, cap, us ++ news)))
    (hk : ∀ g cap w', St w0 w' L R (O.set k (some ⟨g, 0, none⟩, cap, us ++ news)) → ∀ a', Sl a' n ((d, .slice (some ⟨g, 0, none⟩) (us ++ news).length cap) :: l) → wpList P ops.toArray Q rest a' w') : wpList P ops.toArray Q (o :: rest) a w := by
  obtain ⟨g, cap, w', h1, h2⟩ := he
  exact seq_do hA hg hdst hd h1 (hk g cap w' h2)
/-- A row of the call's own that a call answers, or that is empty. -/
theorem st_empty (hS : St w0 w L R O) : St w0 (w.alloc (.cells #[] 41)) L R ((some ⟨w.heap.size, 0, none⟩, 0, []) :: O) :=
  hS.newO ((Below.refl _ _).alloc (Nat.le_refl _) _) ⟨dig_nil, World.ownsRow_made w #[] 0 (Nat.le_refl _) (by decide) rfl⟩
theorem seq_empty (hA : Sl a n l) (hS : St w0 w L R O) (hg : passes l ops o = true) (hdst : o.dst = some d) (hd : Nat.blt d n = true) (he : Does P l o w (.slice (some ⟨w.heap.size, 0, none⟩) 0 0) (w.alloc (.cells #[] 41)))
    (hk : ∀ g w', St w0 w' L R ((some ⟨g, 0, none⟩, 0, []) :: O) → ∀ a', Sl a' n ((d, .slice (some ⟨g, 0, none⟩) 0 0) :: l) → wpList P ops.toArray Q rest a' w') : wpList P ops.toArray Q (o :: rest) a w :=
  seq_do hA hg hdst hd he (hk _ _ (st_empty hS))
/-- A region that draws its order. -/
theorem wp_draw {id : Nat} (hm : P.follows .mixedOrders = true) (h : wpAnyH P .any ops.toArray Q S ops.length (Array.replicate ops.length false) a w.drew) : (Code.region id ops.toArray true).wp P Q a w :=
  wp_region_held (S := S) hm (by simpa using h)
end
/-! ### The end -/
def resOf (P : Program) (l : List (Nat × Value)) (w : World) : ResultVar → Value → Prop
  | .tmp t, v => look l t = some v
  | .cell c t, v => ∃ p, look l c = some (.pointer (some p)) ∧ (loadVar t p).run P w = .ok v w
inductive AllRes (P : Program) (l : List (Nat × Value)) (w : World) : List ResultVar → List Value → Prop
  | nil : AllRes P l w [] []
  | cons {r : ResultVar} {v : Value} {rs : List ResultVar} {vs : List Value} (h : resOf P l w r v) (t : AllRes P l w rs vs) : AllRes P l w (r :: rs) (v :: vs)
section
variable {a : Act} {n : Nat} {fn : Func} {Z : Ending → World → Prop}
theorem res_tmp {t : Tmp} (h : look l t = some v) : resOf P l w (.tmp t) v := h
theorem res_cell (hS : St w0 w L R O) {c : Tmp} {t : TypeId} {m : Nat} (ht : IsS P t m) {g o : Nat} (hx : look l c = some (.pointer (some ⟨g, o, none⟩))) (k : Nat) {vs cs : List Value} (hk : L[k]? = some (g, vs)) (hcs : (vs.drop o).take m = cs) (hl : cs.length = m) : resOf P l w (.cell c t) (.agg cs.toArray) :=
  ⟨_, hx, run_loadS ht cs hl (fun j v hj => hS.cell k hk (o + j) (by
    have hjn : j < m := by rw [← hl]; exact (List.getElem?_eq_some_iff.1 hj).1
    rw [← hcs, List.getElem?_take, if_pos hjn, List.getElem?_drop] at hj
    exact hj))⟩
def resSem (tmps : Array Value) : ResultVar → Sem Value
  | .tmp t => pure (tmps.getD t undef)
  | .cell c t => do loadVar t (← asAddr (tmps.getD c undef))
def packed : List Value → Value
  | [x] => x
  | xs => .tuple xs.toArray
theorem Sl.res (hA : Sl a n l) {r : ResultVar} (h : resOf P l w r v) : (resSem a.tmps r).run P w = .ok v w := by
  cases r with
  | tmp t =>
    have := hA.holds t v h
    simp [resSem, Array.getD_eq_getD_getElem?, this]
  | cell c t =>
    obtain ⟨p, hp, hr⟩ := h
    have := hA.holds c _ hp
    simp [resSem, Array.getD_eq_getD_getElem?, this, asAddr, hr]
theorem results_list (hA : Sl a n l) : ∀ (rs : List ResultVar) (vs : List Value), AllRes P l w rs vs → Sem.run P (rs.mapM (resSem a.tmps)) w = .ok vs w
  | [], [], _ => by simp
  | r :: rs, v :: vs, .cons h1 h2 => by
    have e1 := hA.res h1
    have e2 := results_list hA rs vs h2
    simp only [List.mapM_cons, Sem.run_bind, e1, Result.andThen_ok, e2, Sem.run_pure]
/-- The function's end: what it answers. -/
theorem ends (hA : Sl a n l) {rs : List ResultVar} (hrs : fn.results = rs.toArray) {vs : List Value} (hvs : AllRes P l w rs vs) (hv : packed vs = v) (hz : Z (.returned v) w) : bodyPost P fn Z .ret a w := by
  refine ⟨hA.none_, v, ?_, hz⟩
  have e := results_list hA rs vs hvs
  subst hv
  have e' : results fn a.tmps = (do let us ← fn.results.mapM (resSem a.tmps); pure (if h : us.size = 1 then us[0] else .tuple us)) := by
    unfold results
    congr 1
  have e2 : Sem.run P (List.toArray <$> rs.mapM (resSem a.tmps)) w = .ok vs.toArray w := by
    show Sem.run P (rs.mapM (resSem a.tmps) >>= fun us => pure us.toArray) w = _
    rw [Sem.run_bind, e]
    rfl
  rw [e', hrs, List.mapM_toArray, Sem.run_bind, e2, Result.andThen_ok]
  match vs with
  | [] => simp [packed]
  | [x] => simp [packed]
  | x :: y :: r => simp [packed]
end
/-- A call, by a walk of its body from what its slots hold at the start. -/
theorem walk_of {f : FuncId} {fn : Func} {c : Code} {args : List Value} {n : Nat} {Z : Ending → World → Prop} (hf : P.funcs[f]? = some fn) (hb : fn.body = some c) (hn : fn.ntmps = n) (hl : Nat.ble args.length n = true) (hs : (args.zipIdx.map fun p => (p.2, p.1)) = l)
    (h : ∀ Q : Exit → Act → World → Prop, (∀ a w, bodyPost P fn Z .ret a w → Q .ret a w) → (∀ a w, bodyPost P fn Z .ret a w → Q .normal a w) → (∀ c a d v w, Q (.panic c) (Act.put a d v) w → Q (.panic c) a w) → ∀ a, Sl a n l → c.wp P Q a w) : Calls P f args.toArray w Z := by
  subst hs
  refine calls_of_wp hf hb (h _ (fun _ _ h => h) (fun _ _ h => h) (fun c a d v w h => ?_) _ ?_)
  · cases d <;> exact h
  · rw [hn]
    exact Sl.enter (Nat.le_of_ble_eq_true hl)
/-! ### Loops -/
section
variable {Q : Exit → Act → World → Prop} {a : Act} {c : Code}
theorem rounds_k {m : Nat} (h : ∀ K : Act → World → Prop, (∀ a w, Code.rounds P c Q m a w → K a w) → c.wp P (Exit.then K Q) a w) : Code.rounds P c Q (m + 1) a w := h _ (fun _ _ h => h)
theorem rounds_mono : ∀ n m, n ≤ m → ∀ a w, Code.rounds P c Q n a w → Code.rounds P c Q m a w
  | 0, _, _, _, _, h => h.elim
  | n + 1, 0, hl, _, _, _ => by omega
  | n + 1, m + 1, hl, a, w, h => Code.wp_mono (fun e a w q => by
      cases e <;> first | exact rounds_mono n m (by omega) _ _ q | exact q) h
/-- A loop, by a number that falls. -/
theorem wp_loop_n (I : Nat → Act → World → Prop) (N : Nat) (h0 : I N a w) (round : ∀ m a w, I m a w → ∀ K : Act → World → Prop, (∀ m' a' w', m' < m → I m' a' w' → K a' w') → c.wp P (Exit.then K Q) a w) : (Code.loop c).wp P Q a w := by
  have key : ∀ m a w, I m a w → Code.rounds P c Q (m + 1) a w := by
    intro m
    induction m using Nat.strongRecOn with
    | _ m ih =>
      intro a w h
      exact round m a w h _ (fun m' a' w' hm h' => rounds_mono (m' + 1) m (by omega) _ _ (ih m' hm a' w' h'))
  exact wp_loop_rounds (N + 1) (key N a w h0)
end
theorem does_indexI {t : TypeId} {x i : Operand} {u u' : Value} (hx : ev l x = some u) (hi : ev l i = some u') (hr : ∀ w, (Instr.indexAt t u u').run P w = .ok v w) : Does P l ⟨dst, .indexAddr t x i, ty, pos, after, guard⟩ w v w := fun ρ h => by
  simp only [execOp, h x _ hx, h i _ hi, Sem.run_bind, hr w, Result.andThen_ok, Sem.run_pure]
/-- The place of an element of a row of words. -/
theorem run_indexU {t e : TypeId} (hu : P.underlying t = some (.slice e)) (he : (P.info? e).map (·.size) = some 1) {g o n c k : Nat} (hk : k < n) : ∀ w, (Instr.indexAt t (.slice (some ⟨g, o, none⟩) n c) (.int .i64 (k : Nat))).run P w = .ok (.pointer (some ⟨g, o + k, none⟩)) w := fun w => by
  obtain ⟨i, hi, hs⟩ := info_size he
  have h2 : (sizeOf e).run P w = .ok 1 w := by simp [sizeOf, typeInfo, hi, hs]
  have h3 : (0 : Int) ≤ (k : Nat) ∧ ((k : Nat) : Int) < (n : Nat) := ⟨by omega, by omega⟩
  simp [Instr.indexAt, asIntOf, run_underlying hu, h2, h3, addr_add]
  intro h
  omega
theorem does_indexRow {t e : TypeId} (hu : P.underlying t = some (.slice e)) (he : (P.info? e).map (·.size) = some 1) {x i : Operand} {so : Option Addr} {b off n c k : Nat} {z : Int} (hx : ev l x = some (.slice so n c)) (hi : ev l i = some (.int .i64 z)) (hz : z = (k : Nat)) (hso : so = some ⟨b, off, none⟩) (hk : k < n) :
    Does P l ⟨dst, .indexAddr t x i, ty, pos, after, guard⟩ w (.pointer (some ⟨b, off + k, none⟩)) w := by
  subst hso hz
  exact does_indexI hx hi (run_indexU hu he hk)
theorem does_fieldV {t : TypeId} {x : Operand} {f : Nat} {u : Value} (hx : ev l x = some u) (hr : ∀ w, (Instr.field t u f).run P w = .ok v w) : Does P l ⟨dst, .field t x f, ty, pos, after, guard⟩ w v w := fun ρ h => by
  simp only [execOp, h x _ hx, Sem.run_bind, hr w, Result.andThen_ok, Sem.run_pure]
theorem does_convert {s d : TypeId} {x : Operand} {u : Value} (hx : ev l x = some u) (hr : ∀ w, (convert s d u).run P w = .ok v w) : Does P l ⟨dst, .convert s d x, ty, pos, after, guard⟩ w v w := fun ρ h => by
  simp only [execOp, h x _ hx, Sem.run_bind, hr w, Result.andThen_ok, Sem.run_pure]
theorem does_builtin {b : Builtin} {xs : List Operand} {ts : Array TypeId} {vs : List Value} (hx : evs l xs = some vs) (hr : ∀ w cs, (builtin b ts ty cs vs.toArray).run P w = .ok (.value v) w) : Does P l ⟨dst, .call ⟨.builtin b, xs.toArray, ts⟩, ty, pos, after, guard⟩ w v w := fun ρ h => by
  have e : xs.map ρ = vs := by
    have : ∀ (xs : List Operand) (vs : List Value), evs l xs = some vs → xs.map ρ = vs := by
      intro xs
      induction xs with
      | nil => intro vs hx; simp [evs] at hx; simp [hx]
      | cons x xs ih =>
        intro vs hx
        unfold evs at hx
        split at hx
        · rename_i v us h1 h2
          cases hx
          simp [h _ _ h1, ih _ h2]
        · cases hx
    exact this xs vs hx
  rw [BigFrame.execOp_builtin]
  simp only [List.map_toArray, e, hr]

/-! ### Operators -/
section
variable {t : TypeId} {x y : Operand} {k : IntKind} {a b : Int}
theorem bin_lss : ∀ w, (do eqGuard .lss t x y (.int k a) (.int k b); binOp .lss t (.int k a) (.int k b) : Sem Value).run P w = .ok (.bool (decide (a < b))) w := fun w => by simp [go_sem]
theorem bin_leq : ∀ w, (do eqGuard .leq t x y (.int k a) (.int k b); binOp .leq t (.int k a) (.int k b) : Sem Value).run P w = .ok (.bool (decide (a ≤ b))) w := fun w => by simp [go_sem]
theorem bin_gtr : ∀ w, (do eqGuard .gtr t x y (.int k a) (.int k b); binOp .gtr t (.int k a) (.int k b) : Sem Value).run P w = .ok (.bool (decide (b < a))) w := fun w => by simp [go_sem]
theorem bin_geq : ∀ w, (do eqGuard .geq t x y (.int k a) (.int k b); binOp .geq t (.int k a) (.int k b) : Sem Value).run P w = .ok (.bool (decide (b ≤ a))) w := fun w => by simp [go_sem]
theorem bin_eql : ∀ w, (do eqGuard .eql t x y (.int k a) (.int k b); binOp .eql t (.int k a) (.int k b) : Sem Value).run P w = .ok (.bool (a == b)) w := fun w => by simp [go_sem]
theorem bin_neq : ∀ w, (do eqGuard .neq t x y (.int k a) (.int k b); binOp .neq t (.int k a) (.int k b) : Sem Value).run P w = .ok (.bool (a != b)) w := fun w => by simp [go_sem]
theorem i64In {a : Int} (h0 : -9223372036854775808 ≤ a) (h1 : a ≤ 9223372036854775807) : IntKind.i64.wrap a = a := IntWalk.i64_in a ⟨h0, h1⟩
theorem bin_add (h : k.wrap (a + b) = a + b) : ∀ w, (do eqGuard .add t x y (.int k a) (.int k b); binOp .add t (.int k a) (.int k b) : Sem Value).run P w = .ok (.int k (a + b)) w := fun w => by simp [go_sem, h]
theorem bin_addN {a b c : Nat} (h : a + b = c) (hc : c ≤ 9223372036854775807) : ∀ w, (do eqGuard .add t x y (.int .i64 ((a : Nat) : Int)) (.int .i64 ((b : Nat) : Int)); binOp .add t (.int .i64 ((a : Nat) : Int)) (.int .i64 ((b : Nat) : Int)) : Sem Value).run P w = .ok (.int .i64 ((c : Nat) : Int)) w := fun w => by
  subst h
  rw [bin_add (i64In (by omega) (by omega))]
  rfl
theorem bin_sub (h : k.wrap (a - b) = a - b) : ∀ w, (do eqGuard .sub t x y (.int k a) (.int k b); binOp .sub t (.int k a) (.int k b) : Sem Value).run P w = .ok (.int k (a - b)) w := fun w => by simp [go_sem, h]
theorem un_neg (h : k.wrap (-a) = -a) : ∀ w, (Op.unary .neg (.int k a)).run P w = .ok (.int k (-a)) w := fun w => by simp [go_sem, h]
theorem bin_eqlB (hu : P.underlying t = some .bool) {c d : Bool} : ∀ w, (do eqGuard .eql t x y (.bool c) (.bool d); binOp .eql t (.bool c) (.bool d) : Sem Value).run P w = .ok (.bool (c == d)) w := fun w => by
  simp [go_sem, hu, run_underlying hu]
theorem bin_neqB (hu : P.underlying t = some .bool) {c d : Bool} : ∀ w, (do eqGuard .neq t x y (.bool c) (.bool d); binOp .neq t (.bool c) (.bool d) : Sem Value).run P w = .ok (.bool (!(c == d))) w := fun w => by
  simp [go_sem, hu, run_underlying hu]
theorem un_not {c : Bool} : ∀ w, (Op.unary .not (.bool c)).run P w = .ok (.bool (!c)) w := fun w => by simp [go_sem]
end
end
end Go.Proofs.Yteghiinbafbokaa
namespace Go.Proofs.Yteghiinbafbokaa
open Go.RowKit
set_option linter.unusedVariables false
set_option linter.unusedSimpArgs false

/-- Is it a fraction: a bottom, 0 not below 0, no common divisor? -/
def fracS (b : Bool) (top bot : List Nat) : Bool := !(decide (bot.length = 0) || (decide (top.length = 0) && b)) && (decide ((gcdS top bot).2 = 0) && decide ((gcdS top bot).1 = [1]))

set_option maxHeartbeats 1000000 in
set_option maxRecDepth 1000000 in
theorem isFraction_any {w : World} {b : Bool} {to_ bo : Option Addr} {top bot : List Nat} (tc bc : Nat) (ht : Rd w to_ top) (hb : Rd w bo bot) (lt : top.length ≤ 9223372036854775807) (lb : bot.length ≤ 9223372036854775807) (nt : to_ = none → tc = 0) (nb : bo = none → bc = 0) :
    Calls Try.prog 74 #[.agg #[.bool b, .slice to_ top.length tc, .slice bo bot.length bc]] w fun e w' => e = .returned (.bool (fracS b top bot)) ∧ Below w.heap.size w w' := by
  unfold fracS
  obtain ⟨n, HN⟩ : ∃ n, Hid (bot.length = n) := ⟨_, rfl⟩
  obtain ⟨m, HM⟩ : ∃ n, Hid (top.length = n) := ⟨_, rfl⟩
  have hal : Below w.heap.size w (w.alloc (.cells #[.bool b, .slice to_ m tc, .slice bo n bc] 24)) := (Below.refl _ _).alloc (Nat.le_refl _) _
  have c1 := gcd_any tc bc (ht.below hal) (hb.below hal) lt lb nt nb
  rw [HM.out, HN.out] at c1
  obtain ⟨G, HG⟩ : ∃ G, Hid (gcdS top bot = G) := ⟨_, rfl⟩
  obtain ⟨g, k⟩ := G
  rw [HG.out] at c1 ⊢
  have HC1 : Hid _ := c1
  have HAL : Hid _ := hal
  rw [HN.out, HM.out]
  rw [HN.out] at lb
  rw [HM.out] at lt
  have HLG : Hid (g.length ≤ 512) := by
    have h : (gcdS top bot).1.length ≤ 512 := by
      unfold gcdS
      by_cases hs : (sound top && sound bot) = true
      · rw [if_pos hs]
        simp only [Bool.and_eq_true] at hs
        obtain ⟨ea, na⟩ := sound_words ht.dig hs.1
        obtain ⟨eb, nb⟩ := sound_words hb.dig hs.2
        have h1 : (words (val top)).length ≤ 512 := by rw [← ea]; exact na
        have h2 : (words (val bot)).length ≤ 512 := by rw [← eb]; exact nb
        by_cases h : val top = 0
        · rw [h, Nat.gcd_zero_left]
          exact h2
        · exact Nat.le_trans (words_mono (Nat.gcd_le_left _ (by omega))) h1
      · rw [if_neg hs]
        simp
    rw [HG.out] at h
    exact h
  clear c1 hal ht hb nt nb
  by_cases hn : n = 0
  · subst hn
    go_enter Try.func74, Try.ntmps74
    go_wp2
    go_ret
    exact ⟨rfl, HAL.out⟩
  · have hn1 : ((n : Int) == 0) = false := by simp; omega
    have en : decide (n = 0) = false := decide_eq_false hn
    rw [en]
    have hcase : (m = 0 ∧ b = true) ∨ ((m : Int) == 0) = false ∨ (m = 0 ∧ b = false) := by
      by_cases h : m = 0
      · cases b with
        | true => exact .inl ⟨h, rfl⟩
        | false => exact .inr (.inr ⟨h, rfl⟩)
      · exact .inr (.inl (by simp; omega))
    rcases hcase with ⟨rfl, rfl⟩ | hm1 | ⟨rfl, rfl⟩
    · clear en
      go_enter Try.func74, Try.ntmps74
      go_wp2
      go_ret
      exact ⟨rfl, HAL.out⟩
    all_goals
      first
      | (have em : decide (m = 0) = false := by
           apply decide_eq_false
           intro h
           rw [h] at hm1
           simp at hm1
         rw [em]
         clear em)
      | skip
      simp only [Bool.false_and, Bool.or_self, Bool.not_false, Bool.true_and, Bool.and_false, Bool.or_false]
      clear en
      by_cases hk : k = 0
      · subst hk
        simp only [decide_true, Bool.true_and]
        go_enter Try.func74, Try.ntmps74
        go_wp2_with fail
        refine Calls.mono HC1.out ?_
        rintro e w1 ⟨go_, gc, rfl, og, b1⟩
        have HC2 : Hid _ := isOne_any gc (show Rd w1 go_ g from og.rd) (by have := HLG.out; omega)
        have HB1 : Hid _ := chain2 HAL.out b1
        clear og b1 HC1
        go_wp2_with fail
        refine Calls.mono HC2.out ?_
        rintro e w' ⟨rfl, hw'⟩
        have hw' := hw'.symm
        subst hw'
        go_wp2
        go_ret
        exact ⟨rfl, HB1.out⟩
      · have ek : decide (k = 0) = false := decide_eq_false hk
        have hk1 : (k == 0) = false := by simpa using hk
        simp only [ek, Bool.false_and]
        clear ek hk
        go_enter Try.func74, Try.ntmps74
        go_wp2_with fail
        refine Calls.mono HC1.out ?_
        rintro e w1 ⟨go_, gc, rfl, og, b1⟩
        have HB1 : Hid _ := chain2 HAL.out b1
        clear og b1 HC1
        go_wp2
        go_ret
        exact ⟨rfl, HB1.out⟩

/-- Is it a sound number? -/
def soundN (b1 : Bool) (t1 q1 : List Nat) (b2 : Bool) (t2 q2 : List Nat) : Bool := fracS b1 t1 q1 && fracS b2 t2 q2

set_option maxHeartbeats 1000000 in
set_option maxRecDepth 1000000 in
theorem soundN_any {w : World} {b1 b2 : Bool} {o1 o2 o3 o4 : Option Addr} {t1 q1 t2 q2 : List Nat} (c1 c2 c3 c4 : Nat) (h1 : Rd w o1 t1) (h2 : Rd w o2 q1) (h3 : Rd w o3 t2) (h4 : Rd w o4 q2)
    (l1 : t1.length ≤ 9223372036854775807) (l2 : q1.length ≤ 9223372036854775807) (l3 : t2.length ≤ 9223372036854775807) (l4 : q2.length ≤ 9223372036854775807) (n1 : o1 = none → c1 = 0) (n2 : o2 = none → c2 = 0) (n3 : o3 = none → c3 = 0) (n4 : o4 = none → c4 = 0) :
    Calls Try.prog 52 #[.agg #[.bool b1, .slice o1 t1.length c1, .slice o2 q1.length c2, .bool b2, .slice o3 t2.length c3, .slice o4 q2.length c4]] w fun e w' => e = .returned (.bool (soundN b1 t1 q1 b2 t2 q2)) ∧ Below w.heap.size w w' := by
  unfold soundN
  have hal : ∀ o, Below w.heap.size w (w.alloc o) := fun o => (Below.refl _ _).alloc (Nat.le_refl _) o
  obtain ⟨m1, HM1⟩ : ∃ n, Hid (t1.length = n) := ⟨_, rfl⟩
  obtain ⟨m2, HM2⟩ : ∃ n, Hid (q1.length = n) := ⟨_, rfl⟩
  obtain ⟨m3, HM3⟩ : ∃ n, Hid (t2.length = n) := ⟨_, rfl⟩
  obtain ⟨m4, HM4⟩ : ∃ n, Hid (q2.length = n) := ⟨_, rfl⟩
  rw [HM1.out, HM2.out, HM3.out, HM4.out]
  have hb := hal (.cells #[.bool b1, .slice o1 m1 c1, .slice o2 m2 c2, .bool b2, .slice o3 m3 c3, .slice o4 m4 c4] 26)
  have d1 := isFraction_any (b := b1) c1 c2 (h1.below hb) (h2.below hb) l1 l2 n1 n2
  rw [HM1.out, HM2.out] at d1
  have HD1 : Hid _ := d1
  have HB : Hid _ := hb
  have H3 : Hid _ := h3
  have H4 : Hid _ := h4
  have N3 : Hid _ := n3
  have N4 : Hid _ := n4
  have L3 : Hid _ := l3
  have L4 : Hid _ := l4
  have HK : Hid (Blk (w.alloc (.cells #[.bool b1, .slice o1 m1 c1, .slice o2 m2 c2, .bool b2, .slice o3 m3 c3, .slice o4 m4 c4] 26)) w.heap.size [.bool b1, .slice o1 m1 c1, .slice o2 m2 c2, .bool b2, .slice o3 m3 c3, .slice o4 m4 c4]) := Blk.new w [.bool b1, .slice o1 m1 c1, .slice o2 m2 c2, .bool b2, .slice o3 m3 c3, .slice o4 m4 c4] 26 (by simp)
  clear d1 hb hal h1 h2 h3 h4 l1 l2 l3 l4 n1 n2 n3 n4
  go_enter Try.func52, Try.ntmps52
  go_wp2_with fail
  refine Calls.mono HD1.out ?_
  rintro e w1 ⟨rfl, b1'⟩
  have hk := HK.out.below b1'
  have k3 := hk.cell 3 _ rfl
  have k4 := hk.cell 4 _ rfl
  have k5 := hk.cell 5 _ rfl
  have HB1 : Hid _ := chain2 HB.out b1'
  have d2 := isFraction_any (b := b2) c3 c4 (H3.out.below HB1.out) (H4.out.below HB1.out) L3.out L4.out N3.out N4.out
  rw [HM3.out, HM4.out] at d2
  have HD2 : Hid _ := d2
  clear hk b1' d2 HD1
  obtain ⟨z, hz⟩ : ∃ z, fracS b1 t1 q1 = z := ⟨_, rfl⟩
  have HZ : Hid _ := hz
  rw [hz]
  clear hz
  cases z with
  | false =>
    go_wp2
    go_ret
    refine ⟨?_, HB1.out⟩
    rw [HZ.out]
    rfl
  | true =>
    go_wp2_with fail
    refine Calls.mono HD2.out ?_
    rintro e w2 ⟨rfl, b2'⟩
    have HB2 : Hid _ := chain2 HB1.out b2'
    clear b2' HD2
    go_wp2
    go_ret
    refine ⟨?_, HB2.out⟩
    rw [HZ.out, Bool.true_and]
    rfl
end Go.Proofs.Yteghiinbafbokaa
namespace Go.Proofs.Yteghiinbafbokaa
open Go.RowKit
set_option linter.unusedVariables false
set_option linter.unusedSimpArgs false

set_option maxHeartbeats 1000000 in
set_option maxRecDepth 1000000 in
theorem isReal_any {w : World} {b1 b2 : Bool} {o1 o2 o3 o4 : Option Addr} {m1 m2 m3 m4 c1 c2 c3 c4 : Nat} (h : m3 ≤ 9223372036854775807) :
    Calls Try.prog 75 #[.agg #[.bool b1, .slice o1 m1 c1, .slice o2 m2 c2, .bool b2, .slice o3 m3 c3, .slice o4 m4 c4]] w fun e w' => e = .returned (.bool (decide (m3 = 0))) ∧ Below w.heap.size w w' := by
  have HAL : Hid (∀ o, Below w.heap.size w (w.alloc o)) := fun o => (Below.refl _ _).alloc (Nat.le_refl _) o
  by_cases hm : m3 = 0
  · subst hm
    go_enter Try.func75, Try.ntmps75
    go_wp2
    go_ret
    exact ⟨rfl, HAL.out _⟩
  · have e : decide (m3 = 0) = false := decide_eq_false hm
    rw [e]
    have hm1 : ((m3 : Int) == 0) = false := by simp; omega
    clear e
    go_enter Try.func75, Try.ntmps75
    go_wp2
    go_ret
    exact ⟨rfl, HAL.out _⟩

end Go.Proofs.Yteghiinbafbokaa
namespace Go.Proofs.Yteghiinbafbokaa
open Go.RowKit
set_option linter.unusedVariables false
set_option linter.unusedSimpArgs false

def shiftS (a : List Nat) (n : Int) : List Nat × Int :=
  if sound a then (if n < -16384 ∨ 16384 < n then ([], 1) else if n < 0 then (words (val a / 2 ^ (-n).toNat), 0) else fitS (val a * 2 ^ n.toNat)) else ([], 2)
theorem words_shl_length {x k n : Nat} (hx : (words x).length ≤ n) : (words (x * 2 ^ k)).length ≤ n + (k / 32 + 1) := by
  apply words_length_le
  rw [pw_add]
  refine Nat.mul_lt_mul'' (words_length_iff.1 hx) ?_
  rw [pw_two]
  exact Nat.pow_lt_pow_right (by omega) (by omega)

set_option maxHeartbeats 1000000 in
set_option maxRecDepth 1000000 in
theorem shift_any {w : World} {ao : Option Addr} {a : List Nat} (ca : Nat) (n : Int) (ha : Rd w ao a) (la : a.length ≤ 9223372036854775807) (n0 : -9223372036854775808 ≤ n) (n1 : n ≤ 9223372036854775807) :
    Calls Try.prog 38 #[.slice ao a.length ca, .int .i64 n] w (Ans w (shiftS a n)) := by
  have c1 := sound_any ca ha la
  unfold shiftS
  by_cases hs : sound a = true
  · rw [hs] at c1 ⊢
    simp only [if_true]
    obtain ⟨ea, na⟩ := sound_words ha.dig hs
    generalize val a = x at *
    subst ea
    clear hs la
    by_cases hr : n < -16384 ∨ 16384 < n
    · rw [if_pos hr]
      have hr' : n < -16384 ∨ (¬ n < -16384 ∧ 16384 < n) := by omega
      generalize (words x).length = m at *
      clear ha hr
      rcases hr' with h1 | ⟨h1, h2⟩
      all_goals
        go_enter Try.func38, Try.ntmps38
        go_wp2_with fail
        refine c1.mono ?_
        rintro e w' ⟨rfl, rfl⟩
        go_wp2
        go_ret2
        exact Ans.intro (Own.nil _ _) (Below.refl _ _)
    · rw [if_neg hr]
      have h1 : ¬ n < -16384 := by omega
      have h2 : ¬ 16384 < n := by omega
      clear hr
      by_cases hn : n < 0
      · rw [if_pos hn]
        obtain ⟨k, hk⟩ : ∃ k : Nat, -n = (k : Int) := ⟨(-n).toNat, by omega⟩
        have hkn : (-n).toNat = k := by omega
        rw [hkn]
        have c2 := shiftDown_any ca k ha (by omega) (by omega)
        have hk2 : (k : Int) = -n := hk.symm
        rw [hk2] at c2
        have HC2 : Hid _ := c2
        clear c2 ha hk hkn hk2
        generalize (words x).length = m at *
        go_enter Try.func38, Try.ntmps38
        go_wp2_with fail
        refine c1.mono ?_
        rintro e w' ⟨rfl, rfl⟩
        clear c1
        go_wp2_with fail
        refine Calls.mono HC2.out ?_
        rintro e w1 ⟨ro, rc, rfl, ho, hb1⟩
        have HO : Hid _ := ho
        have HB : Hid _ := hb1
        clear ho hb1
        go_wp2
        go_ret2
        exact ⟨_, _, rfl, HO.out, HB.out⟩
      · rw [if_neg hn]
        obtain ⟨k, rfl⟩ : ∃ k : Nat, n = (k : Int) := ⟨n.toNat, by omega⟩
        rw [Int.toNat_natCast]
        have c2 := shiftUp_any ca k ha (by omega) (by omega)
        have HC2 : Hid _ := c2
        have HLE : Hid ((words (x * 2 ^ k)).length ≤ 1000000) := by
          have := words_shl_length (k := k) na
          show (words (x * 2 ^ k)).length ≤ 1000000
          omega
        clear c2 ha
        generalize (words x).length = m at *
        go_enter Try.func38, Try.ntmps38
        go_wp2_with fail
        refine c1.mono ?_
        rintro e w' ⟨rfl, rfl⟩
        clear c1
        go_wp2_with fail
        refine Calls.mono HC2.out ?_
        rintro e w1 ⟨ro, rc, rfl, ho, hb1⟩
        have c4 := fit_own ho HLE.out
        have HC4 : Hid _ := c4
        have HB : Hid _ := hb1
        clear ho hb1 c4
        go_wp2_with fail
        refine Calls.mono HC4.out ?_
        rintro e w2 ⟨so, sc, rfl, ho, rfl⟩
        have HO : Hid _ := ho
        clear ho
        go_wp2
        go_ret2
        exact ⟨_, _, rfl, HO.out, HB.out⟩
  · simp only [Bool.not_eq_true] at hs
    rw [hs] at c1 ⊢
    generalize a.length = m at *
    clear ha
    go_enter Try.func38, Try.ntmps38
    go_wp2_with fail
    refine c1.mono ?_
    rintro e w' ⟨rfl, rfl⟩
    go_wp2
    go_ret2
    exact Ans.intro (Own.nil _ _) (Below.refl _ _)
end Go.Proofs.Yteghiinbafbokaa
namespace Go.Proofs.Yteghiinbafbokaa
open Go.RowKit
set_option linter.unusedVariables false
set_option linter.unusedSimpArgs false

theorem less_step (acc a b : List Nat) (i c : Nat) (hi : acc.length = i) (ha : Dig a) (hb : Dig b) (hc : c ≤ 1) (h : val acc + val (b.take i) = val (a.take i) + pw i * c) :
    val (acc ++ [dif (a.getD i 0) (b.getD i 0) c]) + val (b.take (i + 1)) = val (a.take (i + 1)) + pw (i + 1) * bor (a.getD i 0) (b.getD i 0) c := by
  rw [val_snoc, val_take_succ a, val_take_succ b, pw_succ, hi]
  have e := dif_eq (ha.getD i) (hb.getD i) hc
  have e2 := congrArg (fun z => pw i * z) e
  simp only [Nat.mul_add] at e2
  have e3 : 4294967296 * pw i * bor (a.getD i 0) (b.getD i 0) c = pw i * (4294967296 * bor (a.getD i 0) (b.getD i 0) c) := by
    rw [Nat.mul_comm 4294967296 (pw i), Nat.mul_assoc]
  rw [e3]
  omega

set_option maxHeartbeats 2000000 in
set_option maxRecDepth 1000000 in
theorem rless_any {w : World} {ao bo : Option Addr} {x y : Nat} (ca cb : Nat) (ha : Rd w ao (words x)) (hb : Rd w bo (words y)) (hx : (words x).length ≤ 100000) (hxy : y ≤ x) :
    Calls Try.prog 84 #[.slice ao (words x).length ca, .slice bo (words y).length cb] w (Row1 w (words (x - y))) := by
  obtain ⟨i0, hi0, hz0, hz1, hz2⟩ := info_parts infoU
  obtain ⟨n, HX⟩ : ∃ n, Hid ((words x).length = n) := ⟨_, rfl⟩
  obtain ⟨m, HY⟩ : ∃ m, Hid ((words y).length = m) := ⟨_, rfl⟩
  have hmn : m ≤ n := by rw [← HX.out, ← HY.out]; exact words_mono hxy
  have HXY : Hid _ := hxy
  rw [HX.out] at hx ⊢
  rw [HY.out]
  clear hxy
  go_enter Try.func84, Try.ntmps84
  go_wp2
  go_loopw [5, 6, 7] (fun v5 v6 v7 wr => ∃ (i c : Nat) (acc : List Nat) (ro : Option Addr) (rc : Nat), i ≤ n ∧ v7 = .int .i64 (i : Int) ∧ v6 = .int .u64 (c : Int) ∧ c ≤ 1 ∧ v5 = .slice ro i rc ∧ acc.length = i ∧ Own w.heap.size wr ro rc acc ∧ Below w.heap.size w wr ∧ val acc + val ((words y).take i) = val ((words x).take i) + pw i * c) (fun _ _ v7 _ => n - (intOf v7).toNat)
  case atStart =>
    refine ⟨0, 0, [], some ⟨w.heap.size, 0, none⟩, 0, Nat.zero_le _, rfl, rfl, by omega, rfl, rfl, ⟨dig_nil, World.ownsRow_made w #[] 0 (Nat.le_refl _) (by decide) rfl⟩, (Below.refl _ w).alloc (Nat.le_refl _) _, by simp [val]⟩
  case round =>
    obtain ⟨i, c, acc, ro, rc, hi, rfl, rfl, hc, rfl, hacc, hown, hbw, hv⟩ := hrel
    have HV : Hid _ := hv
    have HL : Hid _ := hacc
    have hwsz := hbw.size
    clear hv hacc
    by_cases hin : i < n
    · have c1 := rword_any ca i (ha.below hbw)
      have c2 := rword_any cb i (hb.below hbw)
      rw [HX.out] at c1
      rw [HY.out] at c2
      have d1 := (words_dig x).getD i
      have d2 := (words_dig y).getD i
      have HS : Hid _ := less_step acc (words x) (words y) i c HL.out (words_dig x) (words_dig y) hc HV.out
      obtain ⟨s, hs⟩ : ∃ s, (words x).getD i 0 = s := ⟨_, rfl⟩
      obtain ⟨t, ht⟩ : ∃ t, (words y).getD i 0 = t := ⟨_, rfl⟩
      rw [hs] at c1 d1 HS
      rw [ht] at c2 d2 HS
      clear hs ht ha hb
      have hrow := hown.row
      rw [HL.out] at hrow
      have HD : Hid _ := hown.dig
      have HB : Hid _ := hbw
      clear hown hbw
      by_cases hlt : s < t + c
      · have HE : Hid ((s : Int) + 4294967296 - ((t : Int) + c) = ((dif s t c : Nat) : Int) ∧ bor s t c = 1) := ⟨by unfold dif; omega, by unfold bor; rw [if_pos hlt]⟩
        go_wp2_with fail
        refine c1.mono ?_
        rintro e w' ⟨rfl, hw'⟩
        have hw' := hw'.symm
        subst hw'
        go_wp2_with fail
        refine c2.mono ?_
        rintro e w' ⟨rfl, hw'⟩
        have hw' := hw'.symm
        subst hw'
        clear c1 c2
        go_wp2_with (at_builtin; refine wpList_append_own _ rfl _ _ 22 rfl w.heap.size 41 i0 (.int .u32 0) 1 4 Try.underlying22 hi0 hz0 hz1 hz2 rfl (by decide) _ _ _ rfl (hrow.alloc _) ⟨wr.heap.size, 0, none⟩ 1 1 [.int .u32 ((s : Int) + 4294967296 - ((t : Int) + c))] rfl rfl (by exact cell_one wr _ 41) (by intro u hu; simp at hu; subst hu; rfl) (by unfold maxLen; omega) (by omega) (by simp; omega) ?_)
        intro v' w1 hown' hgrow hiff
        have hb2 := grown_below (HB.out.alloc (by omega) _) (hrow.alloc _) hgrow (by simp; omega)
        rw [← HL.out, HE.out.1] at hown'
        obtain ⟨ro', rc', e, ho⟩ := own_append HD.out (dif_lt _ _ _) hown'
        subst e
        have HO : Hid _ := ho
        have HB2 : Hid _ := hb2
        clear hown' hgrow hiff ho hb2 hrow
        go_wp2
        go_roundw
        case rel =>
          refine ⟨i + 1, 1, acc ++ [dif s t c], ro', rc', by omega, by go_num, rfl, by omega, by rw [List.length_append, HL.out]; rfl, by rw [List.length_append, HL.out]; rfl, HO.out, HB2.out, ?_⟩
          have := HS.out
          rw [HE.out.2] at this
          exact this
        case measure => simp only [intOf]; omega
      · have HE : Hid ((s : Int) - ((t : Int) + c) = ((dif s t c : Nat) : Int) ∧ bor s t c = 0) := ⟨by unfold dif; omega, by unfold bor; rw [if_neg hlt]⟩
        go_wp2_with fail
        refine c1.mono ?_
        rintro e w' ⟨rfl, hw'⟩
        have hw' := hw'.symm
        subst hw'
        go_wp2_with fail
        refine c2.mono ?_
        rintro e w' ⟨rfl, hw'⟩
        have hw' := hw'.symm
        subst hw'
        clear c1 c2
        go_wp2_with (at_builtin; refine wpList_append_own _ rfl _ _ 22 rfl w.heap.size 41 i0 (.int .u32 0) 1 4 Try.underlying22 hi0 hz0 hz1 hz2 rfl (by decide) _ _ _ rfl (hrow.alloc _) ⟨wr.heap.size, 0, none⟩ 1 1 [.int .u32 ((s : Int) - ((t : Int) + c))] rfl rfl (by exact cell_one wr _ 41) (by intro u hu; simp at hu; subst hu; rfl) (by unfold maxLen; omega) (by omega) (by simp; omega) ?_)
        intro v' w1 hown' hgrow hiff
        have hb2 := grown_below (HB.out.alloc (by omega) _) (hrow.alloc _) hgrow (by simp; omega)
        rw [← HL.out, HE.out.1] at hown'
        obtain ⟨ro', rc', e, ho⟩ := own_append HD.out (dif_lt _ _ _) hown'
        subst e
        have HO : Hid _ := ho
        have HB2 : Hid _ := hb2
        clear hown' hgrow hiff ho hb2 hrow
        go_wp2
        go_roundw
        case rel =>
          refine ⟨i + 1, 0, acc ++ [dif s t c], ro', rc', by omega, by go_num, rfl, by omega, by rw [List.length_append, HL.out]; rfl, by rw [List.length_append, HL.out]; rfl, HO.out, HB2.out, ?_⟩
          have := HS.out
          rw [HE.out.2] at this
          exact this
        case measure => simp only [intOf]; omega
    · have e : i = n := by omega
      subst e
      have hval : val acc = x - y := by
        have h1 := HV.out
        rw [List.take_of_length_le (by rw [HY.out]; omega), List.take_of_length_le (by rw [HX.out]; omega), val_words, val_words] at h1
        have h2 := val_lt hown.dig
        rw [HL.out] at h2
        exact diff_end h1 h2 HXY.out
      have c3 := norm_any rc hown.rd (by rw [HL.out]; omega) hown.caps (fun e => by subst e; exact hown.none_cap)
      rw [hval, HL.out] at c3
      have HC : Hid _ := c3
      have HB : Hid _ := hbw
      clear hval c3 hown hbw ha hb
      go_wp2_with fail
      refine Calls.mono HC.out ?_
      rintro e w2 ⟨so, sc, rfl, ho, hb3⟩
      have HO : Hid _ := ho.lower HB.out.size
      have HB3 : Hid _ := HB.out.trans (hb3.mono HB.out.size)
      clear ho hb3
      go_wp2
      go_ret
      exact ⟨_, _, rfl, HO.out, HB3.out⟩

theorem cmp_at {x y k : Nat} (h : x / pw (k + 1) = y / pw (k + 1)) :
    ((words x).getD k 0 = (words y).getD k 0 → x / pw k = y / pw k) ∧ ((words y).getD k 0 < (words x).getD k 0 → cmpN x y = 1) ∧ ((words x).getD k 0 < (words y).getD k 0 → cmpN x y = -1) := by
  obtain ⟨a1, a2, a3⟩ := order_step x y k h
  rw [words_getD, words_getD]
  refine ⟨a1, fun h1 => ?_, fun h1 => ?_⟩
  · have := a3 h1
    unfold cmpN
    rw [if_neg (by omega), if_pos this]
  · have := a2 h1
    unfold cmpN
    rw [if_pos this]

set_option maxHeartbeats 2000000 in
set_option maxRecDepth 1000000 in
theorem rorder_any {w : World} {ao bo : Option Addr} {x y : Nat} (ca cb : Nat) (ha : Rd w ao (words x)) (hb : Rd w bo (words y)) (hx : (words x).length ≤ 1000000) (hy : (words y).length ≤ 1000000) :
    Calls Try.prog 83 #[.slice ao (words x).length ca, .slice bo (words y).length cb] w fun e w' => e = .returned (.int .i64 (cmpN x y)) ∧ Below w.heap.size w w' := by
  by_cases hl : (words x).length = (words y).length
  · have HX : Hid ((words x).length = (words y).length) := hl
    obtain ⟨n, hn⟩ : ∃ n, n = (words x).length := ⟨_, rfl⟩
    rw [← hl, ← hn]
    have HN : Hid (n = (words x).length) := hn
    rw [← hn] at hx
    clear hl hn hy
    go_enter Try.func83, Try.ntmps83
    go_wp2
    go_loopw [5] (fun v wr => Below w.heap.size w wr ∧ ∃ k : Nat, k ≤ n ∧ v = .int .i64 ((k : Int) - 1) ∧ x / pw k = y / pw k) (fun v _ => (intOf v + 1).toNat)
    case atStart =>
      refine ⟨Below.refl _ _, n, Nat.le_refl _, rfl, ?_⟩
      rw [div_words_length x _ (by rw [HN.out]; omega), div_words_length y _ (by rw [HN.out, ← HX.out]; omega)]
    case round =>
      obtain ⟨hbw, k, hk, rfl, hd⟩ := hrel
      have HD : Hid _ := hd
      clear hd
      by_cases hk0 : k = 0
      · subst hk0
        have hxy : cmpN x y = 0 := by
          have := HD.out
          rw [pw_zero, Nat.div_one, Nat.div_one] at this
          rw [this]
          simp [cmpN]
        go_wp2
        go_ret
        exact ⟨retI hxy.symm, hbw⟩
      · obtain ⟨j, rfl⟩ : ∃ j, k = j + 1 := ⟨k - 1, by omega⟩
        have ha' := ha.below hbw
        have hb' := hb.below hbw
        obtain ⟨b1, o1, rfl, _, hc1⟩ := ha'.pos (by intro e; have := HN.out; rw [e] at this; simp at this; omega)
        obtain ⟨b2, o2, rfl, _, hc2⟩ := hb'.pos (by intro e; have := HX.out; rw [← HN.out, e] at this; simp at this; omega)
        have c1 := hc1 j (by have := HN.out; omega)
        have c2 := hc2 j (by have := HN.out; have := HX.out; omega)
        have HS : Hid _ := cmp_at HD.out
        have d1 := (words_dig x).getD j
        have d2 := (words_dig y).getD j
        clear hc1 hc2 ha hb ha' hb'
        obtain ⟨p, hp⟩ : ∃ p, (words x).getD j 0 = p := ⟨_, rfl⟩
        obtain ⟨q, hq⟩ : ∃ q, (words y).getD j 0 = q := ⟨_, rfl⟩
        rw [hp, hq] at HS
        rw [hp] at c1 d1
        rw [hq] at c2 d2
        clear hp hq
        have e1 : (((j + 1 : Nat) : Int) - 1) = (j : Int) := by omega
        have e2 : ((j : Int)).toNat = j := by omega
        by_cases hpq : q < p
        · simp only [e1]
          go_wp2
          go_region
          go_wp2
          go_ret
          exact ⟨retI (HS.out.2.1 hpq).symm, hbw.drew⟩
        · by_cases hqp : p < q
          · simp only [e1]
            go_wp2
            go_region
            go_wp2
            go_region
            go_wp2
            go_ret
            exact ⟨retI (HS.out.2.2 hqp).symm, hbw.drew.drew⟩
          · have e3 : p = q := by omega
            subst e3
            simp only [e1]
            go_wp2
            go_region
            go_wp2
            go_region
            go_wp2
            go_roundw
            case rel => exact ⟨hbw.drew.drew, j, by omega, by go_num, HS.out.1 (by trivial)⟩
            case measure => simp only [intOf]; omega
  · by_cases h1 : (words x).length < (words y).length
    · have hc : cmpN x y = -1 := by
        have := lt_of_words_length h1
        unfold cmpN
        rw [if_pos this]
      rw [hc]
      generalize (words x).length = n at *
      generalize (words y).length = m at *
      clear ha hb hc
      go_enter Try.func83, Try.ntmps83
      go_wp2
      go_ret
      exact ⟨rfl, Below.refl _ _⟩
    · have h2 : (words y).length < (words x).length := by omega
      have hc : cmpN x y = 1 := by
        have := lt_of_words_length h2
        unfold cmpN
        rw [if_neg (by omega), if_pos this]
      rw [hc]
      generalize (words x).length = n at *
      generalize (words y).length = m at *
      clear ha hb hc
      go_enter Try.func83, Try.ntmps83
      go_wp2
      go_ret
      exact ⟨rfl, Below.refl _ _⟩
end Go.Proofs.Yteghiinbafbokaa
namespace Go.Proofs.Yteghiinbafbokaa
open Go.RowKit
set_option linter.unusedVariables false
set_option linter.unusedSimpArgs false

def subS (a b : List Nat) : List Nat × Int := if sound a && sound b then (if val a < val b then ([], 1) else (words (val a - val b), 0)) else ([], 2)
def cmpS (a b : List Nat) : Int := if sound a && sound b then cmpN (val a) (val b) else 0
theorem cmp_lt {x y : Nat} (h : x < y) : cmpN x y = -1 := by unfold cmpN; rw [if_pos h]
theorem cmp_gt {x y : Nat} (h : y < x) : cmpN x y = 1 := by unfold cmpN; rw [if_neg (by omega), if_pos h]
theorem cmp_eq (x : Nat) : cmpN x x = 0 := by unfold cmpN; simp
theorem cmp_ge {x y : Nat} (h : ¬ x < y) : (cmpN x y < 0) = False := by
  unfold cmpN
  rw [if_neg h]
  split <;> simp

set_option maxHeartbeats 1000000 in
set_option maxRecDepth 1000000 in
theorem sub_any {w : World} {ao bo : Option Addr} {a b : List Nat} (ca cb : Nat) (ha : Rd w ao a) (hb : Rd w bo b) (la : a.length ≤ 9223372036854775807) (lb : b.length ≤ 9223372036854775807) :
    Calls Try.prog 54 #[.slice ao a.length ca, .slice bo b.length cb] w (Ans w (subS a b)) := by
  have c1 := sound_any ca ha la
  have c2 := sound_any cb hb lb
  unfold subS
  by_cases hs : sound a = true
  · by_cases ht : sound b = true
    · obtain ⟨ea, na⟩ := sound_words ha.dig hs
      obtain ⟨eb, nb⟩ := sound_words hb.dig ht
      rw [hs] at c1 ⊢
      rw [ht] at c2 ⊢
      generalize val a = x at *
      generalize val b = y at *
      subst ea eb
      have c3 := order_any ca cb ha hb (by omega) (by omega)
      have HA : Hid _ := ha
      have HBB : Hid _ := hb
      have HNA : Hid _ := na
      clear hs ht ha hb la lb
      obtain ⟨n, hn⟩ : ∃ n, (words x).length = n := ⟨_, rfl⟩
      obtain ⟨m, hm⟩ : ∃ m, (words y).length = m := ⟨_, rfl⟩
      have HN : Hid _ := hn
      have HM : Hid _ := hm
      rw [hn] at c1 c3 ⊢
      rw [hm] at c2 c3 ⊢
      clear hn hm na nb
      by_cases hxy : x < y
      · rw [cmp_lt hxy] at c3
        simp only [Bool.and_self, if_true, hxy]
        have HC3 : Hid _ := c3
        clear c3 hxy
        go_enter Try.func54, Try.ntmps54
        go_wp2_with fail
        refine c1.mono ?_
        rintro e w' ⟨rfl, rfl⟩
        go_wp2_with fail
        refine c2.mono ?_
        rintro e w' ⟨rfl, rfl⟩
        clear c1 c2
        go_wp2_with fail
        refine Calls.mono HC3.out ?_
        rintro e w1 ⟨rfl, hb1⟩
        have HB1 : Hid _ := hb1
        clear hb1
        go_wp2
        go_ret2
        exact Ans.intro (Own.nil _ _) HB1.out
      · have hge := cmp_ge hxy
        obtain ⟨k, hk⟩ : ∃ k, cmpN x y = k := ⟨_, rfl⟩
        rw [hk] at c3 hge
        clear hk
        have hk0 : ¬ k < 0 := by rw [hge]; exact not_false
        clear hge
        have HXY : Hid _ := hxy
        simp only [Bool.and_self, if_true, hxy, if_false]
        have HC3 : Hid _ := c3
        clear c3 hxy
        go_enter Try.func54, Try.ntmps54
        go_wp2_with fail
        refine c1.mono ?_
        rintro e w' ⟨rfl, rfl⟩
        go_wp2_with fail
        refine c2.mono ?_
        rintro e w' ⟨rfl, rfl⟩
        clear c1 c2
        go_wp2_with fail
        refine Calls.mono HC3.out ?_
        rintro e w1 ⟨rfl, hb1⟩
        have c4 := difference_any ca cb (HA.out.below hb1) (HBB.out.below hb1) (by have := HNA.out; omega) (Nat.le_of_not_lt HXY.out)
        rw [HN.out, HM.out] at c4
        have HC4 : Hid _ := c4
        have HB1 : Hid _ := hb1
        clear hb1 c4
        go_wp2_with fail
        refine Calls.mono HC4.out ?_
        rintro e w2 ⟨ro, rc, rfl, ho, hb2⟩
        have HO : Hid _ := ho.lower HB1.out.size
        have HB2 : Hid _ := HB1.out.trans (hb2.mono HB1.out.size)
        clear ho hb2
        go_wp2
        go_ret2
        exact ⟨_, _, rfl, HO.out, HB2.out⟩
    · simp only [Bool.not_eq_true] at ht
      rw [hs] at c1
      rw [ht] at c2
      rw [hs, ht]
      clear ha hb la lb hs ht
      generalize a.length = n at *
      generalize b.length = m at *
      go_enter Try.func54, Try.ntmps54
      go_wp2_with fail
      refine c1.mono ?_
      rintro e w' ⟨rfl, rfl⟩
      go_wp2_with fail
      refine c2.mono ?_
      rintro e w' ⟨rfl, rfl⟩
      go_wp2
      go_ret2
      exact Ans.intro (Own.nil _ _) (Below.refl _ _)
  · simp only [Bool.not_eq_true] at hs
    rw [hs] at c1 ⊢
    clear ha hb la lb hs c2
    generalize a.length = n at *
    generalize b.length = m at *
    go_enter Try.func54, Try.ntmps54
    go_wp2_with fail
    refine c1.mono ?_
    rintro e w' ⟨rfl, rfl⟩
    go_wp2
    go_ret2
    exact Ans.intro (Own.nil _ _) (Below.refl _ _)

end Go.Proofs.Yteghiinbafbokaa
namespace Go.Proofs.Yteghiinbafbokaa
open Go.RowKit
set_option linter.unusedVariables false
set_option linter.unusedSimpArgs false

theorem below_eq {w w' : World} (h : w' = w) : Below w.heap.size w w' := h ▸ Below.refl _ _
/-- A slice of words: what it reads as; room only where there is memory. -/
structure Sc (w : World) (o : Option Addr) (c : Nat) (l : List Nat) : Prop where
  rd : Rd w o l
  nil : o = none → c = 0
  cap : l.length ≤ c
theorem Sc.below {w w' : World} {o : Option Addr} {c : Nat} {l : List Nat} (h : Sc w o c l) (hb : Below w.heap.size w w') : Sc w' o c l := ⟨h.rd.below hb, h.nil, h.cap⟩
theorem Own.sc {B : Nat} {w : World} {o : Option Addr} {c : Nat} {l : List Nat} (h : Own B w o c l) : Sc w o c l := ⟨h.rd, h.nocap, h.caps⟩
theorem Sc.none (w : World) : Sc w none 0 [] := ⟨Rd.nil _ _, fun _ => rfl, Nat.le_refl _⟩
/-- A number of two fractions: its signs, tops and bottoms. -/
structure Q6 where
  b1 : Bool
  t1 : List Nat
  q1 : List Nat
  b2 : Bool
  t2 : List Nat
  q2 : List Nat
/-- The value of six cells: signs, and slices of so many words. -/
def numV (q : Q6) (o1 : Option Addr) (c1 : Nat) (o2 : Option Addr) (c2 : Nat) (o3 : Option Addr) (c3 : Nat) (o4 : Option Addr) (c4 : Nat) : Value :=
  .agg #[.bool q.b1, .slice o1 q.t1.length c1, .slice o2 q.q1.length c2, .bool q.b2, .slice o3 q.t2.length c3, .slice o4 q.q2.length c4]
structure Nm (w : World) (q : Q6) (o1 : Option Addr) (c1 : Nat) (o2 : Option Addr) (c2 : Nat) (o3 : Option Addr) (c3 : Nat) (o4 : Option Addr) (c4 : Nat) : Prop where
  s1 : Sc w o1 c1 q.t1
  s2 : Sc w o2 c2 q.q1
  s3 : Sc w o3 c3 q.t2
  s4 : Sc w o4 c4 q.q2
/-- The number without anything. -/
def Q6.zero : Q6 := ⟨false, [], [], false, [], []⟩
/-- A whole number of a sign and a size. -/
def Q6.whole (b : Bool) (x : Nat) : Q6 := ⟨b, words x, [1], false, [], [1]⟩
/-- A number and an error's number are answered. -/
def AnsN (w : World) (r : Q6 × Int) (e : Ending) (w' : World) : Prop := ∃ o1 c1 o2 c2 o3 c3 o4 c4, e = .returned (.tuple #[numV r.1 o1 c1 o2 c2 o3 c3 o4 c4, .int .i64 r.2]) ∧ Nm w' r.1 o1 c1 o2 c2 o3 c3 o4 c4 ∧ Below w.heap.size w w'
/-- A number is answered. -/
def AnsV (w : World) (q : Q6) (e : Ending) (w' : World) : Prop := ∃ o1 c1 o2 c2 o3 c3 o4 c4, e = .returned (numV q o1 c1 o2 c2 o3 c3 o4 c4) ∧ Nm w' q o1 c1 o2 c2 o3 c3 o4 c4 ∧ Below w.heap.size w w'
/-- A whole number, unless it is too long. -/
def bigS (b : Bool) (z : Nat) : Q6 × Int := if (words z).length ≤ 512 then (Q6.whole b z, 0) else (Q6.zero, 4)
theorem bigS_pos {b : Bool} {z : Nat} (h : (words z).length ≤ 512) : bigS b z = (Q6.whole b z, 0) := by unfold bigS; rw [if_pos h]
theorem bigS_neg {b : Bool} {z : Nat} (h : ¬ (words z).length ≤ 512) : bigS b z = (Q6.zero, 4) := by unfold bigS; rw [if_neg h]

theorem words_one : words 1 = [1] := by rw [words_pos (by omega)]; simp [words_zero]
theorem of_one (w : World) : Calls Try.prog 59 #[.int .u64 1] w (Row1 w [1]) := by
  have h := of_any 1 w (by omega)
  rw [words_one] at h
  exact h
theorem sound_of_words {x : Nat} (h : (words x).length ≤ 512) : sound (words x) = true := (sound_iff _).2 ⟨h, words_top x⟩
theorem sub_words {w : World} {ao bo : Option Addr} {x y : Nat} (ca cb : Nat) (ha : Rd w ao (words x)) (hb : Rd w bo (words y)) (hx : (words x).length ≤ 512) (hy : y ≤ x) :
    Calls Try.prog 54 #[.slice ao (words x).length ca, .slice bo (words y).length cb] w fun e w' => ∃ ro rc, e = .returned (.tuple #[.slice ro (words (x - y)).length rc, .int .i64 0]) ∧ Own w.heap.size w' ro rc (words (x - y)) ∧ Below w.heap.size w w' := by
  have hl := words_mono hy
  have h := sub_any ca cb ha hb (by omega) (by omega)
  have e : subS (words x) (words y) = (words (x - y), 0) := by
    unfold subS
    simp only [sound_of_words hx, sound_of_words (Nat.le_trans hl hx), val_words, Bool.and_self, if_true]
    rw [if_neg (by omega)]
  rw [e] at h
  exact h
theorem add_words {w : World} {ao bo : Option Addr} {x y : Nat} (ca cb : Nat) (ha : Rd w ao (words x)) (hb : Rd w bo (words y)) (hx : (words x).length ≤ 512) (hy : (words y).length ≤ 512) :
    Calls Try.prog 56 #[.slice ao (words x).length ca, .slice bo (words y).length cb] w (Ans w (fitS (x + y))) := by
  have h := add_any ca cb ha hb (by omega) (by omega)
  have e : addS (words x) (words y) = fitS (x + y) := by
    unfold addS
    simp only [sound_of_words hx, sound_of_words hy, val_words, Bool.and_self, if_true]
  rw [e] at h
  exact h
theorem add_fit {w : World} {ao bo : Option Addr} {x y : Nat} (ca cb : Nat) (ha : Rd w ao (words x)) (hb : Rd w bo (words y)) (hx : (words x).length ≤ 512) (hy : (words y).length ≤ 512) (h : (words (x + y)).length ≤ 512) :
    Calls Try.prog 56 #[.slice ao (words x).length ca, .slice bo (words y).length cb] w fun e w' => ∃ ro rc, e = .returned (.tuple #[.slice ro (words (x + y)).length rc, .int .i64 0]) ∧ Own w.heap.size w' ro rc (words (x + y)) ∧ Below w.heap.size w w' := by
  have := add_words ca cb ha hb hx hy
  unfold fitS at this
  rw [if_pos h] at this
  exact this
theorem add_big {w : World} {ao bo : Option Addr} {x y : Nat} (ca cb : Nat) (ha : Rd w ao (words x)) (hb : Rd w bo (words y)) (hx : (words x).length ≤ 512) (hy : (words y).length ≤ 512) (h : ¬ (words (x + y)).length ≤ 512) :
    Calls Try.prog 56 #[.slice ao (words x).length ca, .slice bo (words y).length cb] w fun e w' => ∃ ro rc, e = .returned (.tuple #[.slice ro 0 rc, .int .i64 4]) ∧ Own w.heap.size w' ro rc [] ∧ Below w.heap.size w w' := by
  have := add_words ca cb ha hb hx hy
  unfold fitS at this
  rw [if_neg h] at this
  exact this
theorem words_toNat (b : Bool) : (words b.toNat).length ≤ 1 := words_length_le (by cases b <;> decide)
end Go.Proofs.Yteghiinbafbokaa
namespace Go.Proofs.Yteghiinbafbokaa
open Go.RowKit
set_option linter.unusedVariables false
set_option linter.unusedSimpArgs false

/-- How long an argument's lists can be. -/
structure LenQ (q : Q6) : Prop where
  l1 : q.t1.length ≤ 9223372036854775807
  l2 : q.q1.length ≤ 9223372036854775807
  l3 : q.t2.length ≤ 9223372036854775807
  l4 : q.q2.length ≤ 9223372036854775807
def soundQ (q : Q6) : Bool := soundN q.b1 q.t1 q.q1 q.b2 q.t2 q.q2
def wholeQ (q : Q6) : Bool := soundQ q && (decide (q.t2.length = 0) && decide (q.q1 = [1]))
theorem soundQ_any {w : World} {q : Q6} {o1 o2 o3 o4 : Option Addr} {c1 c2 c3 c4 : Nat} (h : Nm w q o1 c1 o2 c2 o3 c3 o4 c4) (hl : LenQ q) {r : Bool} (hr : soundQ q = r) :
    Calls Try.prog 52 #[numV q o1 c1 o2 c2 o3 c3 o4 c4] w fun e w' => e = .returned (.bool r) ∧ Below w.heap.size w w' := by
  subst hr
  exact soundN_any c1 c2 c3 c4 h.s1.rd h.s2.rd h.s3.rd h.s4.rd hl.l1 hl.l2 hl.l3 hl.l4 h.s1.nil h.s2.nil h.s3.nil h.s4.nil
theorem isRealQ_any {w : World} {q : Q6} {o1 o2 o3 o4 : Option Addr} {c1 c2 c3 c4 : Nat} (hl : LenQ q) {r : Bool} (hr : decide (q.t2.length = 0) = r) :
    Calls Try.prog 75 #[numV q o1 c1 o2 c2 o3 c3 o4 c4] w fun e w' => e = .returned (.bool r) ∧ Below w.heap.size w w' := by
  subst hr
  exact isReal_any hl.l3
theorem isOneQ_any {w : World} {ao : Option Addr} {l : List Nat} (ca : Nat) (ha : Rd w ao l) (hl : l.length ≤ 9223372036854775807) {r : Bool} (hr : decide (l = [1]) = r) :
    Calls Try.prog 76 #[.slice ao l.length ca] w fun e w' => e = .returned (.bool r) ∧ w' = w := by
  subst hr
  exact isOne_any ca ha hl
/-- What is asked of numbers whose bits are wanted. -/
def want1 (q : Q6) : Int := if soundQ q = true then (if wholeQ q = true then 0 else 10) else 2
def want2 (p q : Q6) : Int := if soundQ p = true ∧ soundQ q = true then (if wholeQ p = true ∧ wholeQ q = true then 0 else 10) else 2
/-- A sound whole number is told by its sign and its size. -/
theorem whole_form {q : Q6} (hd1 : Dig q.t1) (hd4 : Dig q.q2) (h : wholeQ q = true) : ∃ x, q = Q6.whole q.b1 x ∧ (words x).length ≤ 512 ∧ q.b1.toNat ≤ x := by
  unfold wholeQ soundQ soundN at h
  simp only [Bool.and_eq_true, decide_eq_true_eq] at h
  obtain ⟨⟨h1, h2⟩, h3, h4⟩ := h
  have h3' := List.length_eq_zero_iff.1 h3
  have hs1 : sound q.t1 = true := by
    apply Classical.byContradiction
    intro hn
    unfold fracS gcdS at h1
    simp [hn] at h1
  obtain ⟨e1, l1⟩ := sound_words hd1 hs1
  have hq2 : q.q2 = [1] := by
    unfold fracS gcdS at h2
    rw [h3'] at h2
    by_cases hs : sound q.q2 = true
    · have hs0 : sound [] = true := by decide
      simp only [hs0, hs, Bool.and_self, if_true, val_nil, Nat.gcd_zero_left, Bool.and_eq_true, decide_eq_true_eq] at h2
      have := h2.2.2
      rw [← (sound_words hd4 hs).1] at this
      exact this
    · simp [hs] at h2
  have hb2 : q.b2 = false := by
    unfold fracS at h2
    rw [h3'] at h2
    cases hb : q.b2 with
    | false => rfl
    | true => rw [hb] at h2; simp at h2
  refine ⟨val q.t1, ?_, by rw [← e1]; exact l1, ?_⟩
  · cases q
    simp only [Q6.whole] at *
    rw [← e1, h4, h3', hq2, hb2]
  · cases hb : q.b1 with
    | false => simp
    | true =>
      unfold fracS at h1
      rw [hb] at h1
      simp only [Bool.and_true, Bool.and_eq_true, Bool.not_eq_true', Bool.or_eq_false_iff, decide_eq_false_iff_not] at h1
      have hne := h1.1.2
      have : val q.t1 ≠ 0 := by
        intro e
        rw [e, words_zero] at e1
        rw [e1] at hne
        exact hne rfl
      simp
      omega
end Go.Proofs.Yteghiinbafbokaa
namespace Go.Proofs.Yteghiinbafbokaa
open Go.RowKit
set_option linter.unusedVariables false
set_option linter.unusedSimpArgs false
set_option maxRecDepth 100000
theorem is1_22 : Is1 Try.prog 22 := ⟨⟨_, Try.underlying22, rfl⟩, by kernel_rfl⟩
theorem is1_4 : Is1 Try.prog 4 := ⟨⟨_, Try.underlying4, rfl⟩, by kernel_rfl⟩
theorem fld_24_0 : FieldAt Try.prog 24 0 0 := ⟨_, _, Try.underlying24, rfl, rfl, by kernel_rfl⟩
theorem fld_24_1 : FieldAt Try.prog 24 1 1 := ⟨_, _, Try.underlying24, rfl, rfl, by kernel_rfl⟩
theorem fld_24_2 : FieldAt Try.prog 24 2 2 := ⟨_, _, Try.underlying24, rfl, rfl, by kernel_rfl⟩
theorem fld_26_0 : FieldAt Try.prog 26 0 0 := ⟨_, _, Try.underlying26, rfl, rfl, by kernel_rfl⟩
theorem fld_49_0 : FieldAt Try.prog 49 0 0 := ⟨_, _, Try.underlying49, rfl, rfl, by kernel_rfl⟩
theorem fld_49_1 : FieldAt Try.prog 49 1 1 := ⟨_, _, Try.underlying49, rfl, rfl, by kernel_rfl⟩
theorem isS_26 : IsS Try.prog 26 6 := ⟨⟨_, Try.underlying26⟩, by kernel_rfl⟩
theorem isS_49 : IsS Try.prog 49 2 := ⟨⟨_, Try.underlying49⟩, by kernel_rfl⟩
theorem turnStep_any {w : World} (b : Bool) : Calls Try.prog 55 #[.bool b] w (Row1 w (words b.toNat)) := by
  cases b
  · have hS : St w w [] [] [] := St.start w
    refine walk_of (l := [(0, .bool false)]) Try.func55 rfl Try.ntmps55 rfl rfl ?_
    intro Q hret hnorm hP a hA
    refine wp_seq_k (fun K1 hK1 => ?_)
    refine wp_region_lit ?_
    refine seq_do hA rfl rfl rfl (does_assign rfl) ?_
    intro a hA
    refine seq_end ?_
    refine hK1 _ _ ?_
    refine wp_seq_k (fun K2 hK2 => ?_)
    refine wp_seq_k (fun K3 hK3 => ?_)
    refine wp_region_lit ?_
    refine seq_do hA rfl rfl rfl (does_move rfl) ?_
    intro a hA
    refine seq_end ?_
    refine hK3 _ _ ?_
    refine wp_cond_false (hA.ev rfl) ?_
    refine wp_skip ?_
    refine hK2 _ _ ?_
    refine wp_seq_k (fun K4 hK4 => ?_)
    refine wp_region_lit ?_
    refine seq_call hA rfl rfl rfl (enters_func  rfl rfl (fun w => by kernel_rfl)) (of_any 0 _ (by decide)) ?_
    rintro _ w9 ⟨ro5, rc6, rfl, ho7, hb8⟩
    replace hS := hS.call hb8
    replace hS := hS.addR ho7.rd
    refine ⟨_, rfl, ?_⟩
    intro a hA
    refine seq_do hA rfl rfl rfl (does_assign rfl) ?_
    intro a hA
    refine seq_end ?_
    refine hK4 _ _ ?_
    refine wp_ret ?_
    refine hret _ _ ?_
    refine ends (v := .slice ro5 ((words 0).length) rc6) hA rfl (.cons (res_tmp rfl) .nil) rfl ?_
    exact ⟨_, _, rfl, ho7, hS.bel⟩
  · have hS : St w w [] [] [] := St.start w
    refine walk_of (l := [(0, .bool true)]) Try.func55 rfl Try.ntmps55 rfl rfl ?_
    intro Q hret hnorm hP a hA
    refine wp_seq_k (fun K1 hK1 => ?_)
    refine wp_region_lit ?_
    refine seq_do hA rfl rfl rfl (does_assign rfl) ?_
    intro a hA
    refine seq_end ?_
    refine hK1 _ _ ?_
    refine wp_seq_k (fun K2 hK2 => ?_)
    refine wp_seq_k (fun K3 hK3 => ?_)
    refine wp_region_lit ?_
    refine seq_do hA rfl rfl rfl (does_move rfl) ?_
    intro a hA
    refine seq_end ?_
    refine hK3 _ _ ?_
    refine wp_cond_true (hA.ev rfl) ?_
    refine wp_seq_k (fun K4 hK4 => ?_)
    refine wp_region_lit ?_
    refine seq_call hA rfl rfl rfl (enters_func  rfl rfl (fun w => by kernel_rfl)) (of_any 1 _ (by decide)) ?_
    rintro _ w9 ⟨ro5, rc6, rfl, ho7, hb8⟩
    replace hS := hS.call hb8
    replace hS := hS.addR ho7.rd
    refine ⟨_, rfl, ?_⟩
    intro a hA
    refine seq_do hA rfl rfl rfl (does_assign rfl) ?_
    intro a hA
    refine seq_end ?_
    refine hK4 _ _ ?_
    refine wp_ret ?_
    refine hret _ _ ?_
    refine ends (v := .slice ro5 ((words 1).length) rc6) hA rfl (.cons (res_tmp rfl) .nil) rfl ?_
    exact ⟨_, _, rfl, ho7, hS.bel⟩
theorem rowOf_any {w : World} {b : Bool} {x : Nat} {a1 a2 a3 a4 : Option Addr} {ac1 ac2 ac3 ac4 : Nat} (ha : Nm w (Q6.whole b x) a1 ac1 a2 ac2 a3 ac3 a4 ac4) (hx : (words x).length ≤ 512) (hb : b.toNat ≤ x) :
    Calls Try.prog 30 #[numV (Q6.whole b x) a1 ac1 a2 ac2 a3 ac3 a4 ac4] w fun e w' => ∃ ro rc, e = .returned (.agg #[.bool b, .slice ro (words (x - b.toNat)).length rc]) ∧ Sc w' ro rc (words (x - b.toNat)) ∧ Below w.heap.size w w' := by
  have hS : St w w [] [(a4, [1]), (a3, []), (a2, [1]), (a1, words x)] [] := ((((St.start w).addR ha.s1.rd).addR ha.s2.rd).addR ha.s3.rd).addR ha.s4.rd
  refine walk_of (l := [(0, .agg #[.bool b, .slice a1 ((words x).length) ac1, .slice a2 1 ac2, .bool false, .slice a3 0 ac3, .slice a4 1 ac4])]) Try.func30 rfl Try.ntmps30 rfl rfl ?_
  intro Q hret hnorm hP a hA
  refine wp_seq_k (fun K1 hK1 => ?_)
  refine wp_region_lit ?_
  refine seq_new (vs := [.bool b, .slice a1 ((words x).length) ac1, .slice a2 1 ac2, .bool false, .slice a3 0 ac3, .slice a4 1 ac4]) (t := 26) hA hS rfl rfl rfl (fun g => .pointer (some ⟨g, 0, none⟩)) (does_box rfl rfl) rfl ?_
  intro g2 w3 hS a hA
  refine seq_new (vs := [.bool false, .slice none 0 0]) (t := 49) hA hS rfl rfl rfl (fun g => .pointer (some ⟨g, 0, none⟩)) (does_alloc (z := .agg #[.bool false, .slice none 0 0]) (by kernel_rfl) rfl) rfl ?_
  intro g4 w5 hS a hA
  refine seq_end ?_
  refine hK1 _ _ ?_
  refine wp_seq_k (fun K6 hK6 => ?_)
  refine wp_draw (S := fun w1 => St w w1 [(g4, [.bool false, .slice none 0 0]), (g2, [.bool b, .slice a1 ((words x).length) ac1, .slice a2 1 ac2, .bool false, .slice a3 0 ac3, .slice a4 1 ac4])] [(a4, [1]), (a3, []), (a2, [1]), (a1, words x)] []) (by kernel_rfl) ?_
  replace hS := hS.drew
  refine any_take (v := .pointer (some ⟨g2, 0, none⟩)) hA 0 rfl rfl rfl rfl (by kernel_rfl) (by kernel_rfl) (by kernel_rfl) (fun c a w h => hP c a _ _ w h) (hS.part (.cons_cons _ (.cons_cons _ .slnil)) ⟨⟨0, rfl⟩, ⟨⟨1, rfl⟩, ⟨⟨2, rfl⟩, ⟨⟨3, rfl⟩, trivial⟩⟩⟩⟩ .slnil) (fun w1 hS => does_field fld_26_0 rfl rfl) ?_
  intro a hA
  refine any_take (v := .pointer (some ⟨g2, 1, none⟩)) hA 1 rfl rfl rfl rfl (by kernel_rfl) (by kernel_rfl) (by kernel_rfl) (fun c a w h => hP c a _ _ w h) (hS.part (.cons_cons _ (.cons_cons _ .slnil)) ⟨⟨0, rfl⟩, ⟨⟨1, rfl⟩, ⟨⟨2, rfl⟩, ⟨⟨3, rfl⟩, trivial⟩⟩⟩⟩ .slnil) (fun w1 hS => does_field fld_24_1 rfl rfl) ?_
  intro a hA
  refine any_take hA 2 rfl rfl rfl rfl (by kernel_rfl) (by kernel_rfl) (by kernel_rfl) (fun c a w h => hP c a _ _ w h) (hS.part (.cons_cons _ (.cons_cons _ .slnil)) ⟨⟨0, rfl⟩, ⟨⟨1, rfl⟩, ⟨⟨2, rfl⟩, ⟨⟨3, rfl⟩, trivial⟩⟩⟩⟩ .slnil) (fun w1 hS => does_load1 hS is1_22 rfl 1 rfl rfl) ?_
  intro a hA
  refine any_take (v := .pointer (some ⟨g2, 0, none⟩)) hA 3 rfl rfl rfl rfl (by kernel_rfl) (by kernel_rfl) (by kernel_rfl) (fun c a w h => hP c a _ _ w h) (hS.part (.cons_cons _ (.cons_cons _ .slnil)) ⟨⟨0, rfl⟩, ⟨⟨1, rfl⟩, ⟨⟨2, rfl⟩, ⟨⟨3, rfl⟩, trivial⟩⟩⟩⟩ .slnil) (fun w1 hS => does_field fld_26_0 rfl rfl) ?_
  intro a hA
  refine any_take (v := .pointer (some ⟨g2, 0, none⟩)) hA 4 rfl rfl rfl rfl (by kernel_rfl) (by kernel_rfl) (by kernel_rfl) (fun c a w h => hP c a _ _ w h) (hS.part (.cons_cons _ (.cons_cons _ .slnil)) ⟨⟨0, rfl⟩, ⟨⟨1, rfl⟩, ⟨⟨2, rfl⟩, ⟨⟨3, rfl⟩, trivial⟩⟩⟩⟩ .slnil) (fun w1 hS => does_field fld_24_0 rfl rfl) ?_
  intro a hA
  refine any_take hA 5 rfl rfl rfl rfl (by kernel_rfl) (by kernel_rfl) (by kernel_rfl) (fun c a w h => hP c a _ _ w h) (hS.part (.cons_cons _ (.cons_cons _ .slnil)) ⟨⟨0, rfl⟩, ⟨⟨1, rfl⟩, ⟨⟨2, rfl⟩, ⟨⟨3, rfl⟩, trivial⟩⟩⟩⟩ .slnil) (fun w1 hS => does_load1 hS is1_4 rfl 1 rfl rfl) ?_
  intro a hA
  refine any_one (by kernel_rfl) (op_call hA 6 rfl rfl rfl rfl (enters_func  rfl rfl (fun w => by kernel_rfl)) (turnStep_any b) ?_)
  rintro _ w11 ⟨ro7, rc8, rfl, ho9, hb10⟩
  replace hS := hS.call hb10
  replace hS := hS.addR ho9.rd
  refine ⟨_, rfl, (hS.part (.cons_cons _ (.cons_cons _ .slnil)) ⟨⟨1, rfl⟩, ⟨⟨2, rfl⟩, ⟨⟨3, rfl⟩, ⟨⟨4, rfl⟩, trivial⟩⟩⟩⟩ .slnil), ?_⟩
  intro a hA
  refine any_one (by kernel_rfl) (op_call hA 7 rfl rfl rfl rfl (enters_func  rfl rfl (fun w => by kernel_rfl)) (sub_words (x := x) (y := b.toNat) ac1 rc8 (hS.rd 4 rfl) (hS.rd 0 rfl) hx hb) ?_)
  rintro _ w16 ⟨ro12, rc13, rfl, ho14, hb15⟩
  replace hS := hS.call hb15
  replace hS := hS.addR ho14.rd
  refine ⟨_, rfl, (hS.part (.cons_cons _ (.cons_cons _ .slnil)) ⟨⟨2, rfl⟩, ⟨⟨3, rfl⟩, ⟨⟨4, rfl⟩, ⟨⟨5, rfl⟩, trivial⟩⟩⟩⟩ .slnil), ?_⟩
  intro a hA
  refine any_take hA 8 rfl rfl rfl rfl (by kernel_rfl) (by kernel_rfl) (by kernel_rfl) (fun c a w h => hP c a _ _ w h) (hS.part (.cons_cons _ (.cons_cons _ .slnil)) ⟨⟨2, rfl⟩, ⟨⟨3, rfl⟩, ⟨⟨4, rfl⟩, ⟨⟨5, rfl⟩, trivial⟩⟩⟩⟩ .slnil) (fun w1 hS => does_move rfl) ?_
  intro a hA
  refine any_take (v := .slice ro12 ((words (x - b.toNat)).length) rc13) hA 9 rfl rfl rfl rfl (by kernel_rfl) (by kernel_rfl) (by kernel_rfl) (fun c a w h => hP c a _ _ w h) (hS.part (.cons_cons _ (.cons_cons _ .slnil)) ⟨⟨2, rfl⟩, ⟨⟨3, rfl⟩, ⟨⟨4, rfl⟩, ⟨⟨5, rfl⟩, trivial⟩⟩⟩⟩ .slnil) (fun w1 hS => does_extract (vs := [.slice ro12 ((words (x - b.toNat)).length) rc13, .int .i64 0]) rfl rfl) ?_
  intro a hA
  refine any_take (v := .int .i64 0) hA 10 rfl rfl rfl rfl (by kernel_rfl) (by kernel_rfl) (by kernel_rfl) (fun c a w h => hP c a _ _ w h) (hS.part (.cons_cons _ (.cons_cons _ .slnil)) ⟨⟨2, rfl⟩, ⟨⟨3, rfl⟩, ⟨⟨4, rfl⟩, ⟨⟨5, rfl⟩, trivial⟩⟩⟩⟩ .slnil) (fun w1 hS => does_extract (vs := [.slice ro12 ((words (x - b.toNat)).length) rc13, .int .i64 0]) rfl rfl) ?_
  intro a hA
  refine any_take hA 11 rfl rfl rfl rfl (by kernel_rfl) (by kernel_rfl) (by kernel_rfl) (fun c a w h => hP c a _ _ w h) (hS.part (.cons_cons _ (.cons_cons _ .slnil)) ⟨⟨2, rfl⟩, ⟨⟨3, rfl⟩, ⟨⟨4, rfl⟩, ⟨⟨5, rfl⟩, trivial⟩⟩⟩⟩ .slnil) (fun w1 hS => does_assign rfl) ?_
  intro a hA
  refine any_take hA 12 rfl rfl rfl rfl (by kernel_rfl) (by kernel_rfl) (by kernel_rfl) (fun c a w h => hP c a _ _ w h) (hS.part (.cons_cons _ (.cons_cons _ .slnil)) ⟨⟨2, rfl⟩, ⟨⟨3, rfl⟩, ⟨⟨4, rfl⟩, ⟨⟨5, rfl⟩, trivial⟩⟩⟩⟩ .slnil) (fun w1 hS => does_assign rfl) ?_
  intro a hA
  refine any_end (by kernel_rfl) ?_
  refine hK6 _ _ ?_
  refine wp_seq_k (fun K17 hK17 => ?_)
  refine wp_region_lit ?_
  refine seq_do (v := .pointer (some ⟨g2, 0, none⟩)) hA rfl rfl rfl (does_field fld_26_0 rfl rfl) ?_
  intro a hA
  refine seq_do (v := .pointer (some ⟨g2, 0, none⟩)) hA rfl rfl rfl (does_field fld_24_0 rfl rfl) ?_
  intro a hA
  refine seq_do hA rfl rfl rfl (does_load1 hS is1_4 rfl 1 rfl rfl) ?_
  intro a hA
  refine seq_do hA rfl rfl rfl (does_move rfl) ?_
  intro a hA
  refine seq_do (v := .agg #[.bool b, .slice ro12 ((words (x - b.toNat)).length) rc13]) hA rfl rfl rfl (does_build rfl (fun w => by kernel_rfl)) ?_
  intro a hA
  refine seq_store (us := [.bool b, .slice ro12 ((words (x - b.toNat)).length) rc13]) hA hS rfl rfl (sets_store (cs := [.bool b, .slice ro12 ((words (x - b.toNat)).length) rc13]) rfl rfl rfl (by kernel_rfl) hS 0 rfl rfl rfl) 0 rfl rfl rfl rfl ?_
  intro w18 hS
  refine seq_end ?_
  refine hK17 _ _ ?_
  refine wp_ret ?_
  refine hret _ _ ?_
  refine ends (v := .agg #[.bool b, .slice ro12 ((words (x - b.toNat)).length) rc13]) hA rfl (.cons (res_cell hS isS_49 rfl 0 rfl (cs := [.bool b, .slice ro12 ((words (x - b.toNat)).length) rc13]) rfl rfl) .nil) rfl ?_
  exact ⟨_, _, rfl, ⟨(hS.rd 0 rfl), ho14.nocap, ho14.caps⟩, hS.bel⟩
theorem wholeV_any {w : World} (b : Bool) {so : Option Addr} {c : Nat} {x : Nat} (hs : Sc w so c (words x)) : Calls Try.prog 39 #[.bool b, .slice so (words x).length c] w (AnsV w (Q6.whole b x)) := by
  have hS : St w w [] [(so, words x)] [] := (St.start w).addR hs.rd
  refine walk_of (l := [(0, .bool b), (1, .slice so ((words x).length) c)]) Try.func39 rfl Try.ntmps39 rfl rfl ?_
  intro Q hret hnorm hP a hA
  refine wp_seq_k (fun K1 hK1 => ?_)
  refine wp_region_lit ?_
  refine seq_new (vs := [.bool false, .slice none 0 0, .slice none 0 0, .bool false, .slice none 0 0, .slice none 0 0]) (t := 26) hA hS rfl rfl rfl (fun g => .pointer (some ⟨g, 0, none⟩)) (does_alloc (z := .agg #[.bool false, .slice none 0 0, .slice none 0 0, .bool false, .slice none 0 0, .slice none 0 0]) (by kernel_rfl) rfl) rfl ?_
  intro g2 w3 hS a hA
  refine seq_end ?_
  refine hK1 _ _ ?_
  refine wp_seq_k (fun K4 hK4 => ?_)
  refine wp_region_lit ?_
  refine seq_do hA rfl rfl rfl (does_move rfl) ?_
  intro a hA
  refine seq_do hA rfl rfl rfl (does_move rfl) ?_
  intro a hA
  refine seq_call hA rfl rfl rfl (enters_func  rfl rfl (fun w => by kernel_rfl)) (of_one _) ?_
  rintro _ w9 ⟨ro5, rc6, rfl, ho7, hb8⟩
  replace hS := hS.call hb8
  replace hS := hS.addR ho7.rd
  refine ⟨_, rfl, ?_⟩
  intro a hA
  refine seq_do (v := .agg #[.bool b, .slice so ((words x).length) c, .slice ro5 1 rc6]) hA rfl rfl rfl (does_build rfl (fun w => by kernel_rfl)) ?_
  intro a hA
  refine seq_call hA rfl rfl rfl (enters_func  rfl rfl (fun w => by kernel_rfl)) (of_one _) ?_
  rintro _ w14 ⟨ro10, rc11, rfl, ho12, hb13⟩
  replace hS := hS.call hb13
  replace hS := hS.addR ho12.rd
  refine ⟨_, rfl, ?_⟩
  intro a hA
  refine seq_do (v := .agg #[.bool false, .slice none 0 0, .slice ro10 1 rc11]) hA rfl rfl rfl (does_build rfl (fun w => by kernel_rfl)) ?_
  intro a hA
  refine seq_do (v := .agg #[.bool b, .slice so ((words x).length) c, .slice ro5 1 rc6, .bool false, .slice none 0 0, .slice ro10 1 rc11]) hA rfl rfl rfl (does_build rfl (fun w => by kernel_rfl)) ?_
  intro a hA
  refine seq_store (us := [.bool b, .slice so ((words x).length) c, .slice ro5 1 rc6, .bool false, .slice none 0 0, .slice ro10 1 rc11]) hA hS rfl rfl (sets_store (cs := [.bool b, .slice so ((words x).length) c, .slice ro5 1 rc6, .bool false, .slice none 0 0, .slice ro10 1 rc11]) rfl rfl rfl (by kernel_rfl) hS 0 rfl rfl rfl) 0 rfl rfl rfl rfl ?_
  intro w15 hS
  refine seq_end ?_
  refine hK4 _ _ ?_
  refine wp_ret ?_
  refine hret _ _ ?_
  refine ends (v := .agg #[.bool b, .slice so ((words x).length) c, .slice ro5 1 rc6, .bool false, .slice none 0 0, .slice ro10 1 rc11]) hA rfl (.cons (res_cell hS isS_26 rfl 0 rfl (cs := [.bool b, .slice so ((words x).length) c, .slice ro5 1 rc6, .bool false, .slice none 0 0, .slice ro10 1 rc11]) rfl rfl) .nil) rfl ?_
  exact ⟨so, c, ro5, rc6, none, 0, ro10, rc11, rfl, ⟨⟨(hS.rd 2 rfl), hs.nil, hs.cap⟩, ⟨(hS.rd 1 rfl), ho7.nocap, ho7.caps⟩, (Sc.none _), ⟨(hS.rd 0 rfl), ho12.nocap, ho12.caps⟩⟩, hS.bel⟩
theorem number_any {w : World} {b : Bool} {ro : Option Addr} {rc y : Nat} (hr : Sc w ro rc (words y)) (hy : (words y).length ≤ 512) :
    Calls Try.prog 32 #[.agg #[.bool b, .slice ro (words y).length rc]] w (AnsN w (bigS b (y + b.toNat))) := by
  by_cases hf : (words (y + b.toNat)).length ≤ 512
  · have hS : St w w [] [(ro, words y)] [] := (St.start w).addR hr.rd
    refine walk_of (l := [(0, .agg #[.bool b, .slice ro ((words y).length) rc])]) Try.func32 rfl Try.ntmps32 rfl rfl ?_
    intro Q hret hnorm hP a hA
    refine wp_seq_k (fun K1 hK1 => ?_)
    refine wp_region_lit ?_
    refine seq_new (vs := [.bool b, .slice ro ((words y).length) rc]) (t := 49) hA hS rfl rfl rfl (fun g => .pointer (some ⟨g, 0, none⟩)) (does_box rfl rfl) rfl ?_
    intro g2 w3 hS a hA
    refine seq_new (vs := [.bool false, .slice none 0 0, .slice none 0 0, .bool false, .slice none 0 0, .slice none 0 0]) (t := 26) hA hS rfl rfl rfl (fun g => .pointer (some ⟨g, 0, none⟩)) (does_alloc (z := .agg #[.bool false, .slice none 0 0, .slice none 0 0, .bool false, .slice none 0 0, .slice none 0 0]) (by kernel_rfl) rfl) rfl ?_
    intro g4 w5 hS a hA
    refine seq_do hA rfl rfl rfl (does_assign rfl) ?_
    intro a hA
    refine seq_end ?_
    refine hK1 _ _ ?_
    refine wp_seq_k (fun K6 hK6 => ?_)
    refine wp_draw (S := fun w1 => St w w1 [(g4, [.bool false, .slice none 0 0, .slice none 0 0, .bool false, .slice none 0 0, .slice none 0 0]), (g2, [.bool b, .slice ro ((words y).length) rc])] [(ro, words y)] []) (by kernel_rfl) ?_
    replace hS := hS.drew
    refine any_take (v := .pointer (some ⟨g2, 1, none⟩)) hA 0 rfl rfl rfl rfl (by kernel_rfl) (by kernel_rfl) (by kernel_rfl) (fun c a w h => hP c a _ _ w h) (hS.part (.cons_cons _ (.cons_cons _ .slnil)) ⟨⟨0, rfl⟩, trivial⟩ .slnil) (fun w1 hS => does_field fld_49_1 rfl rfl) ?_
    intro a hA
    refine any_take hA 1 rfl rfl rfl rfl (by kernel_rfl) (by kernel_rfl) (by kernel_rfl) (fun c a w h => hP c a _ _ w h) (hS.part (.cons_cons _ (.cons_cons _ .slnil)) ⟨⟨0, rfl⟩, trivial⟩ .slnil) (fun w1 hS => does_load1 hS is1_22 rfl 1 rfl rfl) ?_
    intro a hA
    refine any_take (v := .pointer (some ⟨g2, 0, none⟩)) hA 2 rfl rfl rfl rfl (by kernel_rfl) (by kernel_rfl) (by kernel_rfl) (fun c a w h => hP c a _ _ w h) (hS.part (.cons_cons _ (.cons_cons _ .slnil)) ⟨⟨0, rfl⟩, trivial⟩ .slnil) (fun w1 hS => does_field fld_49_0 rfl rfl) ?_
    intro a hA
    refine any_take hA 3 rfl rfl rfl rfl (by kernel_rfl) (by kernel_rfl) (by kernel_rfl) (fun c a w h => hP c a _ _ w h) (hS.part (.cons_cons _ (.cons_cons _ .slnil)) ⟨⟨0, rfl⟩, trivial⟩ .slnil) (fun w1 hS => does_load1 hS is1_4 rfl 1 rfl rfl) ?_
    intro a hA
    refine any_one (by kernel_rfl) (op_call hA 4 rfl rfl rfl rfl (enters_func  rfl rfl (fun w => by kernel_rfl)) (turnStep_any b) ?_)
    rintro _ w11 ⟨ro7, rc8, rfl, ho9, hb10⟩
    replace hS := hS.call hb10
    replace hS := hS.addR ho9.rd
    refine ⟨_, rfl, (hS.part (.cons_cons _ (.cons_cons _ .slnil)) ⟨⟨1, rfl⟩, trivial⟩ .slnil), ?_⟩
    intro a hA
    refine any_one (by kernel_rfl) (op_call hA 5 rfl rfl rfl rfl (enters_func  rfl rfl (fun w => by kernel_rfl)) (add_fit (x := y) (y := b.toNat) rc rc8 (hS.rd 1 rfl) (hS.rd 0 rfl) hy (Nat.le_trans (words_toNat b) (by decide)) hf) ?_)
    rintro _ w16 ⟨ro12, rc13, rfl, ho14, hb15⟩
    replace hS := hS.call hb15
    replace hS := hS.addR ho14.rd
    refine ⟨_, rfl, (hS.part (.cons_cons _ (.cons_cons _ .slnil)) ⟨⟨2, rfl⟩, trivial⟩ .slnil), ?_⟩
    intro a hA
    refine any_take hA 6 rfl rfl rfl rfl (by kernel_rfl) (by kernel_rfl) (by kernel_rfl) (fun c a w h => hP c a _ _ w h) (hS.part (.cons_cons _ (.cons_cons _ .slnil)) ⟨⟨2, rfl⟩, trivial⟩ .slnil) (fun w1 hS => does_move rfl) ?_
    intro a hA
    refine any_take (v := .slice ro12 ((words (y + b.toNat)).length) rc13) hA 7 rfl rfl rfl rfl (by kernel_rfl) (by kernel_rfl) (by kernel_rfl) (fun c a w h => hP c a _ _ w h) (hS.part (.cons_cons _ (.cons_cons _ .slnil)) ⟨⟨2, rfl⟩, trivial⟩ .slnil) (fun w1 hS => does_extract (vs := [.slice ro12 ((words (y + b.toNat)).length) rc13, .int .i64 0]) rfl rfl) ?_
    intro a hA
    refine any_take (v := .int .i64 0) hA 8 rfl rfl rfl rfl (by kernel_rfl) (by kernel_rfl) (by kernel_rfl) (fun c a w h => hP c a _ _ w h) (hS.part (.cons_cons _ (.cons_cons _ .slnil)) ⟨⟨2, rfl⟩, trivial⟩ .slnil) (fun w1 hS => does_extract (vs := [.slice ro12 ((words (y + b.toNat)).length) rc13, .int .i64 0]) rfl rfl) ?_
    intro a hA
    refine any_take hA 9 rfl rfl rfl rfl (by kernel_rfl) (by kernel_rfl) (by kernel_rfl) (fun c a w h => hP c a _ _ w h) (hS.part (.cons_cons _ (.cons_cons _ .slnil)) ⟨⟨2, rfl⟩, trivial⟩ .slnil) (fun w1 hS => does_assign rfl) ?_
    intro a hA
    refine any_take hA 10 rfl rfl rfl rfl (by kernel_rfl) (by kernel_rfl) (by kernel_rfl) (fun c a w h => hP c a _ _ w h) (hS.part (.cons_cons _ (.cons_cons _ .slnil)) ⟨⟨2, rfl⟩, trivial⟩ .slnil) (fun w1 hS => does_assign rfl) ?_
    intro a hA
    refine any_end (by kernel_rfl) ?_
    refine hK6 _ _ ?_
    refine wp_seq_k (fun K17 hK17 => ?_)
    refine wp_seq_k (fun K18 hK18 => ?_)
    refine wp_region_lit ?_
    refine seq_do hA rfl rfl rfl (does_move rfl) ?_
    intro a hA
    refine seq_do (v := .bool false) hA rfl rfl rfl (does_bin rfl rfl (fun w => by kernel_rfl)) ?_
    intro a hA
    refine seq_end ?_
    refine hK18 _ _ ?_
    refine wp_cond_false (hA.ev rfl) ?_
    refine wp_skip ?_
    refine hK17 _ _ ?_
    refine wp_seq_k (fun K19 hK19 => ?_)
    refine wp_region_lit ?_
    refine seq_do (v := .pointer (some ⟨g2, 0, none⟩)) hA rfl rfl rfl (does_field fld_49_0 rfl rfl) ?_
    intro a hA
    refine seq_do hA rfl rfl rfl (does_load1 hS is1_4 rfl 1 rfl rfl) ?_
    intro a hA
    refine seq_do hA rfl rfl rfl (does_move rfl) ?_
    intro a hA
    refine seq_call hA rfl rfl rfl (enters_func  rfl rfl (fun w => by kernel_rfl)) (wholeV_any b ⟨(hS.rd 0 rfl), ho14.nocap, ho14.caps⟩) ?_
    rintro _ w23 ⟨p20_1, p20_c1, p20_2, p20_c2, p20_3, p20_c3, p20_4, p20_c4, rfl, hn21, hb22⟩
    replace hS := hS.call hb22
    replace hS := hS.addR hn21.s1.rd
    replace hS := hS.addR hn21.s2.rd
    replace hS := hS.addR hn21.s3.rd
    replace hS := hS.addR hn21.s4.rd
    refine ⟨_, rfl, ?_⟩
    intro a hA
    refine seq_store (us := [.bool b, .slice p20_1 ((words (y + b.toNat)).length) p20_c1, .slice p20_2 1 p20_c2, .bool false, .slice p20_3 0 p20_c3, .slice p20_4 1 p20_c4]) hA hS rfl rfl (sets_store (cs := [.bool b, .slice p20_1 ((words (y + b.toNat)).length) p20_c1, .slice p20_2 1 p20_c2, .bool false, .slice p20_3 0 p20_c3, .slice p20_4 1 p20_c4]) rfl rfl rfl (by kernel_rfl) hS 0 rfl rfl rfl) 0 rfl rfl rfl rfl ?_
    intro w24 hS
    refine seq_do hA rfl rfl rfl (does_assign rfl) ?_
    intro a hA
    refine seq_end ?_
    refine hK19 _ _ ?_
    refine wp_ret ?_
    refine hret _ _ ?_
    refine ends (v := .tuple #[.agg #[.bool b, .slice p20_1 ((words (y + b.toNat)).length) p20_c1, .slice p20_2 1 p20_c2, .bool false, .slice p20_3 0 p20_c3, .slice p20_4 1 p20_c4], .int .i64 0]) hA rfl (.cons (res_cell hS isS_26 rfl 0 rfl (cs := [.bool b, .slice p20_1 ((words (y + b.toNat)).length) p20_c1, .slice p20_2 1 p20_c2, .bool false, .slice p20_3 0 p20_c3, .slice p20_4 1 p20_c4]) rfl rfl) (.cons (res_tmp rfl) .nil)) rfl ?_
    rw [bigS_pos hf]
    exact ⟨p20_1, p20_c1, p20_2, p20_c2, p20_3, p20_c3, p20_4, p20_c4, rfl, ⟨⟨(hS.rd 3 rfl), hn21.s1.nil, hn21.s1.cap⟩, ⟨(hS.rd 2 rfl), hn21.s2.nil, hn21.s2.cap⟩, ⟨(hS.rd 1 rfl), hn21.s3.nil, hn21.s3.cap⟩, ⟨(hS.rd 0 rfl), hn21.s4.nil, hn21.s4.cap⟩⟩, hS.bel⟩
  · have hS : St w w [] [(ro, words y)] [] := (St.start w).addR hr.rd
    refine walk_of (l := [(0, .agg #[.bool b, .slice ro ((words y).length) rc])]) Try.func32 rfl Try.ntmps32 rfl rfl ?_
    intro Q hret hnorm hP a hA
    refine wp_seq_k (fun K1 hK1 => ?_)
    refine wp_region_lit ?_
    refine seq_new (vs := [.bool b, .slice ro ((words y).length) rc]) (t := 49) hA hS rfl rfl rfl (fun g => .pointer (some ⟨g, 0, none⟩)) (does_box rfl rfl) rfl ?_
    intro g2 w3 hS a hA
    refine seq_new (vs := [.bool false, .slice none 0 0, .slice none 0 0, .bool false, .slice none 0 0, .slice none 0 0]) (t := 26) hA hS rfl rfl rfl (fun g => .pointer (some ⟨g, 0, none⟩)) (does_alloc (z := .agg #[.bool false, .slice none 0 0, .slice none 0 0, .bool false, .slice none 0 0, .slice none 0 0]) (by kernel_rfl) rfl) rfl ?_
    intro g4 w5 hS a hA
    refine seq_do hA rfl rfl rfl (does_assign rfl) ?_
    intro a hA
    refine seq_end ?_
    refine hK1 _ _ ?_
    refine wp_seq_k (fun K6 hK6 => ?_)
    refine wp_draw (S := fun w1 => St w w1 [(g4, [.bool false, .slice none 0 0, .slice none 0 0, .bool false, .slice none 0 0, .slice none 0 0]), (g2, [.bool b, .slice ro ((words y).length) rc])] [(ro, words y)] []) (by kernel_rfl) ?_
    replace hS := hS.drew
    refine any_take (v := .pointer (some ⟨g2, 1, none⟩)) hA 0 rfl rfl rfl rfl (by kernel_rfl) (by kernel_rfl) (by kernel_rfl) (fun c a w h => hP c a _ _ w h) (hS.part (.cons_cons _ (.cons_cons _ .slnil)) ⟨⟨0, rfl⟩, trivial⟩ .slnil) (fun w1 hS => does_field fld_49_1 rfl rfl) ?_
    intro a hA
    refine any_take hA 1 rfl rfl rfl rfl (by kernel_rfl) (by kernel_rfl) (by kernel_rfl) (fun c a w h => hP c a _ _ w h) (hS.part (.cons_cons _ (.cons_cons _ .slnil)) ⟨⟨0, rfl⟩, trivial⟩ .slnil) (fun w1 hS => does_load1 hS is1_22 rfl 1 rfl rfl) ?_
    intro a hA
    refine any_take (v := .pointer (some ⟨g2, 0, none⟩)) hA 2 rfl rfl rfl rfl (by kernel_rfl) (by kernel_rfl) (by kernel_rfl) (fun c a w h => hP c a _ _ w h) (hS.part (.cons_cons _ (.cons_cons _ .slnil)) ⟨⟨0, rfl⟩, trivial⟩ .slnil) (fun w1 hS => does_field fld_49_0 rfl rfl) ?_
    intro a hA
    refine any_take hA 3 rfl rfl rfl rfl (by kernel_rfl) (by kernel_rfl) (by kernel_rfl) (fun c a w h => hP c a _ _ w h) (hS.part (.cons_cons _ (.cons_cons _ .slnil)) ⟨⟨0, rfl⟩, trivial⟩ .slnil) (fun w1 hS => does_load1 hS is1_4 rfl 1 rfl rfl) ?_
    intro a hA
    refine any_one (by kernel_rfl) (op_call hA 4 rfl rfl rfl rfl (enters_func  rfl rfl (fun w => by kernel_rfl)) (turnStep_any b) ?_)
    rintro _ w11 ⟨ro7, rc8, rfl, ho9, hb10⟩
    replace hS := hS.call hb10
    replace hS := hS.addR ho9.rd
    refine ⟨_, rfl, (hS.part (.cons_cons _ (.cons_cons _ .slnil)) ⟨⟨1, rfl⟩, trivial⟩ .slnil), ?_⟩
    intro a hA
    refine any_one (by kernel_rfl) (op_call hA 5 rfl rfl rfl rfl (enters_func  rfl rfl (fun w => by kernel_rfl)) (add_big (x := y) (y := b.toNat) rc rc8 (hS.rd 1 rfl) (hS.rd 0 rfl) hy (Nat.le_trans (words_toNat b) (by decide)) hf) ?_)
    rintro _ w16 ⟨ro12, rc13, rfl, ho14, hb15⟩
    replace hS := hS.call hb15
    replace hS := hS.addR ho14.rd
    refine ⟨_, rfl, (hS.part (.cons_cons _ (.cons_cons _ .slnil)) ⟨⟨2, rfl⟩, trivial⟩ .slnil), ?_⟩
    intro a hA
    refine any_take hA 6 rfl rfl rfl rfl (by kernel_rfl) (by kernel_rfl) (by kernel_rfl) (fun c a w h => hP c a _ _ w h) (hS.part (.cons_cons _ (.cons_cons _ .slnil)) ⟨⟨2, rfl⟩, trivial⟩ .slnil) (fun w1 hS => does_move rfl) ?_
    intro a hA
    refine any_take (v := .slice ro12 0 rc13) hA 7 rfl rfl rfl rfl (by kernel_rfl) (by kernel_rfl) (by kernel_rfl) (fun c a w h => hP c a _ _ w h) (hS.part (.cons_cons _ (.cons_cons _ .slnil)) ⟨⟨2, rfl⟩, trivial⟩ .slnil) (fun w1 hS => does_extract (vs := [.slice ro12 0 rc13, .int .i64 4]) rfl rfl) ?_
    intro a hA
    refine any_take (v := .int .i64 4) hA 8 rfl rfl rfl rfl (by kernel_rfl) (by kernel_rfl) (by kernel_rfl) (fun c a w h => hP c a _ _ w h) (hS.part (.cons_cons _ (.cons_cons _ .slnil)) ⟨⟨2, rfl⟩, trivial⟩ .slnil) (fun w1 hS => does_extract (vs := [.slice ro12 0 rc13, .int .i64 4]) rfl rfl) ?_
    intro a hA
    refine any_take hA 9 rfl rfl rfl rfl (by kernel_rfl) (by kernel_rfl) (by kernel_rfl) (fun c a w h => hP c a _ _ w h) (hS.part (.cons_cons _ (.cons_cons _ .slnil)) ⟨⟨2, rfl⟩, trivial⟩ .slnil) (fun w1 hS => does_assign rfl) ?_
    intro a hA
    refine any_take hA 10 rfl rfl rfl rfl (by kernel_rfl) (by kernel_rfl) (by kernel_rfl) (fun c a w h => hP c a _ _ w h) (hS.part (.cons_cons _ (.cons_cons _ .slnil)) ⟨⟨2, rfl⟩, trivial⟩ .slnil) (fun w1 hS => does_assign rfl) ?_
    intro a hA
    refine any_end (by kernel_rfl) ?_
    refine hK6 _ _ ?_
    refine wp_seq_k (fun K17 hK17 => ?_)
    refine wp_seq_k (fun K18 hK18 => ?_)
    refine wp_region_lit ?_
    refine seq_do hA rfl rfl rfl (does_move rfl) ?_
    intro a hA
    refine seq_do (v := .bool true) hA rfl rfl rfl (does_bin rfl rfl (fun w => by kernel_rfl)) ?_
    intro a hA
    refine seq_end ?_
    refine hK18 _ _ ?_
    refine wp_cond_true (hA.ev rfl) ?_
    refine wp_seq_k (fun K19 hK19 => ?_)
    refine wp_region_lit ?_
    refine seq_do (v := .agg #[.bool false, .slice none 0 0, .slice none 0 0, .bool false, .slice none 0 0, .slice none 0 0]) hA rfl rfl rfl (does_build rfl (fun w => by kernel_rfl)) ?_
    intro a hA
    refine seq_do hA rfl rfl rfl (does_move rfl) ?_
    intro a hA
    refine seq_store (us := [.bool false, .slice none 0 0, .slice none 0 0, .bool false, .slice none 0 0, .slice none 0 0]) hA hS rfl rfl (sets_store (cs := [.bool false, .slice none 0 0, .slice none 0 0, .bool false, .slice none 0 0, .slice none 0 0]) rfl rfl rfl (by kernel_rfl) hS 0 rfl rfl rfl) 0 rfl rfl rfl rfl ?_
    intro w20 hS
    refine seq_do hA rfl rfl rfl (does_assign rfl) ?_
    intro a hA
    refine seq_end ?_
    refine hK19 _ _ ?_
    refine wp_ret ?_
    refine hret _ _ ?_
    refine ends (v := .tuple #[.agg #[.bool false, .slice none 0 0, .slice none 0 0, .bool false, .slice none 0 0, .slice none 0 0], .int .i64 4]) hA rfl (.cons (res_cell hS isS_26 rfl 0 rfl (cs := [.bool false, .slice none 0 0, .slice none 0 0, .bool false, .slice none 0 0, .slice none 0 0]) rfl rfl) (.cons (res_tmp rfl) .nil)) rfl ?_
    rw [bigS_neg hf]
    exact ⟨none, 0, none, 0, none, 0, none, 0, rfl, ⟨(Sc.none _), (Sc.none _), (Sc.none _), (Sc.none _)⟩, hS.bel⟩
theorem endless_any {w : World} {b : Bool} {ro : Option Addr} {n rc : Nat} : Calls Try.prog 71 #[.agg #[.bool b, .slice ro n rc]] w fun e w' => e = .returned (.int .u32 ((b.toNat * 4294967295 : Nat) : Int)) ∧ Below w.heap.size w w' := by
  cases b
  · have hS : St w w [] [] [] := St.start w
    refine walk_of (l := [(0, .agg #[.bool false, .slice ro n rc])]) Try.func71 rfl Try.ntmps71 rfl rfl ?_
    intro Q hret hnorm hP a hA
    refine wp_seq_k (fun K1 hK1 => ?_)
    refine wp_region_lit ?_
    refine seq_new (vs := [.bool false, .slice ro n rc]) (t := 49) hA hS rfl rfl rfl (fun g => .pointer (some ⟨g, 0, none⟩)) (does_box rfl rfl) rfl ?_
    intro g2 w3 hS a hA
    refine seq_do hA rfl rfl rfl (does_assign rfl) ?_
    intro a hA
    refine seq_end ?_
    refine hK1 _ _ ?_
    refine wp_seq_k (fun K4 hK4 => ?_)
    refine wp_seq_k (fun K5 hK5 => ?_)
    refine wp_region_lit ?_
    refine seq_do (v := .pointer (some ⟨g2, 0, none⟩)) hA rfl rfl rfl (does_field fld_49_0 rfl rfl) ?_
    intro a hA
    refine seq_do hA rfl rfl rfl (does_load1 hS is1_4 rfl 0 rfl rfl) ?_
    intro a hA
    refine seq_end ?_
    refine hK5 _ _ ?_
    refine wp_cond_false (hA.ev rfl) ?_
    refine wp_skip ?_
    refine hK4 _ _ ?_
    refine wp_seq_k (fun K6 hK6 => ?_)
    refine wp_region_lit ?_
    refine seq_do hA rfl rfl rfl (does_assign rfl) ?_
    intro a hA
    refine seq_end ?_
    refine hK6 _ _ ?_
    refine wp_ret ?_
    refine hret _ _ ?_
    refine ends (v := .int .u32 0) hA rfl (.cons (res_tmp rfl) .nil) rfl ?_
    exact ⟨rfl, hS.bel⟩
  · have hS : St w w [] [] [] := St.start w
    refine walk_of (l := [(0, .agg #[.bool true, .slice ro n rc])]) Try.func71 rfl Try.ntmps71 rfl rfl ?_
    intro Q hret hnorm hP a hA
    refine wp_seq_k (fun K1 hK1 => ?_)
    refine wp_region_lit ?_
    refine seq_new (vs := [.bool true, .slice ro n rc]) (t := 49) hA hS rfl rfl rfl (fun g => .pointer (some ⟨g, 0, none⟩)) (does_box rfl rfl) rfl ?_
    intro g2 w3 hS a hA
    refine seq_do hA rfl rfl rfl (does_assign rfl) ?_
    intro a hA
    refine seq_end ?_
    refine hK1 _ _ ?_
    refine wp_seq_k (fun K4 hK4 => ?_)
    refine wp_seq_k (fun K5 hK5 => ?_)
    refine wp_region_lit ?_
    refine seq_do (v := .pointer (some ⟨g2, 0, none⟩)) hA rfl rfl rfl (does_field fld_49_0 rfl rfl) ?_
    intro a hA
    refine seq_do hA rfl rfl rfl (does_load1 hS is1_4 rfl 0 rfl rfl) ?_
    intro a hA
    refine seq_end ?_
    refine hK5 _ _ ?_
    refine wp_cond_true (hA.ev rfl) ?_
    refine wp_seq_k (fun K6 hK6 => ?_)
    refine wp_region_lit ?_
    refine seq_do hA rfl rfl rfl (does_assign rfl) ?_
    intro a hA
    refine seq_end ?_
    refine hK6 _ _ ?_
    refine wp_ret ?_
    refine hret _ _ ?_
    refine ends (v := .int .u32 4294967295) hA rfl (.cons (res_tmp rfl) .nil) rfl ?_
    exact ⟨rfl, hS.bel⟩
theorem turned_any {w : World} {b : Bool} {ro : Option Addr} {n rc : Nat} : Calls Try.prog 31 #[.agg #[.bool b, .slice ro n rc]] w fun e w' => e = .returned (.agg #[.bool (!b), .slice ro n rc]) ∧ Below w.heap.size w w' := by
  have hS : St w w [] [] [] := St.start w
  refine walk_of (l := [(0, .agg #[.bool b, .slice ro n rc])]) Try.func31 rfl Try.ntmps31 rfl rfl ?_
  intro Q hret hnorm hP a hA
  refine wp_seq_k (fun K1 hK1 => ?_)
  refine wp_region_lit ?_
  refine seq_new (vs := [.bool b, .slice ro n rc]) (t := 49) hA hS rfl rfl rfl (fun g => .pointer (some ⟨g, 0, none⟩)) (does_box rfl rfl) rfl ?_
  intro g2 w3 hS a hA
  refine seq_new (vs := [.bool false, .slice none 0 0]) (t := 49) hA hS rfl rfl rfl (fun g => .pointer (some ⟨g, 0, none⟩)) (does_alloc (z := .agg #[.bool false, .slice none 0 0]) (by kernel_rfl) rfl) rfl ?_
  intro g4 w5 hS a hA
  refine seq_end ?_
  refine hK1 _ _ ?_
  refine wp_seq_k (fun K6 hK6 => ?_)
  refine wp_region_lit ?_
  refine seq_do (v := .pointer (some ⟨g2, 0, none⟩)) hA rfl rfl rfl (does_field fld_49_0 rfl rfl) ?_
  intro a hA
  refine seq_do hA rfl rfl rfl (does_load1 hS is1_4 rfl 1 rfl rfl) ?_
  intro a hA
  refine seq_do (v := .bool (!b)) hA rfl rfl rfl (does_un rfl un_not) ?_
  intro a hA
  refine seq_do (v := .pointer (some ⟨g2, 1, none⟩)) hA rfl rfl rfl (does_field fld_49_1 rfl rfl) ?_
  intro a hA
  refine seq_do hA rfl rfl rfl (does_load1 hS is1_22 rfl 1 rfl rfl) ?_
  intro a hA
  refine seq_do (v := .agg #[.bool (!b), .slice ro n rc]) hA rfl rfl rfl (does_build rfl (fun w => by kernel_rfl)) ?_
  intro a hA
  refine seq_store (us := [.bool (!b), .slice ro n rc]) hA hS rfl rfl (sets_store (cs := [.bool (!b), .slice ro n rc]) rfl rfl rfl (by kernel_rfl) hS 0 rfl rfl rfl) 0 rfl rfl rfl rfl ?_
  intro w7 hS
  refine seq_end ?_
  refine hK6 _ _ ?_
  refine wp_ret ?_
  refine hret _ _ ?_
  refine ends (v := .agg #[.bool (!b), .slice ro n rc]) hA rfl (.cons (res_cell hS isS_49 rfl 0 rfl (cs := [.bool (!b), .slice ro n rc]) rfl rfl) .nil) rfl ?_
  exact ⟨rfl, hS.bel⟩
theorem wholeQ_any {w : World} {q : Q6} {a1 a2 a3 a4 : Option Addr} {ac1 ac2 ac3 ac4 : Nat} (ha : Nm w q a1 ac1 a2 ac2 a3 ac3 a4 ac4) (hl : LenQ q) {r : Bool} (hr : wholeQ q = r) : Calls Try.prog 53 #[numV q a1 ac1 a2 ac2 a3 ac3 a4 ac4] w fun e w' => e = .returned (.bool r) ∧ Below w.heap.size w w' := by
  have hS : St w w [] [(a4, q.q2), (a3, q.t2), (a2, q.q1), (a1, q.t1)] [] := ((((St.start w).addR ha.s1.rd).addR ha.s2.rd).addR ha.s3.rd).addR ha.s4.rd
  refine walk_of (l := [(0, .agg #[.bool q.b1, .slice a1 q.t1.length ac1, .slice a2 q.q1.length ac2, .bool q.b2, .slice a3 q.t2.length ac3, .slice a4 q.q2.length ac4])]) Try.func53 rfl Try.ntmps53 rfl rfl ?_
  intro Q hret hnorm hP a hA
  refine wp_seq_k (fun K1 hK1 => ?_)
  refine wp_region_lit ?_
  refine seq_new (vs := [.bool q.b1, .slice a1 q.t1.length ac1, .slice a2 q.q1.length ac2, .bool q.b2, .slice a3 q.t2.length ac3, .slice a4 q.q2.length ac4]) (t := 26) hA hS rfl rfl rfl (fun g => .pointer (some ⟨g, 0, none⟩)) (does_box rfl rfl) rfl ?_
  intro g2 w3 hS a hA
  refine seq_do hA rfl rfl rfl (does_assign rfl) ?_
  intro a hA
  refine seq_end ?_
  refine hK1 _ _ ?_
  refine wp_seq_k (fun K4 hK4 => ?_)
  refine wp_region_lit ?_
  refine seq_do (v := .agg #[.bool q.b1, .slice a1 q.t1.length ac1, .slice a2 q.q1.length ac2, .bool q.b2, .slice a3 q.t2.length ac3, .slice a4 q.q2.length ac4]) hA rfl rfl rfl (does_loadS hS isS_26 rfl 0 rfl (cs := [.bool q.b1, .slice a1 q.t1.length ac1, .slice a2 q.q1.length ac2, .bool q.b2, .slice a3 q.t2.length ac3, .slice a4 q.q2.length ac4]) rfl rfl) ?_
  intro a hA
  rcases Bool.eq_false_or_eq_true (soundQ q) with hb5 | hb5
  · refine seq_call hA rfl rfl rfl (enters_func  rfl rfl (fun w => by kernel_rfl)) (soundQ_any (show Nm _ _ a1 ac1 a2 ac2 a3 ac3 a4 ac4 from ⟨⟨(hS.rd 3 rfl), ha.s1.nil, ha.s1.cap⟩, ⟨(hS.rd 2 rfl), ha.s2.nil, ha.s2.cap⟩, ⟨(hS.rd 1 rfl), ha.s3.nil, ha.s3.cap⟩, ⟨(hS.rd 0 rfl), ha.s4.nil, ha.s4.cap⟩⟩) hl hb5) ?_
    rintro _ w7 ⟨rfl, hb6⟩
    replace hS := hS.call hb6
    refine ⟨_, rfl, ?_⟩
    intro a hA
    refine seq_do hA rfl rfl rfl (does_move rfl) ?_
    intro a hA
    refine seq_do (v := .agg #[.bool q.b1, .slice a1 q.t1.length ac1, .slice a2 q.q1.length ac2, .bool q.b2, .slice a3 q.t2.length ac3, .slice a4 q.q2.length ac4]) hA rfl rfl rfl (does_loadS hS isS_26 rfl 0 rfl (cs := [.bool q.b1, .slice a1 q.t1.length ac1, .slice a2 q.q1.length ac2, .bool q.b2, .slice a3 q.t2.length ac3, .slice a4 q.q2.length ac4]) rfl rfl) ?_
    intro a hA
    rcases Bool.eq_false_or_eq_true (decide (q.t2.length = 0)) with hb8 | hb8
    · have hb8' := of_decide_eq_true hb8
      refine seq_call hA rfl rfl rfl (enters_func  rfl rfl (fun w => by kernel_rfl)) (isRealQ_any hl hb8) ?_
      rintro _ w10 ⟨rfl, hb9⟩
      replace hS := hS.call hb9
      refine ⟨_, rfl, ?_⟩
      intro a hA
      refine seq_do (v := .bool true) hA rfl rfl rfl (does_pick rfl rfl rfl rfl) ?_
      intro a hA
      refine seq_do hA rfl rfl rfl (does_move rfl) ?_
      intro a hA
      refine seq_do (v := .pointer (some ⟨g2, 0, none⟩)) hA rfl rfl rfl (does_field fld_26_0 rfl rfl) ?_
      intro a hA
      refine seq_do (v := .pointer (some ⟨g2, 2, none⟩)) hA rfl rfl rfl (does_field fld_24_2 rfl rfl) ?_
      intro a hA
      refine seq_do hA rfl rfl rfl (does_load1 hS is1_22 rfl 0 rfl rfl) ?_
      intro a hA
      rcases Bool.eq_false_or_eq_true (decide (q.q1 = [1])) with hb11 | hb11
      · have hb11' := of_decide_eq_true hb11
        refine seq_call hA rfl rfl rfl (enters_func  rfl rfl (fun w => by kernel_rfl)) (isOneQ_any _ (hS.rd 2 rfl) hl.l2 hb11) ?_
        rintro _ w13 ⟨rfl, hb12⟩
        replace hb12 := below_eq hb12
        replace hS := hS.call hb12
        refine ⟨_, rfl, ?_⟩
        intro a hA
        refine seq_do (v := .bool true) hA rfl rfl rfl (does_pick rfl rfl rfl rfl) ?_
        intro a hA
        refine seq_do hA rfl rfl rfl (does_assign rfl) ?_
        intro a hA
        refine seq_end ?_
        refine hK4 _ _ ?_
        refine wp_ret ?_
        refine hret _ _ ?_
        refine ends (v := .bool true) hA rfl (.cons (res_tmp rfl) .nil) rfl ?_
        subst hr
        exact ⟨by unfold wholeQ; rw [hb5, hb8, hb11]; try rfl, hS.bel⟩
      · have hb11' := of_decide_eq_false hb11
        refine seq_call hA rfl rfl rfl (enters_func  rfl rfl (fun w => by kernel_rfl)) (isOneQ_any _ (hS.rd 2 rfl) hl.l2 hb11) ?_
        rintro _ w15 ⟨rfl, hb14⟩
        replace hb14 := below_eq hb14
        replace hS := hS.call hb14
        refine ⟨_, rfl, ?_⟩
        intro a hA
        refine seq_do (v := .bool false) hA rfl rfl rfl (does_pick rfl rfl rfl rfl) ?_
        intro a hA
        refine seq_do hA rfl rfl rfl (does_assign rfl) ?_
        intro a hA
        refine seq_end ?_
        refine hK4 _ _ ?_
        refine wp_ret ?_
        refine hret _ _ ?_
        refine ends (v := .bool false) hA rfl (.cons (res_tmp rfl) .nil) rfl ?_
        subst hr
        exact ⟨by unfold wholeQ; rw [hb5, hb8, hb11]; try rfl, hS.bel⟩
    · have hb8' := of_decide_eq_false hb8
      refine seq_call hA rfl rfl rfl (enters_func  rfl rfl (fun w => by kernel_rfl)) (isRealQ_any hl hb8) ?_
      rintro _ w17 ⟨rfl, hb16⟩
      replace hS := hS.call hb16
      refine ⟨_, rfl, ?_⟩
      intro a hA
      refine seq_do (v := .bool false) hA rfl rfl rfl (does_pick rfl rfl rfl rfl) ?_
      intro a hA
      refine seq_do hA rfl rfl rfl (does_move rfl) ?_
      intro a hA
      refine seq_skip hA rfl rfl rfl ?_
      intro a hA
      refine seq_skip hA rfl rfl rfl ?_
      intro a hA
      refine seq_skip hA rfl rfl rfl ?_
      intro a hA
      refine seq_skip hA rfl rfl rfl ?_
      intro a hA
      refine seq_do (v := .bool false) hA rfl rfl rfl (does_pick rfl rfl rfl rfl) ?_
      intro a hA
      refine seq_do hA rfl rfl rfl (does_assign rfl) ?_
      intro a hA
      refine seq_end ?_
      refine hK4 _ _ ?_
      refine wp_ret ?_
      refine hret _ _ ?_
      refine ends (v := .bool false) hA rfl (.cons (res_tmp rfl) .nil) rfl ?_
      subst hr
      exact ⟨by unfold wholeQ; rw [hb5, hb8]; try rfl, hS.bel⟩
  · refine seq_call hA rfl rfl rfl (enters_func  rfl rfl (fun w => by kernel_rfl)) (soundQ_any (show Nm _ _ a1 ac1 a2 ac2 a3 ac3 a4 ac4 from ⟨⟨(hS.rd 3 rfl), ha.s1.nil, ha.s1.cap⟩, ⟨(hS.rd 2 rfl), ha.s2.nil, ha.s2.cap⟩, ⟨(hS.rd 1 rfl), ha.s3.nil, ha.s3.cap⟩, ⟨(hS.rd 0 rfl), ha.s4.nil, ha.s4.cap⟩⟩) hl hb5) ?_
    rintro _ w19 ⟨rfl, hb18⟩
    replace hS := hS.call hb18
    refine ⟨_, rfl, ?_⟩
    intro a hA
    refine seq_do hA rfl rfl rfl (does_move rfl) ?_
    intro a hA
    refine seq_skip hA rfl rfl rfl ?_
    intro a hA
    refine seq_skip hA rfl rfl rfl ?_
    intro a hA
    refine seq_do (v := .bool false) hA rfl rfl rfl (does_pick rfl rfl rfl rfl) ?_
    intro a hA
    refine seq_do hA rfl rfl rfl (does_move rfl) ?_
    intro a hA
    refine seq_skip hA rfl rfl rfl ?_
    intro a hA
    refine seq_skip hA rfl rfl rfl ?_
    intro a hA
    refine seq_skip hA rfl rfl rfl ?_
    intro a hA
    refine seq_skip hA rfl rfl rfl ?_
    intro a hA
    refine seq_do (v := .bool false) hA rfl rfl rfl (does_pick rfl rfl rfl rfl) ?_
    intro a hA
    refine seq_do hA rfl rfl rfl (does_assign rfl) ?_
    intro a hA
    refine seq_end ?_
    refine hK4 _ _ ?_
    refine wp_ret ?_
    refine hret _ _ ?_
    refine ends (v := .bool false) hA rfl (.cons (res_tmp rfl) .nil) rfl ?_
    subst hr
    exact ⟨by unfold wholeQ; rw [hb5]; try rfl, hS.bel⟩
theorem want1_any {w : World} {q : Q6} {a1 a2 a3 a4 : Option Addr} {ac1 ac2 ac3 ac4 : Nat} (ha : Nm w q a1 ac1 a2 ac2 a3 ac3 a4 ac4) (hl : LenQ q) {g : Nat} (hg : Blk w g [.bool q.b1, .slice a1 q.t1.length ac1, .slice a2 q.q1.length ac2, .bool q.b2, .slice a3 q.t2.length ac3, .slice a4 q.q2.length ac4]) {r : Int} (hr : want1 q = r) : Calls Try.prog 29 #[.slice (some ⟨g, 0, none⟩) 1 1] w fun e w' => e = .returned (.int .i64 r) ∧ Below w.heap.size w w' := by
  have hS : St w w [] [(a4, q.q2), (a3, q.t2), (a2, q.q1), (a1, q.t1)] [] := ((((St.start w).addR ha.s1.rd).addR ha.s2.rd).addR ha.s3.rd).addR ha.s4.rd
  refine walk_of (l := [(0, .slice (some ⟨g, 0, none⟩) 1 1)]) Try.func29 rfl Try.ntmps29 rfl rfl ?_
  intro Q hret hnorm hP a hA
  refine wp_seq_k (fun K1 hK1 => ?_)
  refine wp_region_lit ?_
  refine seq_do hA rfl rfl rfl (does_assign rfl) ?_
  intro a hA
  refine seq_end ?_
  refine hK1 _ _ ?_
  refine wp_seq_k (fun K2 hK2 => ?_)
  refine wp_seq_k (fun K3 hK3 => ?_)
  refine wp_region_lit ?_
  refine seq_do hA rfl rfl rfl (does_move rfl) ?_
  intro a hA
  refine seq_do (v := .int .i64 1) hA rfl rfl rfl (does_len Try.underlying44 rfl) ?_
  intro a hA
  refine seq_do hA rfl rfl rfl (does_move rfl) ?_
  intro a hA
  refine seq_end ?_
  refine hK3 _ _ ?_
  refine wp_block ?_
  refine wp_loop_rounds 12 ?_
  refine rounds_k (fun K4 hK4 => ?_)
  refine wp_seq_k (fun K5 hK5 => ?_)
  refine wp_region_lit ?_
  refine seq_do (v := .bool true) hA rfl rfl rfl (does_bin rfl rfl (fun w => by kernel_rfl)) ?_
  intro a hA
  refine seq_end ?_
  refine hK5 _ _ ?_
  refine wp_seq_k (fun K6 hK6 => ?_)
  refine wp_cond_true (hA.ev rfl) ?_
  refine wp_skip ?_
  refine hK6 _ _ ?_
  refine wp_seq_k (fun K7 hK7 => ?_)
  refine wp_block ?_
  refine wp_seq_k (fun K8 hK8 => ?_)
  refine wp_region_lit ?_
  refine seq_do (v := .pointer (some ⟨g, 0, none⟩)) hA rfl rfl rfl (does_indexI rfl rfl (fun w => by kernel_rfl)) ?_
  intro a hA
  refine seq_do (v := .agg #[.bool q.b1, .slice a1 q.t1.length ac1, .slice a2 q.q1.length ac2, .bool q.b2, .slice a3 q.t2.length ac3, .slice a4 q.q2.length ac4]) hA rfl rfl rfl (does_loadSF hS hg isS_26 rfl (cs := [.bool q.b1, .slice a1 q.t1.length ac1, .slice a2 q.q1.length ac2, .bool q.b2, .slice a3 q.t2.length ac3, .slice a4 q.q2.length ac4]) rfl rfl) ?_
  intro a hA
  refine seq_new (vs := [.bool false, .slice none 0 0, .slice none 0 0, .bool false, .slice none 0 0, .slice none 0 0]) (t := 26) hA hS rfl rfl rfl (fun g => .pointer (some ⟨g, 0, none⟩)) (does_alloc (z := .agg #[.bool false, .slice none 0 0, .slice none 0 0, .bool false, .slice none 0 0, .slice none 0 0]) (by kernel_rfl) rfl) rfl ?_
  intro g9 w10 hS a hA
  refine seq_store (us := [.bool q.b1, .slice a1 q.t1.length ac1, .slice a2 q.q1.length ac2, .bool q.b2, .slice a3 q.t2.length ac3, .slice a4 q.q2.length ac4]) hA hS rfl rfl (sets_store (cs := [.bool q.b1, .slice a1 q.t1.length ac1, .slice a2 q.q1.length ac2, .bool q.b2, .slice a3 q.t2.length ac3, .slice a4 q.q2.length ac4]) rfl rfl rfl (by kernel_rfl) hS 0 rfl rfl rfl) 0 rfl rfl rfl rfl ?_
  intro w11 hS
  refine seq_end ?_
  refine hK8 _ _ ?_
  refine wp_seq_k (fun K12 hK12 => ?_)
  refine wp_region_lit ?_
  refine seq_do (v := .agg #[.bool q.b1, .slice a1 q.t1.length ac1, .slice a2 q.q1.length ac2, .bool q.b2, .slice a3 q.t2.length ac3, .slice a4 q.q2.length ac4]) hA rfl rfl rfl (does_loadS hS isS_26 rfl 0 rfl (cs := [.bool q.b1, .slice a1 q.t1.length ac1, .slice a2 q.q1.length ac2, .bool q.b2, .slice a3 q.t2.length ac3, .slice a4 q.q2.length ac4]) rfl rfl) ?_
  intro a hA
  rcases Bool.eq_false_or_eq_true (soundQ q) with hb13 | hb13
  · refine seq_call hA rfl rfl rfl (enters_func  rfl rfl (fun w => by kernel_rfl)) (soundQ_any (show Nm _ _ a1 ac1 a2 ac2 a3 ac3 a4 ac4 from ⟨⟨(hS.rd 3 rfl), ha.s1.nil, ha.s1.cap⟩, ⟨(hS.rd 2 rfl), ha.s2.nil, ha.s2.cap⟩, ⟨(hS.rd 1 rfl), ha.s3.nil, ha.s3.cap⟩, ⟨(hS.rd 0 rfl), ha.s4.nil, ha.s4.cap⟩⟩) hl hb13) ?_
    rintro _ w15 ⟨rfl, hb14⟩
    replace hS := hS.call hb14
    refine ⟨_, rfl, ?_⟩
    intro a hA
    refine seq_do (v := .bool false) hA rfl rfl rfl (does_un rfl un_not) ?_
    intro a hA
    refine seq_end ?_
    refine hK12 _ _ ?_
    refine wp_cond_false (hA.ev rfl) ?_
    refine wp_skip ?_
    refine hK7 _ _ ?_
    refine wp_region_lit ?_
    refine seq_do (v := .int .i64 1) hA rfl rfl rfl (does_bin rfl rfl (fun w => by kernel_rfl)) ?_
    intro a hA
    refine seq_do hA rfl rfl rfl (does_move rfl) ?_
    intro a hA
    refine seq_end ?_
    refine hK4 _ _ ?_
    refine rounds_k (fun K16 hK16 => ?_)
    refine wp_seq_k (fun K17 hK17 => ?_)
    refine wp_region_lit ?_
    refine seq_do (v := .bool false) hA rfl rfl rfl (does_bin rfl rfl (fun w => by kernel_rfl)) ?_
    intro a hA
    refine seq_end ?_
    refine hK17 _ _ ?_
    refine wp_seq_k (fun K18 hK18 => ?_)
    refine wp_cond_false (hA.ev rfl) ?_
    refine wp_exit ?_
    refine hK2 _ _ ?_
    refine wp_seq_k (fun K19 hK19 => ?_)
    refine wp_seq_k (fun K20 hK20 => ?_)
    refine wp_region_lit ?_
    refine seq_do hA rfl rfl rfl (does_move rfl) ?_
    intro a hA
    refine seq_do (v := .int .i64 1) hA rfl rfl rfl (does_len Try.underlying44 rfl) ?_
    intro a hA
    refine seq_do hA rfl rfl rfl (does_move rfl) ?_
    intro a hA
    refine seq_end ?_
    refine hK20 _ _ ?_
    refine wp_block ?_
    refine wp_loop_rounds 12 ?_
    refine rounds_k (fun K21 hK21 => ?_)
    refine wp_seq_k (fun K22 hK22 => ?_)
    refine wp_region_lit ?_
    refine seq_do (v := .bool true) hA rfl rfl rfl (does_bin rfl rfl (fun w => by kernel_rfl)) ?_
    intro a hA
    refine seq_end ?_
    refine hK22 _ _ ?_
    refine wp_seq_k (fun K23 hK23 => ?_)
    refine wp_cond_true (hA.ev rfl) ?_
    refine wp_skip ?_
    refine hK23 _ _ ?_
    refine wp_seq_k (fun K24 hK24 => ?_)
    refine wp_block ?_
    refine wp_seq_k (fun K25 hK25 => ?_)
    refine wp_region_lit ?_
    refine seq_do (v := .pointer (some ⟨g, 0, none⟩)) hA rfl rfl rfl (does_indexI rfl rfl (fun w => by kernel_rfl)) ?_
    intro a hA
    refine seq_do (v := .agg #[.bool q.b1, .slice a1 q.t1.length ac1, .slice a2 q.q1.length ac2, .bool q.b2, .slice a3 q.t2.length ac3, .slice a4 q.q2.length ac4]) hA rfl rfl rfl (does_loadSF hS hg isS_26 rfl (cs := [.bool q.b1, .slice a1 q.t1.length ac1, .slice a2 q.q1.length ac2, .bool q.b2, .slice a3 q.t2.length ac3, .slice a4 q.q2.length ac4]) rfl rfl) ?_
    intro a hA
    refine seq_new (vs := [.bool false, .slice none 0 0, .slice none 0 0, .bool false, .slice none 0 0, .slice none 0 0]) (t := 26) hA hS rfl rfl rfl (fun g => .pointer (some ⟨g, 0, none⟩)) (does_alloc (z := .agg #[.bool false, .slice none 0 0, .slice none 0 0, .bool false, .slice none 0 0, .slice none 0 0]) (by kernel_rfl) rfl) rfl ?_
    intro g26 w27 hS a hA
    refine seq_store (us := [.bool q.b1, .slice a1 q.t1.length ac1, .slice a2 q.q1.length ac2, .bool q.b2, .slice a3 q.t2.length ac3, .slice a4 q.q2.length ac4]) hA hS rfl rfl (sets_store (cs := [.bool q.b1, .slice a1 q.t1.length ac1, .slice a2 q.q1.length ac2, .bool q.b2, .slice a3 q.t2.length ac3, .slice a4 q.q2.length ac4]) rfl rfl rfl (by kernel_rfl) hS 0 rfl rfl rfl) 0 rfl rfl rfl rfl ?_
    intro w28 hS
    refine seq_end ?_
    refine hK25 _ _ ?_
    refine wp_seq_k (fun K29 hK29 => ?_)
    refine wp_region_lit ?_
    refine seq_do (v := .agg #[.bool q.b1, .slice a1 q.t1.length ac1, .slice a2 q.q1.length ac2, .bool q.b2, .slice a3 q.t2.length ac3, .slice a4 q.q2.length ac4]) hA rfl rfl rfl (does_loadS hS isS_26 rfl 0 rfl (cs := [.bool q.b1, .slice a1 q.t1.length ac1, .slice a2 q.q1.length ac2, .bool q.b2, .slice a3 q.t2.length ac3, .slice a4 q.q2.length ac4]) rfl rfl) ?_
    intro a hA
    rcases Bool.eq_false_or_eq_true (wholeQ q) with hb30 | hb30
    · refine seq_call hA rfl rfl rfl (enters_func  rfl rfl (fun w => by kernel_rfl)) (wholeQ_any (show Nm _ _ a1 ac1 a2 ac2 a3 ac3 a4 ac4 from ⟨⟨(hS.rd 3 rfl), ha.s1.nil, ha.s1.cap⟩, ⟨(hS.rd 2 rfl), ha.s2.nil, ha.s2.cap⟩, ⟨(hS.rd 1 rfl), ha.s3.nil, ha.s3.cap⟩, ⟨(hS.rd 0 rfl), ha.s4.nil, ha.s4.cap⟩⟩) hl hb30) ?_
      rintro _ w32 ⟨rfl, hb31⟩
      replace hS := hS.call hb31
      refine ⟨_, rfl, ?_⟩
      intro a hA
      refine seq_do (v := .bool false) hA rfl rfl rfl (does_un rfl un_not) ?_
      intro a hA
      refine seq_end ?_
      refine hK29 _ _ ?_
      refine wp_cond_false (hA.ev rfl) ?_
      refine wp_skip ?_
      refine hK24 _ _ ?_
      refine wp_region_lit ?_
      refine seq_do (v := .int .i64 1) hA rfl rfl rfl (does_bin rfl rfl (fun w => by kernel_rfl)) ?_
      intro a hA
      refine seq_do hA rfl rfl rfl (does_move rfl) ?_
      intro a hA
      refine seq_end ?_
      refine hK21 _ _ ?_
      refine rounds_k (fun K33 hK33 => ?_)
      refine wp_seq_k (fun K34 hK34 => ?_)
      refine wp_region_lit ?_
      refine seq_do (v := .bool false) hA rfl rfl rfl (does_bin rfl rfl (fun w => by kernel_rfl)) ?_
      intro a hA
      refine seq_end ?_
      refine hK34 _ _ ?_
      refine wp_seq_k (fun K35 hK35 => ?_)
      refine wp_cond_false (hA.ev rfl) ?_
      refine wp_exit ?_
      refine hK19 _ _ ?_
      refine wp_seq_k (fun K36 hK36 => ?_)
      refine wp_region_lit ?_
      refine seq_do hA rfl rfl rfl (does_assign rfl) ?_
      intro a hA
      refine seq_end ?_
      refine hK36 _ _ ?_
      refine wp_ret ?_
      refine hret _ _ ?_
      refine ends (v := .int .i64 0) hA rfl (.cons (res_tmp rfl) .nil) rfl ?_
      subst hr
      exact ⟨by simp [want1, hb13, hb30], hS.bel⟩
    · refine seq_call hA rfl rfl rfl (enters_func  rfl rfl (fun w => by kernel_rfl)) (wholeQ_any (show Nm _ _ a1 ac1 a2 ac2 a3 ac3 a4 ac4 from ⟨⟨(hS.rd 3 rfl), ha.s1.nil, ha.s1.cap⟩, ⟨(hS.rd 2 rfl), ha.s2.nil, ha.s2.cap⟩, ⟨(hS.rd 1 rfl), ha.s3.nil, ha.s3.cap⟩, ⟨(hS.rd 0 rfl), ha.s4.nil, ha.s4.cap⟩⟩) hl hb30) ?_
      rintro _ w38 ⟨rfl, hb37⟩
      replace hS := hS.call hb37
      refine ⟨_, rfl, ?_⟩
      intro a hA
      refine seq_do (v := .bool true) hA rfl rfl rfl (does_un rfl un_not) ?_
      intro a hA
      refine seq_end ?_
      refine hK29 _ _ ?_
      refine wp_cond_true (hA.ev rfl) ?_
      refine wp_seq_k (fun K39 hK39 => ?_)
      refine wp_region_lit ?_
      refine seq_do hA rfl rfl rfl (does_assign rfl) ?_
      intro a hA
      refine seq_end ?_
      refine hK39 _ _ ?_
      refine wp_ret ?_
      refine hret _ _ ?_
      refine ends (v := .int .i64 10) hA rfl (.cons (res_tmp rfl) .nil) rfl ?_
      subst hr
      exact ⟨by simp [want1, hb13, hb30], hS.bel⟩
  · refine seq_call hA rfl rfl rfl (enters_func  rfl rfl (fun w => by kernel_rfl)) (soundQ_any (show Nm _ _ a1 ac1 a2 ac2 a3 ac3 a4 ac4 from ⟨⟨(hS.rd 3 rfl), ha.s1.nil, ha.s1.cap⟩, ⟨(hS.rd 2 rfl), ha.s2.nil, ha.s2.cap⟩, ⟨(hS.rd 1 rfl), ha.s3.nil, ha.s3.cap⟩, ⟨(hS.rd 0 rfl), ha.s4.nil, ha.s4.cap⟩⟩) hl hb13) ?_
    rintro _ w41 ⟨rfl, hb40⟩
    replace hS := hS.call hb40
    refine ⟨_, rfl, ?_⟩
    intro a hA
    refine seq_do (v := .bool true) hA rfl rfl rfl (does_un rfl un_not) ?_
    intro a hA
    refine seq_end ?_
    refine hK12 _ _ ?_
    refine wp_cond_true (hA.ev rfl) ?_
    refine wp_seq_k (fun K42 hK42 => ?_)
    refine wp_region_lit ?_
    refine seq_do hA rfl rfl rfl (does_assign rfl) ?_
    intro a hA
    refine seq_end ?_
    refine hK42 _ _ ?_
    refine wp_ret ?_
    refine hret _ _ ?_
    refine ends (v := .int .i64 2) hA rfl (.cons (res_tmp rfl) .nil) rfl ?_
    subst hr
    exact ⟨by simp [want1, hb13], hS.bel⟩
theorem want2_any {w : World} {p : Q6} {a1 a2 a3 a4 : Option Addr} {ac1 ac2 ac3 ac4 : Nat} (ha : Nm w p a1 ac1 a2 ac2 a3 ac3 a4 ac4) (hl : LenQ p) {q : Q6} {b1 b2 b3 b4 : Option Addr} {bc1 bc2 bc3 bc4 : Nat} (hb : Nm w q b1 bc1 b2 bc2 b3 bc3 b4 bc4) (hm : LenQ q) {g : Nat} (hg : Blk w g [.bool p.b1, .slice a1 p.t1.length ac1, .slice a2 p.q1.length ac2, .bool p.b2, .slice a3 p.t2.length ac3, .slice a4 p.q2.length ac4, .bool q.b1, .slice b1 q.t1.length bc1, .slice b2 q.q1.length bc2, .bool q.b2, .slice b3 q.t2.length bc3, .slice b4 q.q2.length bc4]) {r : Int} (hr : want2 p q = r) : Calls Try.prog 29 #[.slice (some ⟨g, 0, none⟩) 2 2] w fun e w' => e = .returned (.int .i64 r) ∧ Below w.heap.size w w' := by
  have hS : St w w [] [(b4, q.q2), (b3, q.t2), (b2, q.q1), (b1, q.t1), (a4, p.q2), (a3, p.t2), (a2, p.q1), (a1, p.t1)] [] := ((((((((St.start w).addR ha.s1.rd).addR ha.s2.rd).addR ha.s3.rd).addR ha.s4.rd).addR hb.s1.rd).addR hb.s2.rd).addR hb.s3.rd).addR hb.s4.rd
  refine walk_of (l := [(0, .slice (some ⟨g, 0, none⟩) 2 2)]) Try.func29 rfl Try.ntmps29 rfl rfl ?_
  intro Q hret hnorm hP a hA
  refine wp_seq_k (fun K1 hK1 => ?_)
  refine wp_region_lit ?_
  refine seq_do hA rfl rfl rfl (does_assign rfl) ?_
  intro a hA
  refine seq_end ?_
  refine hK1 _ _ ?_
  refine wp_seq_k (fun K2 hK2 => ?_)
  refine wp_seq_k (fun K3 hK3 => ?_)
  refine wp_region_lit ?_
  refine seq_do hA rfl rfl rfl (does_move rfl) ?_
  intro a hA
  refine seq_do (v := .int .i64 2) hA rfl rfl rfl (does_len Try.underlying44 rfl) ?_
  intro a hA
  refine seq_do hA rfl rfl rfl (does_move rfl) ?_
  intro a hA
  refine seq_end ?_
  refine hK3 _ _ ?_
  refine wp_block ?_
  refine wp_loop_rounds 12 ?_
  refine rounds_k (fun K4 hK4 => ?_)
  refine wp_seq_k (fun K5 hK5 => ?_)
  refine wp_region_lit ?_
  refine seq_do (v := .bool true) hA rfl rfl rfl (does_bin rfl rfl (fun w => by kernel_rfl)) ?_
  intro a hA
  refine seq_end ?_
  refine hK5 _ _ ?_
  refine wp_seq_k (fun K6 hK6 => ?_)
  refine wp_cond_true (hA.ev rfl) ?_
  refine wp_skip ?_
  refine hK6 _ _ ?_
  refine wp_seq_k (fun K7 hK7 => ?_)
  refine wp_block ?_
  refine wp_seq_k (fun K8 hK8 => ?_)
  refine wp_region_lit ?_
  refine seq_do (v := .pointer (some ⟨g, 0, none⟩)) hA rfl rfl rfl (does_indexI rfl rfl (fun w => by kernel_rfl)) ?_
  intro a hA
  refine seq_do (v := .agg #[.bool p.b1, .slice a1 p.t1.length ac1, .slice a2 p.q1.length ac2, .bool p.b2, .slice a3 p.t2.length ac3, .slice a4 p.q2.length ac4]) hA rfl rfl rfl (does_loadSF hS hg isS_26 rfl (cs := [.bool p.b1, .slice a1 p.t1.length ac1, .slice a2 p.q1.length ac2, .bool p.b2, .slice a3 p.t2.length ac3, .slice a4 p.q2.length ac4]) rfl rfl) ?_
  intro a hA
  refine seq_new (vs := [.bool false, .slice none 0 0, .slice none 0 0, .bool false, .slice none 0 0, .slice none 0 0]) (t := 26) hA hS rfl rfl rfl (fun g => .pointer (some ⟨g, 0, none⟩)) (does_alloc (z := .agg #[.bool false, .slice none 0 0, .slice none 0 0, .bool false, .slice none 0 0, .slice none 0 0]) (by kernel_rfl) rfl) rfl ?_
  intro g9 w10 hS a hA
  refine seq_store (us := [.bool p.b1, .slice a1 p.t1.length ac1, .slice a2 p.q1.length ac2, .bool p.b2, .slice a3 p.t2.length ac3, .slice a4 p.q2.length ac4]) hA hS rfl rfl (sets_store (cs := [.bool p.b1, .slice a1 p.t1.length ac1, .slice a2 p.q1.length ac2, .bool p.b2, .slice a3 p.t2.length ac3, .slice a4 p.q2.length ac4]) rfl rfl rfl (by kernel_rfl) hS 0 rfl rfl rfl) 0 rfl rfl rfl rfl ?_
  intro w11 hS
  refine seq_end ?_
  refine hK8 _ _ ?_
  refine wp_seq_k (fun K12 hK12 => ?_)
  refine wp_region_lit ?_
  refine seq_do (v := .agg #[.bool p.b1, .slice a1 p.t1.length ac1, .slice a2 p.q1.length ac2, .bool p.b2, .slice a3 p.t2.length ac3, .slice a4 p.q2.length ac4]) hA rfl rfl rfl (does_loadS hS isS_26 rfl 0 rfl (cs := [.bool p.b1, .slice a1 p.t1.length ac1, .slice a2 p.q1.length ac2, .bool p.b2, .slice a3 p.t2.length ac3, .slice a4 p.q2.length ac4]) rfl rfl) ?_
  intro a hA
  rcases Bool.eq_false_or_eq_true (soundQ p) with hb13 | hb13
  · refine seq_call hA rfl rfl rfl (enters_func  rfl rfl (fun w => by kernel_rfl)) (soundQ_any (show Nm _ _ a1 ac1 a2 ac2 a3 ac3 a4 ac4 from ⟨⟨(hS.rd 7 rfl), ha.s1.nil, ha.s1.cap⟩, ⟨(hS.rd 6 rfl), ha.s2.nil, ha.s2.cap⟩, ⟨(hS.rd 5 rfl), ha.s3.nil, ha.s3.cap⟩, ⟨(hS.rd 4 rfl), ha.s4.nil, ha.s4.cap⟩⟩) hl hb13) ?_
    rintro _ w15 ⟨rfl, hb14⟩
    replace hS := hS.call hb14
    refine ⟨_, rfl, ?_⟩
    intro a hA
    refine seq_do (v := .bool false) hA rfl rfl rfl (does_un rfl un_not) ?_
    intro a hA
    refine seq_end ?_
    refine hK12 _ _ ?_
    refine wp_cond_false (hA.ev rfl) ?_
    refine wp_skip ?_
    refine hK7 _ _ ?_
    refine wp_region_lit ?_
    refine seq_do (v := .int .i64 1) hA rfl rfl rfl (does_bin rfl rfl (fun w => by kernel_rfl)) ?_
    intro a hA
    refine seq_do hA rfl rfl rfl (does_move rfl) ?_
    intro a hA
    refine seq_end ?_
    refine hK4 _ _ ?_
    refine rounds_k (fun K16 hK16 => ?_)
    refine wp_seq_k (fun K17 hK17 => ?_)
    refine wp_region_lit ?_
    refine seq_do (v := .bool true) hA rfl rfl rfl (does_bin rfl rfl (fun w => by kernel_rfl)) ?_
    intro a hA
    refine seq_end ?_
    refine hK17 _ _ ?_
    refine wp_seq_k (fun K18 hK18 => ?_)
    refine wp_cond_true (hA.ev rfl) ?_
    refine wp_skip ?_
    refine hK18 _ _ ?_
    refine wp_seq_k (fun K19 hK19 => ?_)
    refine wp_block ?_
    refine wp_seq_k (fun K20 hK20 => ?_)
    refine wp_region_lit ?_
    refine seq_do (v := .pointer (some ⟨g, 6, none⟩)) hA rfl rfl rfl (does_indexI rfl rfl (fun w => by kernel_rfl)) ?_
    intro a hA
    refine seq_do (v := .agg #[.bool q.b1, .slice b1 q.t1.length bc1, .slice b2 q.q1.length bc2, .bool q.b2, .slice b3 q.t2.length bc3, .slice b4 q.q2.length bc4]) hA rfl rfl rfl (does_loadSF hS hg isS_26 rfl (cs := [.bool q.b1, .slice b1 q.t1.length bc1, .slice b2 q.q1.length bc2, .bool q.b2, .slice b3 q.t2.length bc3, .slice b4 q.q2.length bc4]) rfl rfl) ?_
    intro a hA
    refine seq_new (vs := [.bool false, .slice none 0 0, .slice none 0 0, .bool false, .slice none 0 0, .slice none 0 0]) (t := 26) hA hS rfl rfl rfl (fun g => .pointer (some ⟨g, 0, none⟩)) (does_alloc (z := .agg #[.bool false, .slice none 0 0, .slice none 0 0, .bool false, .slice none 0 0, .slice none 0 0]) (by kernel_rfl) rfl) rfl ?_
    intro g21 w22 hS a hA
    refine seq_store (us := [.bool q.b1, .slice b1 q.t1.length bc1, .slice b2 q.q1.length bc2, .bool q.b2, .slice b3 q.t2.length bc3, .slice b4 q.q2.length bc4]) hA hS rfl rfl (sets_store (cs := [.bool q.b1, .slice b1 q.t1.length bc1, .slice b2 q.q1.length bc2, .bool q.b2, .slice b3 q.t2.length bc3, .slice b4 q.q2.length bc4]) rfl rfl rfl (by kernel_rfl) hS 0 rfl rfl rfl) 0 rfl rfl rfl rfl ?_
    intro w23 hS
    refine seq_end ?_
    refine hK20 _ _ ?_
    refine wp_seq_k (fun K24 hK24 => ?_)
    refine wp_region_lit ?_
    refine seq_do (v := .agg #[.bool q.b1, .slice b1 q.t1.length bc1, .slice b2 q.q1.length bc2, .bool q.b2, .slice b3 q.t2.length bc3, .slice b4 q.q2.length bc4]) hA rfl rfl rfl (does_loadS hS isS_26 rfl 0 rfl (cs := [.bool q.b1, .slice b1 q.t1.length bc1, .slice b2 q.q1.length bc2, .bool q.b2, .slice b3 q.t2.length bc3, .slice b4 q.q2.length bc4]) rfl rfl) ?_
    intro a hA
    rcases Bool.eq_false_or_eq_true (soundQ q) with hb25 | hb25
    · refine seq_call hA rfl rfl rfl (enters_func  rfl rfl (fun w => by kernel_rfl)) (soundQ_any (show Nm _ _ b1 bc1 b2 bc2 b3 bc3 b4 bc4 from ⟨⟨(hS.rd 3 rfl), hb.s1.nil, hb.s1.cap⟩, ⟨(hS.rd 2 rfl), hb.s2.nil, hb.s2.cap⟩, ⟨(hS.rd 1 rfl), hb.s3.nil, hb.s3.cap⟩, ⟨(hS.rd 0 rfl), hb.s4.nil, hb.s4.cap⟩⟩) hm hb25) ?_
      rintro _ w27 ⟨rfl, hb26⟩
      replace hS := hS.call hb26
      refine ⟨_, rfl, ?_⟩
      intro a hA
      refine seq_do (v := .bool false) hA rfl rfl rfl (does_un rfl un_not) ?_
      intro a hA
      refine seq_end ?_
      refine hK24 _ _ ?_
      refine wp_cond_false (hA.ev rfl) ?_
      refine wp_skip ?_
      refine hK19 _ _ ?_
      refine wp_region_lit ?_
      refine seq_do (v := .int .i64 2) hA rfl rfl rfl (does_bin rfl rfl (fun w => by kernel_rfl)) ?_
      intro a hA
      refine seq_do hA rfl rfl rfl (does_move rfl) ?_
      intro a hA
      refine seq_end ?_
      refine hK16 _ _ ?_
      refine rounds_k (fun K28 hK28 => ?_)
      refine wp_seq_k (fun K29 hK29 => ?_)
      refine wp_region_lit ?_
      refine seq_do (v := .bool false) hA rfl rfl rfl (does_bin rfl rfl (fun w => by kernel_rfl)) ?_
      intro a hA
      refine seq_end ?_
      refine hK29 _ _ ?_
      refine wp_seq_k (fun K30 hK30 => ?_)
      refine wp_cond_false (hA.ev rfl) ?_
      refine wp_exit ?_
      refine hK2 _ _ ?_
      refine wp_seq_k (fun K31 hK31 => ?_)
      refine wp_seq_k (fun K32 hK32 => ?_)
      refine wp_region_lit ?_
      refine seq_do hA rfl rfl rfl (does_move rfl) ?_
      intro a hA
      refine seq_do (v := .int .i64 2) hA rfl rfl rfl (does_len Try.underlying44 rfl) ?_
      intro a hA
      refine seq_do hA rfl rfl rfl (does_move rfl) ?_
      intro a hA
      refine seq_end ?_
      refine hK32 _ _ ?_
      refine wp_block ?_
      refine wp_loop_rounds 12 ?_
      refine rounds_k (fun K33 hK33 => ?_)
      refine wp_seq_k (fun K34 hK34 => ?_)
      refine wp_region_lit ?_
      refine seq_do (v := .bool true) hA rfl rfl rfl (does_bin rfl rfl (fun w => by kernel_rfl)) ?_
      intro a hA
      refine seq_end ?_
      refine hK34 _ _ ?_
      refine wp_seq_k (fun K35 hK35 => ?_)
      refine wp_cond_true (hA.ev rfl) ?_
      refine wp_skip ?_
      refine hK35 _ _ ?_
      refine wp_seq_k (fun K36 hK36 => ?_)
      refine wp_block ?_
      refine wp_seq_k (fun K37 hK37 => ?_)
      refine wp_region_lit ?_
      refine seq_do (v := .pointer (some ⟨g, 0, none⟩)) hA rfl rfl rfl (does_indexI rfl rfl (fun w => by kernel_rfl)) ?_
      intro a hA
      refine seq_do (v := .agg #[.bool p.b1, .slice a1 p.t1.length ac1, .slice a2 p.q1.length ac2, .bool p.b2, .slice a3 p.t2.length ac3, .slice a4 p.q2.length ac4]) hA rfl rfl rfl (does_loadSF hS hg isS_26 rfl (cs := [.bool p.b1, .slice a1 p.t1.length ac1, .slice a2 p.q1.length ac2, .bool p.b2, .slice a3 p.t2.length ac3, .slice a4 p.q2.length ac4]) rfl rfl) ?_
      intro a hA
      refine seq_new (vs := [.bool false, .slice none 0 0, .slice none 0 0, .bool false, .slice none 0 0, .slice none 0 0]) (t := 26) hA hS rfl rfl rfl (fun g => .pointer (some ⟨g, 0, none⟩)) (does_alloc (z := .agg #[.bool false, .slice none 0 0, .slice none 0 0, .bool false, .slice none 0 0, .slice none 0 0]) (by kernel_rfl) rfl) rfl ?_
      intro g38 w39 hS a hA
      refine seq_store (us := [.bool p.b1, .slice a1 p.t1.length ac1, .slice a2 p.q1.length ac2, .bool p.b2, .slice a3 p.t2.length ac3, .slice a4 p.q2.length ac4]) hA hS rfl rfl (sets_store (cs := [.bool p.b1, .slice a1 p.t1.length ac1, .slice a2 p.q1.length ac2, .bool p.b2, .slice a3 p.t2.length ac3, .slice a4 p.q2.length ac4]) rfl rfl rfl (by kernel_rfl) hS 0 rfl rfl rfl) 0 rfl rfl rfl rfl ?_
      intro w40 hS
      refine seq_end ?_
      refine hK37 _ _ ?_
      refine wp_seq_k (fun K41 hK41 => ?_)
      refine wp_region_lit ?_
      refine seq_do (v := .agg #[.bool p.b1, .slice a1 p.t1.length ac1, .slice a2 p.q1.length ac2, .bool p.b2, .slice a3 p.t2.length ac3, .slice a4 p.q2.length ac4]) hA rfl rfl rfl (does_loadS hS isS_26 rfl 0 rfl (cs := [.bool p.b1, .slice a1 p.t1.length ac1, .slice a2 p.q1.length ac2, .bool p.b2, .slice a3 p.t2.length ac3, .slice a4 p.q2.length ac4]) rfl rfl) ?_
      intro a hA
      rcases Bool.eq_false_or_eq_true (wholeQ p) with hb42 | hb42
      · refine seq_call hA rfl rfl rfl (enters_func  rfl rfl (fun w => by kernel_rfl)) (wholeQ_any (show Nm _ _ a1 ac1 a2 ac2 a3 ac3 a4 ac4 from ⟨⟨(hS.rd 7 rfl), ha.s1.nil, ha.s1.cap⟩, ⟨(hS.rd 6 rfl), ha.s2.nil, ha.s2.cap⟩, ⟨(hS.rd 5 rfl), ha.s3.nil, ha.s3.cap⟩, ⟨(hS.rd 4 rfl), ha.s4.nil, ha.s4.cap⟩⟩) hl hb42) ?_
        rintro _ w44 ⟨rfl, hb43⟩
        replace hS := hS.call hb43
        refine ⟨_, rfl, ?_⟩
        intro a hA
        refine seq_do (v := .bool false) hA rfl rfl rfl (does_un rfl un_not) ?_
        intro a hA
        refine seq_end ?_
        refine hK41 _ _ ?_
        refine wp_cond_false (hA.ev rfl) ?_
        refine wp_skip ?_
        refine hK36 _ _ ?_
        refine wp_region_lit ?_
        refine seq_do (v := .int .i64 1) hA rfl rfl rfl (does_bin rfl rfl (fun w => by kernel_rfl)) ?_
        intro a hA
        refine seq_do hA rfl rfl rfl (does_move rfl) ?_
        intro a hA
        refine seq_end ?_
        refine hK33 _ _ ?_
        refine rounds_k (fun K45 hK45 => ?_)
        refine wp_seq_k (fun K46 hK46 => ?_)
        refine wp_region_lit ?_
        refine seq_do (v := .bool true) hA rfl rfl rfl (does_bin rfl rfl (fun w => by kernel_rfl)) ?_
        intro a hA
        refine seq_end ?_
        refine hK46 _ _ ?_
        refine wp_seq_k (fun K47 hK47 => ?_)
        refine wp_cond_true (hA.ev rfl) ?_
        refine wp_skip ?_
        refine hK47 _ _ ?_
        refine wp_seq_k (fun K48 hK48 => ?_)
        refine wp_block ?_
        refine wp_seq_k (fun K49 hK49 => ?_)
        refine wp_region_lit ?_
        refine seq_do (v := .pointer (some ⟨g, 6, none⟩)) hA rfl rfl rfl (does_indexI rfl rfl (fun w => by kernel_rfl)) ?_
        intro a hA
        refine seq_do (v := .agg #[.bool q.b1, .slice b1 q.t1.length bc1, .slice b2 q.q1.length bc2, .bool q.b2, .slice b3 q.t2.length bc3, .slice b4 q.q2.length bc4]) hA rfl rfl rfl (does_loadSF hS hg isS_26 rfl (cs := [.bool q.b1, .slice b1 q.t1.length bc1, .slice b2 q.q1.length bc2, .bool q.b2, .slice b3 q.t2.length bc3, .slice b4 q.q2.length bc4]) rfl rfl) ?_
        intro a hA
        refine seq_new (vs := [.bool false, .slice none 0 0, .slice none 0 0, .bool false, .slice none 0 0, .slice none 0 0]) (t := 26) hA hS rfl rfl rfl (fun g => .pointer (some ⟨g, 0, none⟩)) (does_alloc (z := .agg #[.bool false, .slice none 0 0, .slice none 0 0, .bool false, .slice none 0 0, .slice none 0 0]) (by kernel_rfl) rfl) rfl ?_
        intro g50 w51 hS a hA
        refine seq_store (us := [.bool q.b1, .slice b1 q.t1.length bc1, .slice b2 q.q1.length bc2, .bool q.b2, .slice b3 q.t2.length bc3, .slice b4 q.q2.length bc4]) hA hS rfl rfl (sets_store (cs := [.bool q.b1, .slice b1 q.t1.length bc1, .slice b2 q.q1.length bc2, .bool q.b2, .slice b3 q.t2.length bc3, .slice b4 q.q2.length bc4]) rfl rfl rfl (by kernel_rfl) hS 0 rfl rfl rfl) 0 rfl rfl rfl rfl ?_
        intro w52 hS
        refine seq_end ?_
        refine hK49 _ _ ?_
        refine wp_seq_k (fun K53 hK53 => ?_)
        refine wp_region_lit ?_
        refine seq_do (v := .agg #[.bool q.b1, .slice b1 q.t1.length bc1, .slice b2 q.q1.length bc2, .bool q.b2, .slice b3 q.t2.length bc3, .slice b4 q.q2.length bc4]) hA rfl rfl rfl (does_loadS hS isS_26 rfl 0 rfl (cs := [.bool q.b1, .slice b1 q.t1.length bc1, .slice b2 q.q1.length bc2, .bool q.b2, .slice b3 q.t2.length bc3, .slice b4 q.q2.length bc4]) rfl rfl) ?_
        intro a hA
        rcases Bool.eq_false_or_eq_true (wholeQ q) with hb54 | hb54
        · refine seq_call hA rfl rfl rfl (enters_func  rfl rfl (fun w => by kernel_rfl)) (wholeQ_any (show Nm _ _ b1 bc1 b2 bc2 b3 bc3 b4 bc4 from ⟨⟨(hS.rd 3 rfl), hb.s1.nil, hb.s1.cap⟩, ⟨(hS.rd 2 rfl), hb.s2.nil, hb.s2.cap⟩, ⟨(hS.rd 1 rfl), hb.s3.nil, hb.s3.cap⟩, ⟨(hS.rd 0 rfl), hb.s4.nil, hb.s4.cap⟩⟩) hm hb54) ?_
          rintro _ w56 ⟨rfl, hb55⟩
          replace hS := hS.call hb55
          refine ⟨_, rfl, ?_⟩
          intro a hA
          refine seq_do (v := .bool false) hA rfl rfl rfl (does_un rfl un_not) ?_
          intro a hA
          refine seq_end ?_
          refine hK53 _ _ ?_
          refine wp_cond_false (hA.ev rfl) ?_
          refine wp_skip ?_
          refine hK48 _ _ ?_
          refine wp_region_lit ?_
          refine seq_do (v := .int .i64 2) hA rfl rfl rfl (does_bin rfl rfl (fun w => by kernel_rfl)) ?_
          intro a hA
          refine seq_do hA rfl rfl rfl (does_move rfl) ?_
          intro a hA
          refine seq_end ?_
          refine hK45 _ _ ?_
          refine rounds_k (fun K57 hK57 => ?_)
          refine wp_seq_k (fun K58 hK58 => ?_)
          refine wp_region_lit ?_
          refine seq_do (v := .bool false) hA rfl rfl rfl (does_bin rfl rfl (fun w => by kernel_rfl)) ?_
          intro a hA
          refine seq_end ?_
          refine hK58 _ _ ?_
          refine wp_seq_k (fun K59 hK59 => ?_)
          refine wp_cond_false (hA.ev rfl) ?_
          refine wp_exit ?_
          refine hK31 _ _ ?_
          refine wp_seq_k (fun K60 hK60 => ?_)
          refine wp_region_lit ?_
          refine seq_do hA rfl rfl rfl (does_assign rfl) ?_
          intro a hA
          refine seq_end ?_
          refine hK60 _ _ ?_
          refine wp_ret ?_
          refine hret _ _ ?_
          refine ends (v := .int .i64 0) hA rfl (.cons (res_tmp rfl) .nil) rfl ?_
          subst hr
          exact ⟨by simp [want2, hb13, hb25, hb42, hb54], hS.bel⟩
        · refine seq_call hA rfl rfl rfl (enters_func  rfl rfl (fun w => by kernel_rfl)) (wholeQ_any (show Nm _ _ b1 bc1 b2 bc2 b3 bc3 b4 bc4 from ⟨⟨(hS.rd 3 rfl), hb.s1.nil, hb.s1.cap⟩, ⟨(hS.rd 2 rfl), hb.s2.nil, hb.s2.cap⟩, ⟨(hS.rd 1 rfl), hb.s3.nil, hb.s3.cap⟩, ⟨(hS.rd 0 rfl), hb.s4.nil, hb.s4.cap⟩⟩) hm hb54) ?_
          rintro _ w62 ⟨rfl, hb61⟩
          replace hS := hS.call hb61
          refine ⟨_, rfl, ?_⟩
          intro a hA
          refine seq_do (v := .bool true) hA rfl rfl rfl (does_un rfl un_not) ?_
          intro a hA
          refine seq_end ?_
          refine hK53 _ _ ?_
          refine wp_cond_true (hA.ev rfl) ?_
          refine wp_seq_k (fun K63 hK63 => ?_)
          refine wp_region_lit ?_
          refine seq_do hA rfl rfl rfl (does_assign rfl) ?_
          intro a hA
          refine seq_end ?_
          refine hK63 _ _ ?_
          refine wp_ret ?_
          refine hret _ _ ?_
          refine ends (v := .int .i64 10) hA rfl (.cons (res_tmp rfl) .nil) rfl ?_
          subst hr
          exact ⟨by simp [want2, hb13, hb25, hb42, hb54], hS.bel⟩
      · refine seq_call hA rfl rfl rfl (enters_func  rfl rfl (fun w => by kernel_rfl)) (wholeQ_any (show Nm _ _ a1 ac1 a2 ac2 a3 ac3 a4 ac4 from ⟨⟨(hS.rd 7 rfl), ha.s1.nil, ha.s1.cap⟩, ⟨(hS.rd 6 rfl), ha.s2.nil, ha.s2.cap⟩, ⟨(hS.rd 5 rfl), ha.s3.nil, ha.s3.cap⟩, ⟨(hS.rd 4 rfl), ha.s4.nil, ha.s4.cap⟩⟩) hl hb42) ?_
        rintro _ w65 ⟨rfl, hb64⟩
        replace hS := hS.call hb64
        refine ⟨_, rfl, ?_⟩
        intro a hA
        refine seq_do (v := .bool true) hA rfl rfl rfl (does_un rfl un_not) ?_
        intro a hA
        refine seq_end ?_
        refine hK41 _ _ ?_
        refine wp_cond_true (hA.ev rfl) ?_
        refine wp_seq_k (fun K66 hK66 => ?_)
        refine wp_region_lit ?_
        refine seq_do hA rfl rfl rfl (does_assign rfl) ?_
        intro a hA
        refine seq_end ?_
        refine hK66 _ _ ?_
        refine wp_ret ?_
        refine hret _ _ ?_
        refine ends (v := .int .i64 10) hA rfl (.cons (res_tmp rfl) .nil) rfl ?_
        subst hr
        exact ⟨by simp [want2, hb13, hb25, hb42], hS.bel⟩
    · refine seq_call hA rfl rfl rfl (enters_func  rfl rfl (fun w => by kernel_rfl)) (soundQ_any (show Nm _ _ b1 bc1 b2 bc2 b3 bc3 b4 bc4 from ⟨⟨(hS.rd 3 rfl), hb.s1.nil, hb.s1.cap⟩, ⟨(hS.rd 2 rfl), hb.s2.nil, hb.s2.cap⟩, ⟨(hS.rd 1 rfl), hb.s3.nil, hb.s3.cap⟩, ⟨(hS.rd 0 rfl), hb.s4.nil, hb.s4.cap⟩⟩) hm hb25) ?_
      rintro _ w68 ⟨rfl, hb67⟩
      replace hS := hS.call hb67
      refine ⟨_, rfl, ?_⟩
      intro a hA
      refine seq_do (v := .bool true) hA rfl rfl rfl (does_un rfl un_not) ?_
      intro a hA
      refine seq_end ?_
      refine hK24 _ _ ?_
      refine wp_cond_true (hA.ev rfl) ?_
      refine wp_seq_k (fun K69 hK69 => ?_)
      refine wp_region_lit ?_
      refine seq_do hA rfl rfl rfl (does_assign rfl) ?_
      intro a hA
      refine seq_end ?_
      refine hK69 _ _ ?_
      refine wp_ret ?_
      refine hret _ _ ?_
      refine ends (v := .int .i64 2) hA rfl (.cons (res_tmp rfl) .nil) rfl ?_
      subst hr
      exact ⟨by simp [want2, hb13, hb25], hS.bel⟩
  · refine seq_call hA rfl rfl rfl (enters_func  rfl rfl (fun w => by kernel_rfl)) (soundQ_any (show Nm _ _ a1 ac1 a2 ac2 a3 ac3 a4 ac4 from ⟨⟨(hS.rd 7 rfl), ha.s1.nil, ha.s1.cap⟩, ⟨(hS.rd 6 rfl), ha.s2.nil, ha.s2.cap⟩, ⟨(hS.rd 5 rfl), ha.s3.nil, ha.s3.cap⟩, ⟨(hS.rd 4 rfl), ha.s4.nil, ha.s4.cap⟩⟩) hl hb13) ?_
    rintro _ w71 ⟨rfl, hb70⟩
    replace hS := hS.call hb70
    refine ⟨_, rfl, ?_⟩
    intro a hA
    refine seq_do (v := .bool true) hA rfl rfl rfl (does_un rfl un_not) ?_
    intro a hA
    refine seq_end ?_
    refine hK12 _ _ ?_
    refine wp_cond_true (hA.ev rfl) ?_
    refine wp_seq_k (fun K72 hK72 => ?_)
    refine wp_region_lit ?_
    refine seq_do hA rfl rfl rfl (does_assign rfl) ?_
    intro a hA
    refine seq_end ?_
    refine hK72 _ _ ?_
    refine wp_ret ?_
    refine hret _ _ ?_
    refine ends (v := .int .i64 2) hA rfl (.cons (res_tmp rfl) .nil) rfl ?_
    subst hr
    exact ⟨by simp [want2, hb13], hS.bel⟩
end Go.Proofs.Yteghiinbafbokaa
namespace Go.Proofs.Yteghiinbafbokaa
open Go.RowKit
set_option linter.unusedVariables false
set_option linter.unusedSimpArgs false
set_option maxRecDepth 100000
theorem is1_41 : Is1 Try.prog 41 := ⟨⟨_, Try.underlying41, rfl⟩, by kernel_rfl⟩
theorem rsame_any {w : World} {ao bo : Option Addr} {l1 l2 : List Nat} (ca cb : Nat) (ha : Rd w ao l1) (hb : Rd w bo l2) (h1 : l1.length ≤ 9223372036854775807) (h2 : l2.length ≤ 9223372036854775807) : Calls Try.prog 61 #[.slice ao l1.length ca, .slice bo l2.length cb] w fun e w' => e = .returned (.bool (decide (l1 = l2))) ∧ Below w.heap.size w w' := by
  have hS : St w w [] [(bo, l2), (ao, l1)] [] := ((St.start w).addR ha).addR hb
  refine walk_of (l := [(0, .slice ao l1.length ca), (1, .slice bo l2.length cb)]) Try.func61 rfl Try.ntmps61 rfl rfl ?_
  intro Q hret hnorm hP a hA
  refine wp_seq_k (fun K1 hK1 => ?_)
  refine wp_region_lit ?_
  refine seq_do hA rfl rfl rfl (does_assign rfl) ?_
  intro a hA
  refine seq_end ?_
  refine hK1 _ _ ?_
  refine wp_seq_k (fun K2 hK2 => ?_)
  refine wp_seq_k (fun K3 hK3 => ?_)
  refine wp_region_lit ?_
  refine seq_do hA rfl rfl rfl (does_move rfl) ?_
  intro a hA
  refine seq_do (v := .int .i64 (((l1.length : Nat) : Int))) hA rfl rfl rfl (does_len Try.underlying22 rfl) ?_
  intro a hA
  refine seq_do hA rfl rfl rfl (does_move rfl) ?_
  intro a hA
  refine seq_do (v := .int .i64 (((l2.length : Nat) : Int))) hA rfl rfl rfl (does_len Try.underlying22 rfl) ?_
  intro a hA
  rcases Bool.eq_false_or_eq_true ((((l1.length : Nat) : Int) != ((l2.length : Nat) : Int))) with hb4 | hb4
  · have hb4' := bne_iff_ne.1 hb4
    refine seq_do (v := .bool true) hA rfl rfl rfl (does_bin rfl rfl (fun w => (bin_neq w).trans (by rw [hb4]))) ?_
    intro a hA
    refine seq_end ?_
    refine hK3 _ _ ?_
    refine wp_cond_true (hA.ev rfl) ?_
    refine wp_seq_k (fun K5 hK5 => ?_)
    refine wp_region_lit ?_
    refine seq_do hA rfl rfl rfl (does_assign rfl) ?_
    intro a hA
    refine seq_end ?_
    refine hK5 _ _ ?_
    refine wp_ret ?_
    refine hret _ _ ?_
    refine ends (v := .bool false) hA rfl (.cons (res_tmp rfl) .nil) rfl ?_
    exact ⟨by rw [decide_eq_false (fun e => by subst e; omega)], hS.bel⟩
  · have hb4' := bne_eq_false_iff_eq.1 hb4
    refine seq_do (v := .bool false) hA rfl rfl rfl (does_bin rfl rfl (fun w => (bin_neq w).trans (by rw [hb4]))) ?_
    intro a hA
    refine seq_end ?_
    refine hK3 _ _ ?_
    refine wp_cond_false (hA.ev rfl) ?_
    refine wp_skip ?_
    refine hK2 _ _ ?_
    refine wp_seq_k (fun K6 hK6 => ?_)
    refine wp_seq_k (fun K7 hK7 => ?_)
    refine wp_region_lit ?_
    refine seq_do hA rfl rfl rfl (does_assign rfl) ?_
    intro a hA
    refine seq_end ?_
    refine hK7 _ _ ?_
    refine wp_block ?_
    refine wp_loop_n (fun m a w1 => ∃ (i : Nat), m = l1.length - i ∧ (i ≤ l1.length ∧ ∀ j, j < i → l1.getD j 0 = l2.getD j 0) ∧ Sl a 26 [(0, .slice ao l1.length ca), (1, .slice bo l2.length cb), (5, .int .i64 (((i : Nat) : Int))), (6, .slice ao l1.length ca), (7, .int .i64 (((l1.length : Nat) : Int))), (8, .slice bo l2.length cb), (9, .int .i64 (((l2.length : Nat) : Int))), (10, .bool false)] ∧ St w w1 [] [(bo, l2), (ao, l1)] []) _ ⟨0, rfl, ⟨by omega, fun j hj => by omega⟩, hA.keep _ ⟨rfl, rfl, rfl, rfl, rfl, rfl, rfl, rfl, trivial⟩, hS⟩ ?_
    clear hS hA
    rintro m a w8 ⟨i, rfl, hinv10, hA, hS⟩ K9 hK9
    have hle := hinv10.1
    refine wp_seq_k (fun K11 hK11 => ?_)
    refine wp_seq_k (fun K12 hK12 => ?_)
    refine wp_region_lit ?_
    refine seq_do hA rfl rfl rfl (does_move rfl) ?_
    intro a hA
    refine seq_do hA rfl rfl rfl (does_move rfl) ?_
    intro a hA
    refine seq_do (v := .int .i64 (((l1.length : Nat) : Int))) hA rfl rfl rfl (does_len Try.underlying22 rfl) ?_
    intro a hA
    rcases Bool.eq_false_or_eq_true (decide (((i : Nat) : Int) < ((l1.length : Nat) : Int))) with hb13 | hb13
    · have hb13' := of_decide_eq_true hb13
      refine seq_do (v := .bool true) hA rfl rfl rfl (does_bin rfl rfl (fun w => (bin_lss w).trans (by rw [hb13]))) ?_
      intro a hA
      refine seq_end ?_
      refine hK12 _ _ ?_
      refine wp_cond_true (hA.ev rfl) ?_
      refine wp_skip ?_
      refine hK11 _ _ ?_
      refine wp_seq_k (fun K14 hK14 => ?_)
      refine wp_block ?_
      refine wp_seq_k (fun K15 hK15 => ?_)
      refine wp_draw (S := fun w1 => St w w1 [] [(bo, l2), (ao, l1)] []) (by kernel_rfl) ?_
      replace hS := hS.drew
      refine any_take hA 0 rfl rfl rfl rfl (by kernel_rfl) (by kernel_rfl) (by kernel_rfl) (fun c a w h => hP c a _ _ w h) (hS.part .slnil ⟨⟨0, rfl⟩, ⟨⟨1, rfl⟩, trivial⟩⟩ .slnil) (fun w1 hS => does_move rfl) ?_
      intro a hA
      refine any_take hA 1 rfl rfl rfl rfl (by kernel_rfl) (by kernel_rfl) (by kernel_rfl) (fun c a w h => hP c a _ _ w h) (hS.part .slnil ⟨⟨0, rfl⟩, ⟨⟨1, rfl⟩, trivial⟩⟩ .slnil) (fun w1 hS => does_move rfl) ?_
      intro a hA
      have hi19 : i < l1.length := by omega
      obtain ⟨b16, f17, hso18⟩ := Rd.addr (hS.rd 1 rfl) hi19
      refine any_take (v := .pointer (some ⟨b16, f17 + i, none⟩)) hA 2 rfl rfl rfl rfl (by kernel_rfl) (by kernel_rfl) (by kernel_rfl) (fun c a w h => hP c a _ _ w h) (hS.part .slnil ⟨⟨0, rfl⟩, ⟨⟨1, rfl⟩, trivial⟩⟩ .slnil) (fun w1 hS => does_indexRow (k := i) Try.underlying22 (by kernel_rfl) rfl rfl (by omega) hso18 hi19) ?_
      intro a hA
      refine any_take (v := .int .u32 (((l1.getD i 0 : Nat) : Int))) hA 3 rfl rfl rfl rfl (by kernel_rfl) (by kernel_rfl) (by kernel_rfl) (fun c a w h => hP c a _ _ w h) (hS.part .slnil ⟨⟨0, rfl⟩, ⟨⟨1, rfl⟩, trivial⟩⟩ .slnil) (fun w1 hS => does_loadRow (hS.rd 1 rfl) hso18 hi19 is1_41 rfl) ?_
      intro a hA
      refine any_take hA 4 rfl rfl rfl rfl (by kernel_rfl) (by kernel_rfl) (by kernel_rfl) (fun c a w h => hP c a _ _ w h) (hS.part .slnil ⟨⟨0, rfl⟩, ⟨⟨1, rfl⟩, trivial⟩⟩ .slnil) (fun w1 hS => does_move rfl) ?_
      intro a hA
      refine any_take hA 5 rfl rfl rfl rfl (by kernel_rfl) (by kernel_rfl) (by kernel_rfl) (fun c a w h => hP c a _ _ w h) (hS.part .slnil ⟨⟨0, rfl⟩, ⟨⟨1, rfl⟩, trivial⟩⟩ .slnil) (fun w1 hS => does_move rfl) ?_
      intro a hA
      have hi23 : i < l2.length := by omega
      obtain ⟨b20, f21, hso22⟩ := Rd.addr (hS.rd 0 rfl) hi23
      refine any_take (v := .pointer (some ⟨b20, f21 + i, none⟩)) hA 6 rfl rfl rfl rfl (by kernel_rfl) (by kernel_rfl) (by kernel_rfl) (fun c a w h => hP c a _ _ w h) (hS.part .slnil ⟨⟨0, rfl⟩, ⟨⟨1, rfl⟩, trivial⟩⟩ .slnil) (fun w1 hS => does_indexRow (k := i) Try.underlying22 (by kernel_rfl) rfl rfl (by omega) hso22 hi23) ?_
      intro a hA
      refine any_take (v := .int .u32 (((l2.getD i 0 : Nat) : Int))) hA 7 rfl rfl rfl rfl (by kernel_rfl) (by kernel_rfl) (by kernel_rfl) (fun c a w h => hP c a _ _ w h) (hS.part .slnil ⟨⟨0, rfl⟩, ⟨⟨1, rfl⟩, trivial⟩⟩ .slnil) (fun w1 hS => does_loadRow (hS.rd 0 rfl) hso22 hi23 is1_41 rfl) ?_
      intro a hA
      rcases Bool.eq_false_or_eq_true ((((l1.getD i 0 : Nat) : Int) != ((l2.getD i 0 : Nat) : Int))) with hb24 | hb24
      · have hb24' := bne_iff_ne.1 hb24
        refine any_take (v := .bool true) hA 8 rfl rfl rfl rfl (by kernel_rfl) (by kernel_rfl) (by kernel_rfl) (fun c a w h => hP c a _ _ w h) (hS.part .slnil ⟨⟨0, rfl⟩, ⟨⟨1, rfl⟩, trivial⟩⟩ .slnil) (fun w1 hS => does_bin rfl rfl (fun w => (bin_neq w).trans (by rw [hb24]))) ?_
        intro a hA
        refine any_end (by kernel_rfl) ?_
        refine hK15 _ _ ?_
        refine wp_cond_true (hA.ev rfl) ?_
        refine wp_seq_k (fun K25 hK25 => ?_)
        refine wp_region_lit ?_
        refine seq_do hA rfl rfl rfl (does_assign rfl) ?_
        intro a hA
        refine seq_end ?_
        refine hK25 _ _ ?_
        refine wp_ret ?_
        refine hret _ _ ?_
        refine ends (v := .bool false) hA rfl (.cons (res_tmp rfl) .nil) rfl ?_
        exact ⟨by rw [decide_eq_false (fun e => by subst e; omega)], hS.bel⟩
      · have hb24' := bne_eq_false_iff_eq.1 hb24
        refine any_take (v := .bool false) hA 8 rfl rfl rfl rfl (by kernel_rfl) (by kernel_rfl) (by kernel_rfl) (fun c a w h => hP c a _ _ w h) (hS.part .slnil ⟨⟨0, rfl⟩, ⟨⟨1, rfl⟩, trivial⟩⟩ .slnil) (fun w1 hS => does_bin rfl rfl (fun w => (bin_neq w).trans (by rw [hb24]))) ?_
        intro a hA
        refine any_end (by kernel_rfl) ?_
        refine hK15 _ _ ?_
        refine wp_cond_false (hA.ev rfl) ?_
        refine wp_skip ?_
        refine hK14 _ _ ?_
        refine wp_region_lit ?_
        refine seq_do hA rfl rfl rfl (does_move rfl) ?_
        intro a hA
        refine seq_do (v := .int .i64 (((i + 1 : Nat) : Int))) hA rfl rfl rfl (does_bin rfl rfl (fun w => (bin_add (i64In (by omega) (by omega)) w).trans (by rw [show (((i : Nat) : Int) + 1 : Int) = ((i + 1 : Nat) : Int) from by omega]))) ?_
        intro a hA
        refine seq_do hA rfl rfl rfl (does_assign rfl) ?_
        intro a hA
        refine seq_end ?_
        refine hK9 _ _ _ (by omega) ⟨i + 1, rfl, ⟨by omega, fun j hj => by rcases Nat.lt_succ_iff_lt_or_eq.1 hj with h | h; exact hinv10.2 j h; subst h; omega⟩, hA.keep _ ⟨rfl, rfl, rfl, rfl, rfl, rfl, rfl, rfl, trivial⟩, ((hS.pickR [(bo, l2), (ao, l1)] ⟨⟨0, rfl⟩, ⟨⟨1, rfl⟩, trivial⟩⟩).subL _ .slnil)⟩
    · have hb13' := of_decide_eq_false hb13
      refine seq_do (v := .bool false) hA rfl rfl rfl (does_bin rfl rfl (fun w => (bin_lss w).trans (by rw [hb13]))) ?_
      intro a hA
      refine seq_end ?_
      refine hK12 _ _ ?_
      refine wp_cond_false (hA.ev rfl) ?_
      refine wp_exit ?_
      refine hK6 _ _ ?_
      refine wp_seq_k (fun K26 hK26 => ?_)
      refine wp_region_lit ?_
      refine seq_do hA rfl rfl rfl (does_assign rfl) ?_
      intro a hA
      refine seq_end ?_
      refine hK26 _ _ ?_
      refine wp_ret ?_
      refine hret _ _ ?_
      refine ends (v := .bool true) hA rfl (.cons (res_tmp rfl) .nil) rfl ?_
      exact ⟨by rw [decide_eq_true (list_of_getD (by omega) (fun j hj => hinv10.2 j (by omega)))], hS.bel⟩
theorem equal_any {w : World} {ao bo : Option Addr} {l1 l2 : List Nat} (ca cb : Nat) (ha : Rd w ao l1) (hb : Rd w bo l2) (h1 : l1.length ≤ 9223372036854775807) (h2 : l2.length ≤ 9223372036854775807) : Calls Try.prog 86 #[.slice ao l1.length ca, .slice bo l2.length cb] w fun e w' => e = .returned (.bool (decide (l1 = l2))) ∧ Below w.heap.size w w' := by
  have hS : St w w [] [(bo, l2), (ao, l1)] [] := ((St.start w).addR ha).addR hb
  refine walk_of (l := [(0, .slice ao l1.length ca), (1, .slice bo l2.length cb)]) Try.func86 rfl Try.ntmps86 rfl rfl ?_
  intro Q hret hnorm hP a hA
  refine wp_seq_k (fun K1 hK1 => ?_)
  refine wp_region_lit ?_
  refine seq_do hA rfl rfl rfl (does_assign rfl) ?_
  intro a hA
  refine seq_end ?_
  refine hK1 _ _ ?_
  refine wp_seq_k (fun K2 hK2 => ?_)
  refine wp_seq_k (fun K3 hK3 => ?_)
  refine wp_region_lit ?_
  refine seq_do hA rfl rfl rfl (does_move rfl) ?_
  intro a hA
  refine seq_do (v := .int .i64 (((l1.length : Nat) : Int))) hA rfl rfl rfl (does_len Try.underlying22 rfl) ?_
  intro a hA
  refine seq_do hA rfl rfl rfl (does_move rfl) ?_
  intro a hA
  refine seq_do (v := .int .i64 (((l2.length : Nat) : Int))) hA rfl rfl rfl (does_len Try.underlying22 rfl) ?_
  intro a hA
  rcases Bool.eq_false_or_eq_true ((((l1.length : Nat) : Int) != ((l2.length : Nat) : Int))) with hb4 | hb4
  · have hb4' := bne_iff_ne.1 hb4
    refine seq_do (v := .bool true) hA rfl rfl rfl (does_bin rfl rfl (fun w => (bin_neq w).trans (by rw [hb4]))) ?_
    intro a hA
    refine seq_end ?_
    refine hK3 _ _ ?_
    refine wp_cond_true (hA.ev rfl) ?_
    refine wp_seq_k (fun K5 hK5 => ?_)
    refine wp_region_lit ?_
    refine seq_do hA rfl rfl rfl (does_assign rfl) ?_
    intro a hA
    refine seq_end ?_
    refine hK5 _ _ ?_
    refine wp_ret ?_
    refine hret _ _ ?_
    refine ends (v := .bool false) hA rfl (.cons (res_tmp rfl) .nil) rfl ?_
    exact ⟨by rw [decide_eq_false (fun e => by subst e; omega)], hS.bel⟩
  · have hb4' := bne_eq_false_iff_eq.1 hb4
    refine seq_do (v := .bool false) hA rfl rfl rfl (does_bin rfl rfl (fun w => (bin_neq w).trans (by rw [hb4]))) ?_
    intro a hA
    refine seq_end ?_
    refine hK3 _ _ ?_
    refine wp_cond_false (hA.ev rfl) ?_
    refine wp_skip ?_
    refine hK2 _ _ ?_
    refine wp_seq_k (fun K6 hK6 => ?_)
    refine wp_seq_k (fun K7 hK7 => ?_)
    refine wp_region_lit ?_
    refine seq_do hA rfl rfl rfl (does_move rfl) ?_
    intro a hA
    refine seq_do (v := .int .i64 (((l1.length : Nat) : Int))) hA rfl rfl rfl (does_len Try.underlying22 rfl) ?_
    intro a hA
    refine seq_do hA rfl rfl rfl (does_move rfl) ?_
    intro a hA
    refine seq_end ?_
    refine hK7 _ _ ?_
    refine wp_block ?_
    refine wp_loop_n (fun m a w1 => ∃ (i : Nat), m = l1.length - i ∧ (i ≤ l1.length ∧ ∀ j, j < i → l1.getD j 0 = l2.getD j 0) ∧ Sl a 26 [(0, .slice ao l1.length ca), (1, .slice bo l2.length cb), (6, .slice ao l1.length ca), (7, .int .i64 (((l1.length : Nat) : Int))), (8, .slice bo l2.length cb), (9, .int .i64 (((l2.length : Nat) : Int))), (10, .bool false), (11, .slice ao l1.length ca), (12, .int .i64 (((l1.length : Nat) : Int))), (13, .int .i64 (((i : Nat) : Int)))] ∧ St w w1 [] [(bo, l2), (ao, l1)] []) _ ⟨0, rfl, ⟨by omega, fun j hj => by omega⟩, hA.keep _ ⟨rfl, rfl, rfl, rfl, rfl, rfl, rfl, rfl, rfl, rfl, trivial⟩, hS⟩ ?_
    clear hS hA
    rintro m a w8 ⟨i, rfl, hinv10, hA, hS⟩ K9 hK9
    have hle := hinv10.1
    refine wp_seq_k (fun K11 hK11 => ?_)
    refine wp_region_lit ?_
    rcases Bool.eq_false_or_eq_true (decide (((i : Nat) : Int) < ((l1.length : Nat) : Int))) with hb12 | hb12
    · have hb12' := of_decide_eq_true hb12
      refine seq_do (v := .bool true) hA rfl rfl rfl (does_bin rfl rfl (fun w => (bin_lss w).trans (by rw [hb12]))) ?_
      intro a hA
      refine seq_end ?_
      refine hK11 _ _ ?_
      refine wp_seq_k (fun K13 hK13 => ?_)
      refine wp_cond_true (hA.ev rfl) ?_
      refine wp_skip ?_
      refine hK13 _ _ ?_
      refine wp_seq_k (fun K14 hK14 => ?_)
      refine wp_block ?_
      refine wp_seq_k (fun K15 hK15 => ?_)
      refine wp_region_lit ?_
      refine seq_do hA rfl rfl rfl (does_move rfl) ?_
      intro a hA
      refine seq_do hA rfl rfl rfl (does_assign rfl) ?_
      intro a hA
      refine seq_end ?_
      refine hK15 _ _ ?_
      refine wp_seq_k (fun K16 hK16 => ?_)
      refine wp_draw (S := fun w1 => St w w1 [] [(bo, l2), (ao, l1)] []) (by kernel_rfl) ?_
      replace hS := hS.drew
      refine any_take hA 0 rfl rfl rfl rfl (by kernel_rfl) (by kernel_rfl) (by kernel_rfl) (fun c a w h => hP c a _ _ w h) (hS.part .slnil ⟨⟨0, rfl⟩, ⟨⟨1, rfl⟩, trivial⟩⟩ .slnil) (fun w1 hS => does_move rfl) ?_
      intro a hA
      refine any_take hA 1 rfl rfl rfl rfl (by kernel_rfl) (by kernel_rfl) (by kernel_rfl) (fun c a w h => hP c a _ _ w h) (hS.part .slnil ⟨⟨0, rfl⟩, ⟨⟨1, rfl⟩, trivial⟩⟩ .slnil) (fun w1 hS => does_move rfl) ?_
      intro a hA
      have hi20 : i < l1.length := by omega
      obtain ⟨b17, f18, hso19⟩ := Rd.addr (hS.rd 1 rfl) hi20
      refine any_take (v := .pointer (some ⟨b17, f18 + i, none⟩)) hA 2 rfl rfl rfl rfl (by kernel_rfl) (by kernel_rfl) (by kernel_rfl) (fun c a w h => hP c a _ _ w h) (hS.part .slnil ⟨⟨0, rfl⟩, ⟨⟨1, rfl⟩, trivial⟩⟩ .slnil) (fun w1 hS => does_indexRow (k := i) Try.underlying22 (by kernel_rfl) rfl rfl (by omega) hso19 hi20) ?_
      intro a hA
      refine any_take (v := .int .u32 (((l1.getD i 0 : Nat) : Int))) hA 3 rfl rfl rfl rfl (by kernel_rfl) (by kernel_rfl) (by kernel_rfl) (fun c a w h => hP c a _ _ w h) (hS.part .slnil ⟨⟨0, rfl⟩, ⟨⟨1, rfl⟩, trivial⟩⟩ .slnil) (fun w1 hS => does_loadRow (hS.rd 1 rfl) hso19 hi20 is1_41 rfl) ?_
      intro a hA
      refine any_take hA 4 rfl rfl rfl rfl (by kernel_rfl) (by kernel_rfl) (by kernel_rfl) (fun c a w h => hP c a _ _ w h) (hS.part .slnil ⟨⟨0, rfl⟩, ⟨⟨1, rfl⟩, trivial⟩⟩ .slnil) (fun w1 hS => does_move rfl) ?_
      intro a hA
      refine any_take hA 5 rfl rfl rfl rfl (by kernel_rfl) (by kernel_rfl) (by kernel_rfl) (fun c a w h => hP c a _ _ w h) (hS.part .slnil ⟨⟨0, rfl⟩, ⟨⟨1, rfl⟩, trivial⟩⟩ .slnil) (fun w1 hS => does_move rfl) ?_
      intro a hA
      have hi24 : i < l2.length := by omega
      obtain ⟨b21, f22, hso23⟩ := Rd.addr (hS.rd 0 rfl) hi24
      refine any_take (v := .pointer (some ⟨b21, f22 + i, none⟩)) hA 6 rfl rfl rfl rfl (by kernel_rfl) (by kernel_rfl) (by kernel_rfl) (fun c a w h => hP c a _ _ w h) (hS.part .slnil ⟨⟨0, rfl⟩, ⟨⟨1, rfl⟩, trivial⟩⟩ .slnil) (fun w1 hS => does_indexRow (k := i) Try.underlying22 (by kernel_rfl) rfl rfl (by omega) hso23 hi24) ?_
      intro a hA
      refine any_take (v := .int .u32 (((l2.getD i 0 : Nat) : Int))) hA 7 rfl rfl rfl rfl (by kernel_rfl) (by kernel_rfl) (by kernel_rfl) (fun c a w h => hP c a _ _ w h) (hS.part .slnil ⟨⟨0, rfl⟩, ⟨⟨1, rfl⟩, trivial⟩⟩ .slnil) (fun w1 hS => does_loadRow (hS.rd 0 rfl) hso23 hi24 is1_41 rfl) ?_
      intro a hA
      rcases Bool.eq_false_or_eq_true ((((l1.getD i 0 : Nat) : Int) != ((l2.getD i 0 : Nat) : Int))) with hb25 | hb25
      · have hb25' := bne_iff_ne.1 hb25
        refine any_take (v := .bool true) hA 8 rfl rfl rfl rfl (by kernel_rfl) (by kernel_rfl) (by kernel_rfl) (fun c a w h => hP c a _ _ w h) (hS.part .slnil ⟨⟨0, rfl⟩, ⟨⟨1, rfl⟩, trivial⟩⟩ .slnil) (fun w1 hS => does_bin rfl rfl (fun w => (bin_neq w).trans (by rw [hb25]))) ?_
        intro a hA
        refine any_end (by kernel_rfl) ?_
        refine hK16 _ _ ?_
        refine wp_cond_true (hA.ev rfl) ?_
        refine wp_seq_k (fun K26 hK26 => ?_)
        refine wp_region_lit ?_
        refine seq_do hA rfl rfl rfl (does_assign rfl) ?_
        intro a hA
        refine seq_end ?_
        refine hK26 _ _ ?_
        refine wp_ret ?_
        refine hret _ _ ?_
        refine ends (v := .bool false) hA rfl (.cons (res_tmp rfl) .nil) rfl ?_
        exact ⟨by rw [decide_eq_false (fun e => by subst e; omega)], hS.bel⟩
      · have hb25' := bne_eq_false_iff_eq.1 hb25
        refine any_take (v := .bool false) hA 8 rfl rfl rfl rfl (by kernel_rfl) (by kernel_rfl) (by kernel_rfl) (fun c a w h => hP c a _ _ w h) (hS.part .slnil ⟨⟨0, rfl⟩, ⟨⟨1, rfl⟩, trivial⟩⟩ .slnil) (fun w1 hS => does_bin rfl rfl (fun w => (bin_neq w).trans (by rw [hb25]))) ?_
        intro a hA
        refine any_end (by kernel_rfl) ?_
        refine hK16 _ _ ?_
        refine wp_cond_false (hA.ev rfl) ?_
        refine wp_skip ?_
        refine hK14 _ _ ?_
        refine wp_region_lit ?_
        refine seq_do (v := .int .i64 (((i + 1 : Nat) : Int))) hA rfl rfl rfl (does_bin rfl rfl (fun w => (bin_add (i64In (by omega) (by omega)) w).trans (by rw [show (((i : Nat) : Int) + 1 : Int) = ((i + 1 : Nat) : Int) from by omega]))) ?_
        intro a hA
        refine seq_do hA rfl rfl rfl (does_move rfl) ?_
        intro a hA
        refine seq_end ?_
        refine hK9 _ _ _ (by omega) ⟨i + 1, rfl, ⟨by omega, fun j hj => by rcases Nat.lt_succ_iff_lt_or_eq.1 hj with h | h; exact hinv10.2 j h; subst h; omega⟩, hA.keep _ ⟨rfl, rfl, rfl, rfl, rfl, rfl, rfl, rfl, rfl, rfl, trivial⟩, ((hS.pickR [(bo, l2), (ao, l1)] ⟨⟨0, rfl⟩, ⟨⟨1, rfl⟩, trivial⟩⟩).subL _ .slnil)⟩
    · have hb12' := of_decide_eq_false hb12
      refine seq_do (v := .bool false) hA rfl rfl rfl (does_bin rfl rfl (fun w => (bin_lss w).trans (by rw [hb12]))) ?_
      intro a hA
      refine seq_end ?_
      refine hK11 _ _ ?_
      refine wp_seq_k (fun K27 hK27 => ?_)
      refine wp_cond_false (hA.ev rfl) ?_
      refine wp_exit ?_
      refine hK6 _ _ ?_
      refine wp_seq_k (fun K28 hK28 => ?_)
      refine wp_region_lit ?_
      refine seq_do hA rfl rfl rfl (does_assign rfl) ?_
      intro a hA
      refine seq_end ?_
      refine hK28 _ _ ?_
      refine wp_ret ?_
      refine hret _ _ ?_
      refine ends (v := .bool true) hA rfl (.cons (res_tmp rfl) .nil) rfl ?_
      exact ⟨by rw [decide_eq_true (list_of_getD (by omega) (fun j hj => hinv10.2 j (by omega)))], hS.bel⟩
end Go.Proofs.Yteghiinbafbokaa
namespace Go.Proofs.Yteghiinbafbokaa
open Go.RowKit
set_option linter.unusedVariables false
set_option linter.unusedSimpArgs false

theorem wrapU (x : Int) (h0 : 0 ≤ x) (h1 : x ≤ 18446744073709551615) : IntKind.u64.wrap x = x := by
  simp [IntKind.wrap, IntKind.bits, IntKind.signed]
  omega
theorem rtimes_step (L L0 b : List Nat) (i j c k : Nat) (hi : i + j < L.length) (h : val L + pw (i + j) * c = val L0 + pw i * (k * val (b.take j))) :
    val (L.set (i + j) ((L.getD (i + j) 0 + k * b.getD j 0 + c) % 4294967296)) + pw (i + (j + 1)) * ((L.getD (i + j) 0 + k * b.getD j 0 + c) / 4294967296) = val L0 + pw i * (k * val (b.take (j + 1))) := by
  have e1 := val_set L (i + j) ((L.getD (i + j) 0 + k * b.getD j 0 + c) % 4294967296) hi
  have e2 := carry_step (pw (i + j)) (L.getD (i + j) 0 + k * b.getD j 0 + c)
  have e3 : pw (i + (j + 1)) = 4294967296 * pw (i + j) := by rw [← Nat.add_assoc, pw_succ]
  rw [e3, val_take_succ, Nat.mul_add k, Nat.mul_add (pw i)]
  have e4 : pw i * (k * (pw j * b.getD j 0)) = pw (i + j) * (k * b.getD j 0) := by
    rw [pw_add, Nat.mul_left_comm k, Nat.mul_assoc]
  rw [e4]
  rw [Nat.mul_add, Nat.mul_add] at e2
  omega
theorem no_carry {a P c b : Nat} (h : a + P * c = b) (h2 : b < P) : a = b := by
  have h3 : c = 0 := by
    apply Classical.byContradiction
    intro hc
    have : P * 1 ≤ P * c := Nat.mul_le_mul_left _ (by omega)
    omega
  subst h3
  omega
theorem rtimes_end (L L0 a : List Nat) (i m c y : Nat) (ha : Dig a) (hy : y < pw m) (hv : val L0 = val (a.take i) * y) (h : val L + pw (i + (m + 1)) * c = val L0 + pw i * (a.getD i 0 * y)) (hi : i < a.length) : val L = val (a.take (i + 1)) * y := by
  have e : val (a.take (i + 1)) * y = val L0 + pw i * (a.getD i 0 * y) := by
    rw [val_take_succ, Nat.add_mul, hv, Nat.mul_assoc]
  rw [← e] at h
  have h1 := val_lt (ha.take (i + 1))
  rw [List.length_take, Nat.min_eq_left (by omega)] at h1
  have h2 : val (a.take (i + 1)) * y < pw (i + 1) * pw m := Nat.mul_lt_mul'' h1 hy
  rw [← pw_add, show i + 1 + m = i + (m + 1) by omega] at h2
  exact no_carry h h2

set_option maxHeartbeats 2000000 in
set_option maxRecDepth 1000000 in
theorem rtimes_any {w : World} {ao bo : Option Addr} {x y : Nat} (ca cb : Nat) (ha : Rd w ao (words x)) (hb : Rd w bo (words y)) (hx : (words x).length ≤ 100000) (hy : (words y).length ≤ 100000) :
    Calls Try.prog 80 #[.slice ao (words x).length ca, .slice bo (words y).length cb] w (Row1 w (words (x * y))) := by
  obtain ⟨n, HX⟩ : ∃ n, Hid ((words x).length = n) := ⟨_, rfl⟩
  obtain ⟨m, HY⟩ : ∃ m, Hid ((words y).length = m) := ⟨_, rfl⟩
  rw [HX.out] at hx ⊢
  rw [HY.out] at hy ⊢
  have hmk := run_make_row' (P := Try.prog) 22 41 (.int .u32 0) 4 Try.underlying22 infoU rfl .i64 .i64 (n + m + 1) (by omega) (by omega)
  simp only [Int.natCast_add, Int.cast_ofNat_Int] at hmk
  go_enter Try.func80, Try.ntmps80
  go_wp2
  go_loopw [6] (fun v wr => ∃ (i : Nat) (L : List Nat), i ≤ n ∧ v = .int .i64 (i : Int) ∧ L.length = n + m + 1 ∧ Own w.heap.size wr (some ⟨w.heap.size, 0, none⟩) (n + m + 1) L ∧ Below w.heap.size w wr ∧ val L = val ((words x).take i) * y) (fun v _ => n - (intOf v).toNat)
  case atStart => exact ⟨0, List.replicate (n + m + 1) 0, Nat.zero_le _, rfl, by simp, Own.made w (n + m + 1) (by omega), (Below.refl _ w).alloc (Nat.le_refl _) _, by simp [val_replicate, val]⟩
  case round =>
    obtain ⟨i, L, hi, rfl, hL, hown, hbw, hv⟩ := hrel
    have HV : Hid _ := hv
    have HL : Hid _ := hL
    clear hv hL
    by_cases hin : i < n
    · obtain ⟨k, hk⟩ : ∃ k, (words x).getD i 0 = k := ⟨_, rfl⟩
      have HK : Hid _ := hk
      have d0 := (words_dig x).getD i
      rw [hk] at d0
      clear hk
      go_wp2
      go_loopw [7, 8] (fun v7 v8 wr => ∃ (j c : Nat) (L' : List Nat), j ≤ m + 1 ∧ v8 = .int .i64 (j : Int) ∧ v7 = .int .u64 (c : Int) ∧ c < 4294967296 ∧ L'.length = n + m + 1 ∧ Own w.heap.size wr (some ⟨w.heap.size, 0, none⟩) (n + m + 1) L' ∧ Below w.heap.size w wr ∧ val L' + pw (i + j) * c = val L + pw i * (k * val ((words y).take j))) (fun _ v8 _ => m + 1 - (intOf v8).toNat)
      case atStart => exact ⟨0, 0, L, Nat.zero_le _, rfl, rfl, by omega, HL.out, hown, hbw, by simp [val]⟩
      case round =>
        clear hown hbw
        obtain ⟨j, c, L', hj, rfl, rfl, hc, hL', hown, hbw, hv⟩ := hrel
        have HV' : Hid _ := hv
        have HL' : Hid _ := hL'
        clear hv hL'
        by_cases hjm : j ≤ m
        · have ha' := ha.below hbw
          have hb' := hb.below hbw
          obtain ⟨b1, o1, rfl, _, hc1⟩ := ha'.pos (by intro e; have := HX.out; rw [e] at this; simp at this; omega)
          have k0 := hc1 i (by rw [HX.out]; omega)
          rw [HK.out] at k0
          have k1 := hown.cell (i + j) (by rw [HL'.out]; omega)
          have k2 := hown.frozen (i + j)
          have d1 := hown.dig.getD (i + j)
          have d2 := (words_dig y).getD j
          have HS : Hid _ := rtimes_step L' L (words y) i j c k (by rw [HL'.out]; omega) HV'.out
          have c1 := rword_any cb j hb'.drew
          rw [HY.out] at c1
          obtain ⟨t, ht⟩ : ∃ t, L'.getD (i + j) 0 = t := ⟨_, rfl⟩
          obtain ⟨q, hq⟩ : ∃ q, (words y).getD j 0 = q := ⟨_, rfl⟩
          rw [hq] at c1 d2 HS
          rw [ht] at k1 d1 HS
          clear ht hq hc1 ha' hb'
          have m1 := mul_boundI d0 d2
          have m2 := mul_bound d0 d2
          have w1 := wrapI ((i : Int) + j) (by omega) (by omega)
          have w2 := wrapU ((k : Int) * q) (by omega) (by omega)
          have w3 := wrapU ((t : Int) + (k : Int) * q) (by omega) (by omega)
          have w4 := wrapU ((t : Int) + (k : Int) * q + c) (by omega) (by omega)
          have q4 : ((i : Int) + j).toNat = i + j := by omega
          have q5 : (0 : Int) ≤ (i : Int) + j := by omega
          have q6 : (i : Int) + j < (n : Int) + m + 1 := by omega
          have hset := hown.set (i + j) ((t + k * q + c) % 4294967296) (Nat.mod_lt _ (by omega))
          have hbw' := hbw.setCell (p := ⟨w.heap.size, i + j, none⟩) (Nat.le_refl _) (.int .u32 (((t + k * q + c) % 4294967296 : Nat) : Int))
          have HSet : Hid _ := hset
          have HB : Hid _ := hbw'
          have HC : Hid _ := c1
          clear hset hbw' hown hbw ha hb c1
          go_wp2_with fail
          go_region_with (go_at_call 66; refine Calls.mono HC.out ?_; rintro e w' ⟨rfl, rfl⟩)
          all_goals go_wp2
          all_goals
            go_roundw
            case rel =>
              have hlt : (t + k * q + c) / 4294967296 < 4294967296 := Nat.div_lt_of_lt_mul (by omega)
              exact ⟨j + 1, (t + k * q + c) / 4294967296, L'.set (i + j) ((t + k * q + c) % 4294967296), by omega, by go_num, rfl, hlt, by rw [List.length_set]; exact HL'.out, HSet.out.drew, HB.out.drew, HS.out⟩
            case measure => simp [intOf]; omega
        · have e : j = m + 1 := by omega
          subst e
          have hval := HV'.out
          rw [List.take_of_length_le (by rw [HY.out]; omega), val_words, ← HK.out] at hval
          have hfin := rtimes_end L' L (words x) i m c y (words_dig x) (by have := words_lt y; rw [HY.out] at this; exact this) HV.out hval (by rw [HX.out]; omega)
          have HF : Hid _ := hfin
          have HO : Hid _ := hown
          have HB : Hid _ := hbw
          clear hval hfin hown hbw ha hb
          go_wp2
          go_roundw
          case rel => exact ⟨i + 1, L', by omega, by go_num, HL'.out, HO.out, HB.out, HF.out⟩
          case measure => simp [intOf]; omega
    · have e : i = n := by omega
      subst e
      have hval := HV.out
      rw [List.take_of_length_le (by rw [HX.out]; omega), val_words] at hval
      have c1 := norm_any (i + m + 1) hown.rd (by rw [HL.out]; omega) hown.caps (by simp)
      rw [hval, HL.out] at c1
      have HC : Hid _ := c1
      have HB : Hid _ := hbw
      clear hval c1 hown hbw ha hb
      go_wp2_with fail
      refine Calls.mono HC.out ?_
      rintro e w2 ⟨so, sc, rfl, ho, hb3⟩
      have HO : Hid _ := ho.lower HB.out.size
      have HB3 : Hid _ := HB.out.trans (hb3.mono HB.out.size)
      clear ho hb3
      go_wp2
      go_ret
      exact ⟨_, _, rfl, HO.out, HB3.out⟩

end Go.Proofs.Yteghiinbafbokaa
namespace Go.Proofs.Yteghiinbafbokaa
open Go.RowKit
set_option linter.unusedVariables false
set_option linter.unusedSimpArgs false

theorem rup_step (acc a : List Nat) (W i r c : Nat) (hl : acc.length = W + i) (h : val acc + pw (W + i) * c = pw W * (val (a.take i) * 2 ^ r)) :
    val (acc ++ [(c + a.getD i 0 * 2 ^ r) % 4294967296]) + pw (W + (i + 1)) * ((c + a.getD i 0 * 2 ^ r) / 4294967296) = pw W * (val (a.take (i + 1)) * 2 ^ r) := by
  rw [val_snoc, hl, val_take_succ, Nat.add_mul, Nat.mul_add (pw W)]
  have e := carry_step (pw (W + i)) (c + a.getD i 0 * 2 ^ r)
  have e2 : pw (W + (i + 1)) = 4294967296 * pw (W + i) := by rw [← Nat.add_assoc, pw_succ]
  have e3 : pw W * (pw i * a.getD i 0 * 2 ^ r) = pw (W + i) * (a.getD i 0 * 2 ^ r) := by rw [pw_add]; simp only [Nat.mul_assoc]
  rw [e2, e3]
  rw [Nat.mul_add] at e
  omega
theorem up_carry {c d r : Nat} (hc : c < 2 ^ r) (hd : d < 4294967296) : (c + d * 2 ^ r) / 4294967296 < 2 ^ r := by
  rw [Nat.div_lt_iff_lt_mul (by omega)]
  have : (d + 1) * 2 ^ r ≤ 4294967296 * 2 ^ r := Nat.mul_le_mul_right _ (by omega)
  rw [Nat.add_mul, Nat.one_mul] at this
  rw [Nat.mul_comm (2 ^ r)]
  omega

set_option maxHeartbeats 2000000 in
set_option maxRecDepth 1000000 in
theorem rup_any {w : World} {ao : Option Addr} {x : Nat} (ca k : Nat) (ha : Rd w ao (words x)) (hx : (words x).length ≤ 100000) (hk : k ≤ 1000000) :
    Calls Try.prog 41 #[.slice ao (words x).length ca, .int .i64 (k : Int)] w (Row1 w (words (x * 2 ^ k))) := by
  obtain ⟨i0, hi0, hz0, hz1, hz2⟩ := info_parts infoU
  obtain ⟨n, HX⟩ : ∃ n, Hid ((words x).length = n) := ⟨_, rfl⟩
  rw [HX.out] at hx ⊢
  obtain ⟨W, hW⟩ : ∃ W, k / 32 = W := ⟨_, rfl⟩
  obtain ⟨r, hr⟩ : ∃ r, k % 32 = r := ⟨_, rfl⟩
  have hr32 : r < 32 := by omega
  have hWk : W ≤ 100000 := by omega
  have e1 : (k : Int) / 32 = (W : Int) := by omega
  have e2 : (k : Int) % 32 = (r : Int) := by omega
  have HKK : Hid (2 ^ k = pw W * 2 ^ r) := by
    show 2 ^ k = pw W * 2 ^ r
    rw [pw_two, ← Nat.pow_add]
    congr 1
    omega
  have hmk := run_make_row' (P := Try.prog) 22 41 (.int .u32 0) 4 Try.underlying22 infoU rfl .i64 .i64 W (by omega) (by omega)
  clear hW hr
  go_enter Try.func41, Try.ntmps41
  go_wp2
  go_loopw [5, 6, 7] (fun v5 v6 v7 wr => ∃ (i c : Nat) (acc : List Nat) (ro : Option Addr) (rc : Nat), i ≤ n + 1 ∧ v7 = .int .i64 (i : Int) ∧ v6 = .int .u64 (c : Int) ∧ c < 2 ^ r ∧ v5 = .slice ro (W + i) rc ∧ acc.length = W + i ∧ Own w.heap.size wr ro rc acc ∧ Below w.heap.size w wr ∧ val acc + pw (W + i) * c = pw W * (val ((words x).take i) * 2 ^ r)) (fun _ _ v7 _ => n + 1 - (intOf v7).toNat)
  case atStart =>
    refine ⟨0, 0, List.replicate W 0, some ⟨w.heap.size, 0, none⟩, W, Nat.zero_le _, rfl, rfl, Nat.pow_pos (by omega), rfl, by simp, Own.made w W (by omega), (Below.refl _ w).alloc (Nat.le_refl _) _, by simp [val, val_replicate]⟩
  case round =>
    obtain ⟨i, c, acc, ro, rc, hi, rfl, rfl, hc, rfl, hacc, hown, hbw, hv⟩ := hrel
    have HV : Hid _ := hv
    have HL : Hid _ := hacc
    have HCc : Hid _ := hc
    have hwsz := hbw.size
    have hc32 : c < 4294967296 := Nat.lt_of_lt_of_le hc (by have := Nat.pow_le_pow_right (show 0 < 2 by omega) (show r ≤ 32 by omega); omega)
    clear hv hacc hc
    by_cases hin : i ≤ n
    · have c1 := rword_any ca i (ha.below hbw)
      rw [HX.out] at c1
      have d1 := (words_dig x).getD i
      have HS : Hid _ := rup_step acc (words x) W i r c HL.out HV.out
      obtain ⟨d, hd⟩ : ∃ d, (words x).getD i 0 = d := ⟨_, rfl⟩
      rw [hd] at c1 d1 HS
      clear hd ha
      have hrow := hown.row
      rw [HL.out] at hrow
      have HD : Hid _ := hown.dig
      have HB : Hid _ := hbw
      have HU : Hid _ := up_carry HCc.out d1
      have s1 := shl_lt d r d1 hr32
      obtain ⟨p, hp⟩ : ∃ p, d * 2 ^ r = p := ⟨_, rfl⟩
      have hpI : (d : Int) * 2 ^ r = (p : Int) := by rw [← hp, Int.natCast_mul, Int.natCast_pow]; rfl
      have hor : bits BinOp.or IntKind.u64 (c : Int) (p : Int) = ((c + p : Nat) : Int) := by
        rw [or_u64 _ _ (by omega) (by omega), Nat.or_comm, ← hp, or_add _ _ _ HCc.out, Nat.add_comm]
      rw [hp] at HS HU s1
      obtain ⟨t, ht⟩ : ∃ t, c + p = t := ⟨_, rfl⟩
      rw [ht] at hor HS HU
      have htb : t ≤ 18446744073709551615 := by omega
      clear hown hbw hp ht
      go_wp2_with fail
      refine c1.mono ?_
      rintro e w' ⟨rfl, hw'⟩
      have hw' := hw'.symm
      subst hw'
      clear c1
      go_wp2_with (at_builtin; refine wpList_append_own _ rfl _ _ 22 rfl w.heap.size 41 i0 (.int .u32 0) 1 4 Try.underlying22 hi0 hz0 hz1 hz2 rfl (by decide) _ _ _ rfl (hrow.alloc _) ⟨wr.heap.size, 0, none⟩ 1 1 [.int .u32 ((t % 4294967296 : Nat) : Int)] rfl rfl (by exact cell_one wr _ 41) (by intro u hu; simp at hu; subst hu; rfl) (by unfold maxLen; omega) (by omega) (by simp; omega) ?_)
      intro v' w1 hown' hgrow hiff
      have hb2 := grown_below (HB.out.alloc (by omega) _) (hrow.alloc _) hgrow (by simp; omega)
      rw [← HL.out] at hown'
      obtain ⟨ro', rc', e, ho⟩ := own_append HD.out (Nat.mod_lt _ (by omega)) hown'
      subst e
      have HO : Hid _ := ho
      have HB2 : Hid _ := hb2
      clear hown' hgrow hiff ho hb2 hrow
      go_wp2
      go_roundw
      case rel =>
        refine ⟨i + 1, t / 4294967296, acc ++ [t % 4294967296], ro', rc', by omega, by go_num, rfl, HU.out, by rw [List.length_append, HL.out]; rfl, by rw [List.length_append, HL.out]; rfl, HO.out, HB2.out, HS.out⟩
      case measure => simp only [intOf]; omega
    · have e : i = n + 1 := by omega
      subst e
      have hval : val acc = x * 2 ^ k := by
        have h1 := HV.out
        rw [List.take_of_length_le (by rw [HX.out]; omega), val_words] at h1
        rw [HKK.out, Nat.mul_left_comm]
        refine no_carry h1 ?_
        have h2 : x < pw n := by have := words_lt x; rw [HX.out] at this; exact this
        have h3 : 2 ^ r < pw 1 := by
          rw [show pw 1 = 2 ^ 32 from rfl]
          exact Nat.pow_lt_pow_right (by omega) hr32
        have h4 : x * 2 ^ r < pw n * pw 1 := Nat.mul_lt_mul'' h2 h3
        rw [← pw_add] at h4
        rw [pw_add W]
        exact Nat.mul_lt_mul_of_pos_left h4 (pw_pos W)
      have c3 := norm_any rc hown.rd (by rw [HL.out]; omega) hown.caps (fun e => by subst e; exact hown.none_cap)
      rw [hval, HL.out] at c3
      have HC : Hid _ := c3
      have HB : Hid _ := hbw
      clear hval c3 hown hbw ha
      go_wp2_with fail
      refine Calls.mono HC.out ?_
      rintro e w2 ⟨so, sc, rfl, ho, hb3⟩
      have HO : Hid _ := ho.lower HB.out.size
      have HB3 : Hid _ := HB.out.trans (hb3.mono HB.out.size)
      clear ho hb3
      go_wp2
      go_ret
      exact ⟨_, _, rfl, HO.out, HB3.out⟩
end Go.Proofs.Yteghiinbafbokaa
namespace Go.Proofs.Yteghiinbafbokaa
open Go.RowKit
set_option linter.unusedVariables false
set_option linter.unusedSimpArgs false

theorem rdown_step (acc : List Nat) (x W j r : Nat) (hl : acc.length = j) (hr : r < 32) (h : val acc = x / (pw W * 2 ^ r) % pw j) :
    val (acc ++ [((words x).getD (W + j + 1) 0 * 4294967296 + (words x).getD (W + j) 0) / 2 ^ r % 4294967296]) = x / (pw W * 2 ^ r) % pw (j + 1) := by
  have := down_step (acc ++ [0]) x W j r (by simp [hl]) hr (by rw [List.take_append_of_le_length (by omega), List.take_of_length_le (by omega)]; exact h)
  rw [← this]
  congr 1
  rw [List.take_of_length_le (by simp [hl])]
  rw [List.set_append_right _ _ (by omega)]
  simp [hl]

set_option maxHeartbeats 2000000 in
set_option maxRecDepth 1000000 in
theorem rdown_any {w : World} {ao : Option Addr} {x : Nat} (ca k : Nat) (ha : Rd w ao (words x)) (hx : (words x).length ≤ 100000) (hk : k ≤ 1000000) :
    Calls Try.prog 42 #[.slice ao (words x).length ca, .int .i64 (k : Int)] w (Row1 w (words (x / 2 ^ k))) := by
  obtain ⟨i0, hi0, hz0, hz1, hz2⟩ := info_parts infoU
  obtain ⟨n, HX⟩ : ∃ n, Hid ((words x).length = n) := ⟨_, rfl⟩
  rw [HX.out] at hx ⊢
  obtain ⟨W, hW⟩ : ∃ W, k / 32 = W := ⟨_, rfl⟩
  obtain ⟨r, hr⟩ : ∃ r, k % 32 = r := ⟨_, rfl⟩
  have hr32 : r < 32 := by omega
  have hWk : W ≤ 100000 := by omega
  have e1 : (k : Int) / 32 = (W : Int) := by omega
  have e2 : (k : Int) % 32 = (r : Int) := by omega
  have HKK : Hid (2 ^ k = pw W * 2 ^ r) := by
    show 2 ^ k = pw W * 2 ^ r
    rw [pw_two, ← Nat.pow_add]
    congr 1
    omega
  clear hW hr
  go_enter Try.func42, Try.ntmps42
  go_wp2
  go_loopw [5, 6] (fun v5 v6 wr => ∃ (j : Nat) (acc : List Nat) (ro : Option Addr) (rc : Nat), (W + j ≤ n ∨ j = 0) ∧ v6 = .int .i64 ((W + j : Nat) : Int) ∧ v5 = .slice ro j rc ∧ acc.length = j ∧ Own w.heap.size wr ro rc acc ∧ Below w.heap.size w wr ∧ val acc = x / (pw W * 2 ^ r) % pw j) (fun _ v6 _ => n - (intOf v6).toNat)
  case atStart =>
    refine ⟨0, [], some ⟨w.heap.size, 0, none⟩, 0, .inr rfl, rfl, rfl, rfl, ⟨dig_nil, World.ownsRow_made w #[] 0 (Nat.le_refl _) (by decide) rfl⟩, (Below.refl _ w).alloc (Nat.le_refl _) _, by simp [val, pw_zero, Nat.mod_one]⟩
  case round =>
    obtain ⟨j, acc, ro, rc, hj, rfl, rfl, hacc, hown, hbw, hv⟩ := hrel
    have HV : Hid _ := hv
    have HL : Hid _ := hacc
    have hwsz := hbw.size
    clear hv hacc
    by_cases hin : W + j < n
    · have c1 := rword_any ca (W + j) (ha.below hbw)
      have c2 := rword_any ca (W + j + 1) (ha.below hbw)
      rw [HX.out] at c1 c2
      simp only [Int.natCast_add, Int.cast_ofNat_Int] at c1 c2
      have d1 := (words_dig x).getD (W + j)
      have d2 := (words_dig x).getD (W + j + 1)
      have HS : Hid _ := rdown_step acc x W j r HL.out hr32 HV.out
      obtain ⟨q, hq⟩ : ∃ q, (words x).getD (W + j) 0 = q := ⟨_, rfl⟩
      obtain ⟨p, hp⟩ : ∃ p, (words x).getD (W + j + 1) 0 = p := ⟨_, rfl⟩
      rw [hq] at c1 d1 HS
      rw [hp] at c2 d2 HS
      clear hq hp ha
      have hrow := hown.row
      rw [HL.out] at hrow
      have HD : Hid _ := hown.dig
      have HB : Hid _ := hbw
      have hor := or_u64 q (p * 4294967296) (by omega) (by omega)
      rw [Nat.or_comm, or_two p q d1] at hor
      simp only [Int.natCast_mul, Int.cast_ofNat_Int] at hor
      obtain ⟨t, ht⟩ : ∃ t, p * 4294967296 + q = t := ⟨_, rfl⟩
      rw [ht] at HS
      have horT : bits BinOp.or IntKind.u64 (q : Int) ((p : Int) * 4294967296) = (t : Int) := by rw [hor, ← ht]
      have htb : t ≤ 18446744073709551615 := by omega
      have hdig : ((t : Int) / 2 ^ r % 4294967296) = ((t / 2 ^ r % 4294967296 : Nat) : Int) := by rw [Int.natCast_emod, Int.natCast_ediv, Int.natCast_pow]; rfl
      have HDG : Hid _ := hdig
      clear hown hbw hor ht hdig
      simp only [Int.natCast_add]
      go_wp2_with fail
      refine c1.mono ?_
      rintro e w' ⟨rfl, hw'⟩
      have hw' := hw'.symm
      subst hw'
      go_wp2_with fail
      refine c2.mono ?_
      rintro e w' ⟨rfl, hw'⟩
      have hw' := hw'.symm
      subst hw'
      clear c1 c2
      go_wp2_with (at_builtin; refine wpList_append_own _ rfl _ _ 22 rfl w.heap.size 41 i0 (.int .u32 0) 1 4 Try.underlying22 hi0 hz0 hz1 hz2 rfl (by decide) _ _ _ rfl (hrow.alloc _) ⟨wr.heap.size, 0, none⟩ 1 1 [.int .u32 ((t : Int) / 2 ^ r % 4294967296)] rfl rfl (by exact cell_one wr _ 41) (by intro u hu; simp at hu; subst hu; rfl) (by unfold maxLen; omega) (by omega) (by simp; omega) ?_)
      intro v' w1 hown' hgrow hiff
      have hb2 := grown_below (HB.out.alloc (by omega) _) (hrow.alloc _) hgrow (by simp; omega)
      rw [← HL.out, HDG.out] at hown'
      obtain ⟨ro', rc', e, ho⟩ := own_append HD.out (Nat.mod_lt _ (by omega)) hown'
      subst e
      have HO : Hid _ := ho
      have HB2 : Hid _ := hb2
      clear hown' hgrow hiff ho hb2 hrow
      go_wp2
      go_roundw
      case rel =>
        refine ⟨j + 1, acc ++ [t / 2 ^ r % 4294967296], ro', rc', .inl (by omega), by go_num, by rw [List.length_append, HL.out]; rfl, by rw [List.length_append, HL.out]; rfl, HO.out, HB2.out, HS.out⟩
      case measure => simp only [intOf]; omega
    · have hval : val acc = x / 2 ^ k := by
        rw [HV.out, HKK.out]
        apply Nat.mod_eq_of_lt
        have h1 : x < pw n := by have := words_lt x; rw [HX.out] at this; exact this
        have h2 : x / (pw W * 2 ^ r) ≤ x / pw W := by
          rw [← Nat.div_div_eq_div_mul]
          exact Nat.div_le_self _ _
        have h3 : x / pw W < pw j := by
          rw [Nat.div_lt_iff_lt_mul (pw_pos W), ← pw_add]
          exact Nat.lt_of_lt_of_le h1 (pw_le (by omega))
        omega
      have c3 := norm_any rc hown.rd (by rw [HL.out]; omega) hown.caps (fun e => by subst e; exact hown.none_cap)
      rw [hval, HL.out] at c3
      have HC : Hid _ := c3
      have HB : Hid _ := hbw
      clear hval c3 hown hbw ha
      go_wp2_with fail
      refine Calls.mono HC.out ?_
      rintro e w2 ⟨so, sc, rfl, ho, hb3⟩
      have HO : Hid _ := ho.lower HB.out.size
      have HB3 : Hid _ := HB.out.trans (hb3.mono HB.out.size)
      clear ho hb3
      go_wp2
      go_ret
      exact ⟨_, _, rfl, HO.out, HB3.out⟩

end Go.Proofs.Yteghiinbafbokaa
namespace Go.Proofs.Yteghiinbafbokaa
open Go.RowKit
set_option linter.unusedVariables false
set_option linter.unusedSimpArgs false

theorem one_words' : [1] = words 1 := by rw [words_pos (by omega)]; simp [words_zero]
theorem low_lt_bl {x i : Nat} (h : x % 2 ^ i = 0) (h0 : x ≠ 0) : i < bl x := by
  have h1 := low_bound h h0
  have h2 := lt_bl x
  apply Classical.byContradiction
  intro h3
  have := Nat.pow_le_pow_right (show 0 < 2 by omega) (Nat.le_of_not_lt h3)
  omega
theorem odd_le {x i k : Nat} (hi : x / 2 ^ i % 2 = 1) (hk : x % 2 ^ k = 0) : k ≤ i := by
  apply Classical.byContradiction
  intro h
  obtain ⟨d, rfl⟩ : ∃ d, k = i + 1 + d := ⟨k - (i + 1), by omega⟩
  have e : x / 2 ^ i % 2 = 0 := by
    have h1 : 2 ^ (i + 1 + d) ∣ x := Nat.dvd_of_mod_eq_zero hk
    have h2 : 2 ^ (i + 1) ∣ x := Nat.dvd_trans ⟨2 ^ d, by rw [Nat.pow_add]⟩ h1
    obtain ⟨c, rfl⟩ := h2
    rw [Nat.pow_succ, Nat.mul_assoc, Nat.mul_div_cancel_left _ (Nat.pow_pos (by omega))]
    omega
  omega
theorem bl_one {x : Nat} (h : x ≠ 0) : bl x = 1 ↔ x = 1 := by
  constructor
  · intro h1
    have h2 := lt_bl x
    rw [h1] at h2
    omega
  · intro h1
    subst h1
    decide

set_option maxHeartbeats 1000000 in
set_option maxRecDepth 1000000 in
theorem odd_any {w : World} {ao : Option Addr} {x : Nat} (ca : Nat) (ha : Rd w ao (words x)) (hx : (words x).length ≤ 30000) (h0 : x ≠ 0) :
    Calls Try.prog 98 #[.slice ao (words x).length ca] w fun e w' => ∃ n, x % 2 ^ n = 0 ∧ x / 2 ^ n % 2 = 1 ∧ Row1 w (words (x / 2 ^ n)) e w' := by
  obtain ⟨n, HN⟩ : ∃ n, Hid ((words x).length = n) := ⟨_, rfl⟩
  have hbl := bl_len hx
  rw [HN.out]
  have H0 : Hid _ := h0
  have HA : Hid _ := ha
  have HX : Hid _ := hx
  clear h0 ha hx
  go_enter Try.func98, Try.ntmps98
  go_wp2
  go_loopw [3] (fun v wr => wr = w ∧ ∃ i : Nat, v = .int .i64 (i : Int) ∧ x % 2 ^ i = 0) (fun v _ => bl x - (intOf v).toNat)
  case atStart => exact ⟨rfl, 0, rfl, by rw [Nat.pow_zero, Nat.mod_one]⟩
  case round =>
    obtain ⟨rfl, i, rfl, hi⟩ := hrel
    have hlt := low_lt_bl hi H0.out
    have HI : Hid _ := hi
    have c1 := bit_any ca i HA.out (by omega)
    rw [HN.out] at c1
    clear hi
    by_cases hb : x / 2 ^ i % 2 = 0
    · rw [hb] at c1
      have HB : Hid _ := hb
      have HC1 : Hid _ := c1
      clear hb c1
      go_wp2_with fail
      refine Calls.mono HC1.out ?_
      rintro e w' ⟨rfl, hw'⟩
      have hw' := hw'.symm
      subst hw'
      go_wp2
      go_roundw
      case rel => exact ⟨trivial, i + 1, by go_num, mod_two_succ HI.out HB.out⟩
      case measure => simp only [intOf]; omega
    · have hb1 : x / 2 ^ i % 2 = 1 := by omega
      rw [hb1] at c1
      have HB : Hid _ := hb1
      have HC1 : Hid _ := c1
      have c2 := rdown_any ca i HA.out (by have := HX.out; omega) (by omega)
      rw [HN.out] at c2
      have HC2 : Hid _ := c2
      clear hb hb1 c1 c2
      go_wp2_with fail
      refine Calls.mono HC1.out ?_
      rintro e w' ⟨rfl, hw'⟩
      have hw' := hw'.symm
      subst hw'
      go_wp2_with fail
      refine Calls.mono HC2.out ?_
      rintro e w2 ⟨ro, rc, rfl, ho, b2⟩
      have HO : Hid _ := ho
      have HB2 : Hid _ := b2
      clear ho b2
      go_wp2
      go_ret
      exact ⟨i, HI.out, HB.out, _, _, rfl, HO.out, HB2.out⟩

set_option maxHeartbeats 2000000 in
set_option maxRecDepth 1000000 in
theorem rdivisor_any {w : World} {ao bo : Option Addr} {x y : Nat} (ca cb : Nat) (ha : Rd w ao (words x)) (hb : Rd w bo (words y)) (hx : (words x).length ≤ 10000) (hy : (words y).length ≤ 10000) (cca : (words x).length ≤ ca) (ccb : (words y).length ≤ cb) (hna : ao = none → ca = 0) (hnb : bo = none → cb = 0) :
    Calls Try.prog 91 #[.slice ao (words x).length ca, .slice bo (words y).length cb] w (Row1 w (words (Nat.gcd x y))) := by
  by_cases hx0 : x = 0
  · subst hx0
    have c1 := norm_any cb hb (by omega) ccb hnb
    rw [val_words] at c1
    have e0 : (words 0).length = 0 := by rw [words_zero]; rfl
    rw [e0, Nat.gcd_zero_left]
    obtain ⟨m, HM⟩ : ∃ n, Hid ((words y).length = n) := ⟨_, rfl⟩
    rw [HM.out] at c1 ⊢
    have HC1 : Hid _ := c1
    clear ha hb c1 hx hy cca ccb hna hnb e0
    go_enter Try.func91, Try.ntmps91
    go_wp2_with fail
    refine Calls.mono HC1.out ?_
    rintro e w2 ⟨ro, rc, rfl, ho, b2⟩
    have HO : Hid _ := ho
    have HB2 : Hid _ := b2
    clear ho b2
    go_wp2
    go_ret
    exact ⟨_, _, rfl, HO.out, HB2.out⟩
  · by_cases hy0 : y = 0
    · subst hy0
      have c1 := norm_any ca ha (by omega) cca hna
      rw [val_words] at c1
      have e0 : (words 0).length = 0 := by rw [words_zero]; rfl
      rw [e0, Nat.gcd_zero_right]
      have hl0 : (words x).length ≠ 0 := fun e => hx0 (words_eq_nil.1 (List.length_eq_zero_iff.1 e))
      obtain ⟨n, HN⟩ : ∃ n, Hid ((words x).length = n) := ⟨_, rfl⟩
      rw [HN.out] at c1 hl0 ⊢
      have hl1 : ((n : Int) == 0) = false := by simp; omega
      have HC1 : Hid _ := c1
      clear ha hb c1 hx hy cca ccb hna hnb e0 hx0
      go_enter Try.func91, Try.ntmps91
      go_wp2_with fail
      refine Calls.mono HC1.out ?_
      rintro e w2 ⟨ro, rc, rfl, ho, b2⟩
      have HO : Hid _ := ho
      have HB2 : Hid _ := b2
      clear ho b2
      go_wp2
      go_ret
      exact ⟨_, _, rfl, HO.out, HB2.out⟩
    · have hl0 : (words x).length ≠ 0 := fun e => hx0 (words_eq_nil.1 (List.length_eq_zero_iff.1 e))
      have hm0 : (words y).length ≠ 0 := fun e => hy0 (words_eq_nil.1 (List.length_eq_zero_iff.1 e))
      have hblx := bl_len hx
      obtain ⟨n, HN⟩ : ∃ n, Hid ((words x).length = n) := ⟨_, rfl⟩
      obtain ⟨m, HM⟩ : ∃ n, Hid ((words y).length = n) := ⟨_, rfl⟩
      rw [HN.out] at hl0
      rw [HM.out] at hm0
      have hl1 : ((n : Int) == 0) = false := by simp; omega
      have hm1 : ((m : Int) == 0) = false := by simp; omega
      have HA : Hid _ := ha
      have HRB : Hid _ := hb
      have HX : Hid _ := hx
      have HY : Hid _ := hy
      have HX0 : Hid _ := hx0
      have HY0 : Hid _ := hy0
      rw [HN.out, HM.out]
      clear ha hb hx hy hx0 hy0 cca ccb hna hnb
      go_enter Try.func91, Try.ntmps91
      go_wp2
      go_loopw [5] (fun v wr => wr = w ∧ ∃ i : Nat, v = .int .i64 (i : Int) ∧ x % 2 ^ i = 0 ∧ y % 2 ^ i = 0) (fun v _ => bl x - (intOf v).toNat)
      case atStart => exact ⟨rfl, 0, rfl, by rw [Nat.pow_zero, Nat.mod_one], by rw [Nat.pow_zero, Nat.mod_one]⟩
      case round =>
        obtain ⟨hwr, i, rfl, hi, hj⟩ := hrel
        have hwr := hwr.symm
        subst hwr
        have hlt := low_lt_bl hi HX0.out
        have HI : Hid _ := hi
        have HJ : Hid _ := hj
        have c1 := bit_any ca i HA.out (by omega)
        have c2 := bit_any cb i HRB.out (by omega)
        rw [HN.out] at c1
        rw [HM.out] at c2
        clear hi hj
        by_cases hboth : x / 2 ^ i % 2 = 0 ∧ y / 2 ^ i % 2 = 0
        · rw [hboth.1] at c1
          rw [hboth.2] at c2
          have HB : Hid _ := hboth
          have HC1 : Hid _ := c1
          have HC2 : Hid _ := c2
          clear hboth c1 c2
          go_wp2_with fail
          refine Calls.mono HC1.out ?_
          rintro e w' ⟨rfl, hw'⟩
          have hw' := hw'.symm
          subst hw'
          go_wp2_with fail
          refine Calls.mono HC2.out ?_
          rintro e w' ⟨rfl, hw'⟩
          have hw' := hw'.symm
          subst hw'
          go_wp2
          go_roundw
          case rel => exact ⟨trivial, i + 1, by go_num, mod_two_succ HI.out HB.out.1, mod_two_succ HJ.out HB.out.2⟩
          case measure => simp only [intOf]; omega
        · have HK : Hid (x / 2 ^ i % 2 = 1 ∨ y / 2 ^ i % 2 = 1) := by
            show x / 2 ^ i % 2 = 1 ∨ y / 2 ^ i % 2 = 1
            omega
          have c3 := odd_any ca HA.out (by have := HX.out; omega) HX0.out
          rw [HN.out] at c3
          have HC3 : Hid _ := c3
          have hi5 : i ≤ 320000 := by omega
          clear c3 hlt hblx
          rcases Nat.mod_two_eq_zero_or_one (x / 2 ^ i) with hbx | hbx
          all_goals
            rw [hbx] at c1
            have HC1 : Hid _ := c1
            have HC2 : Hid _ := c2
            have hby : x / 2 ^ i % 2 = 1 ∨ y / 2 ^ i % 2 = 1 := HK.out
            have HC2' : Hid (x / 2 ^ i % 2 = 0 → y / 2 ^ i % 2 = 1) := fun h => by omega
            clear c1 c2 hboth hby
            go_wp2_with fail
            refine Calls.mono HC1.out ?_
            rintro e w' ⟨rfl, hw'⟩
            have hw' := hw'.symm
            subst hw'
            have HBX : Hid _ := hbx
            clear hbx
            first
            | (have c2 := HC2.out
               rw [HC2'.out HBX.out] at c2
               have HC2y : Hid _ := c2
               clear c2 HC2
               go_wp2_with fail
               refine Calls.mono HC2y.out ?_
               rintro e w' ⟨rfl, hw'⟩
               have hw' := hw'.symm
               subst hw')
            | skip
            go_wp2_with fail
            refine Calls.mono HC3.out ?_
            rintro e w3 ⟨i1, hi1, hi1o, ro, rc, rfl, ho3, b3⟩
            have c4 := odd_any cb (HRB.out.below b3) (by have := HY.out; omega) HY0.out
            rw [HM.out] at c4
            have HC4 : Hid _ := c4
            have HB3 : Hid _ := b3
            have HO3 : Hid _ := ho3
            have HI1 : Hid _ := hi1
            have HI1o : Hid _ := hi1o
            clear b3 ho3 hi1 hi1o c4 HC3
            go_wp2_with fail
            refine Calls.mono HC4.out ?_
            rintro e w4 ⟨j1, hj1, hj1o, so, sc, rfl, ho4, b4⟩
            have HO4 : Hid _ := ho4.lower HB3.out.size
            have HO34 : Hid _ := HO3.out.below b4
            have HB4 : Hid _ := chain2 HB3.out b4
            have HG : Hid (Nat.gcd x y = Nat.gcd (x / 2 ^ i1) (y / 2 ^ j1) * 2 ^ i) := gcd_twos HI1.out hj1 (odd_le HI1o.out HI.out) (odd_le hj1o HJ.out) (by
              rcases HK.out with h | h
              · left
                exact Nat.le_antisymm (odd_le h HI1.out) (odd_le HI1o.out HI.out)
              · right
                exact Nat.le_antisymm (odd_le h hj1) (odd_le hj1o HJ.out)) HI1o.out hj1o
            have HL3 : Hid ((words (x / 2 ^ i1)).length ≤ 10000) := Nat.le_trans (words_mono (Nat.div_le_self _ _)) HX.out
            have HL4 : Hid ((words (y / 2 ^ j1)).length ≤ 10000) := Nat.le_trans (words_mono (Nat.div_le_self _ _)) HY.out
            have HJ1o : Hid _ := hj1o
            clear hj1 hj1o ho4 b4 HC4 HB3 HO3
            go_wp2
            go_loopg [0, 1] (x / 2 ^ i1 + y / 2 ^ j1) (fun g v0 v1 wr => ∃ (a b : Nat) (po qo : Option Addr) (pc qc : Nat), g = a + b ∧ v0 = .slice po (words a).length pc ∧ v1 = .slice qo (words b).length qc ∧ Rd wr po (words a) ∧ Rd wr qo (words b) ∧ a % 2 = 1 ∧ b % 2 = 1 ∧ (words a).length ≤ 10000 ∧ (words b).length ≤ 10000 ∧ Nat.gcd x y = Nat.gcd a b * 2 ^ i ∧ Below w.heap.size w wr)
            case atStart => exact ⟨_, _, ro, so, rc, sc, rfl, rfl, rfl, HO34.out.rd, HO4.out.rd, HI1o.out, HJ1o.out, HL3.out, HL4.out, HG.out, HB4.out⟩
            case round =>
              obtain ⟨a, b, po, qo, pc, qc, hg, rfl, rfl, hpa, hqb, oa, ob, la, lb, hgcd, hbw⟩ := hrel
              have HGK : Hid _ := hg
              have HGCD : Hid _ := hgcd
              have HOA : Hid (a % 2 = 1) := oa
              have HOB : Hid (b % 2 = 1) := ob
              have HLA : Hid _ := la
              have HLB : Hid _ := lb
              have ha0 : a ≠ 0 := by intro e; rw [e] at oa; omega
              have hb0 : b ≠ 0 := by intro e; rw [e] at ob; omega
              have HA0 : Hid _ := ha0
              have HB0 : Hid _ := hb0
              have c5 := rorder_any pc qc hpa hqb (by omega) (by omega)
              have HPA : Hid _ := hpa
              have HQB : Hid _ := hqb
              have HBW : Hid _ := hbw
              obtain ⟨na, HNA⟩ : ∃ n, Hid ((words a).length = n) := ⟨_, rfl⟩
              obtain ⟨nb, HNB⟩ : ∃ n, Hid ((words b).length = n) := ⟨_, rfl⟩
              rw [HNA.out, HNB.out] at c5
              rw [HNA.out] at la
              rw [HNB.out] at lb
              rw [HNA.out, HNB.out]
              clear hg hgcd oa ob ha0 hb0 hpa hqb hbw
              by_cases hab : a = b
              · subst hab
                rw [cmp_eq] at c5
                have HC5 : Hid _ := c5
                clear c5
                go_wp2_with fail
                refine Calls.mono HC5.out ?_
                rintro e w5 ⟨rfl, b5⟩
                have c6 := rup_any pc i (HPA.out.below b5) (by have := HLA.out; omega) (by omega)
                rw [HNA.out] at c6
                have HC6 : Hid _ := c6
                have HB5 : Hid _ := chain2 HBW.out b5
                clear b5 c6 HC5
                go_wp2_with fail
                refine Calls.mono HC6.out ?_
                rintro e w6 ⟨uo, uc, rfl, ou, b6⟩
                have HOU : Hid _ := ou.lower HB5.out.size
                have HB6 : Hid _ := chain2 HB5.out b6
                clear ou b6 HC6
                go_wp2
                go_ret
                have e1 : Nat.gcd x y = a * 2 ^ i := by rw [HGCD.out, Nat.gcd_self]
                rw [e1]
                exact ⟨_, _, rfl, HOU.out, HB6.out⟩
              · have hne : cmpN a b ≠ 0 := by
                  unfold cmpN
                  split
                  · omega
                  · split <;> omega
                have hkb : cmpN a b = (if a < b then -1 else 1) := by
                  unfold cmpN
                  split
                  · rfl
                  · rw [if_pos (by omega)]
                have HKB : Hid _ := hkb
                obtain ⟨kc, hkc⟩ : ∃ k, cmpN a b = k := ⟨_, rfl⟩
                rw [hkc] at c5 hne HKB
                have hne' : (kc == 0) = false := by simpa using hne
                have HC5 : Hid _ := c5
                have HKC : Hid _ := hkc
                have HAB : Hid _ := hab
                clear c5 hab hne hkb hkc
                go_wp2_with fail
                refine Calls.mono HC5.out ?_
                rintro e w5 ⟨rfl, b5⟩
                have c6 := size_any pc (HPA.out.below b5) (by rw [HNA.out]; omega)
                have c7 := size_any qc (HQB.out.below b5) (by rw [HNB.out]; omega)
                rw [HNA.out] at c6
                rw [HNB.out] at c7
                have hbone := bl_one HA0.out
                have hbone2 := bl_one HB0.out
                clear HC5
                by_cases h1 : a = 1
                · rw [hbone.2 h1] at c6
                  have HC6 : Hid _ := c6
                  have H1 : Hid _ := h1
                  clear c6 c7 hbone hbone2 h1
                  go_wp2_with fail
                  refine Calls.mono HC6.out ?_
                  rintro e w' ⟨rfl, hw'⟩
                  have hw' := hw'.symm
                  subst hw'
                  have HG1 : Hid (Nat.gcd x y = 2 ^ i) := by
                    show Nat.gcd x y = 2 ^ i
                    rw [HGCD.out, H1.out, Nat.gcd_one_left, Nat.one_mul]
                  have l4 := Rd.lit1 w5 1 (by omega)
                  have e4 : Below w5.heap.size w5 (w5.alloc (.cells #[.int .u32 ((1 : Nat) : Int)] 41)) := (Below.refl _ _).alloc (Nat.le_refl _) _
                  rw [one_words'] at l4
                  have c7 := rup_any 1 i l4 (by rw [← one_words']; simp) (by omega)
                  rw [← one_words', Nat.one_mul] at c7
                  have HC7 : Hid _ := c7
                  have HB5 : Hid _ := chain2 (chain2 HBW.out b5) e4
                  clear b5 l4 e4 c7
                  go_wp2_with fail
                  refine Calls.mono HC7.out ?_
                  rintro e w7 ⟨uo, uc, rfl, ou, b7⟩
                  have HOU : Hid _ := ou.lower HB5.out.size
                  have HB7 : Hid _ := chain2 HB5.out b7
                  clear ou b7 HC7
                  go_wp2
                  go_ret
                  rw [HG1.out]
                  exact ⟨_, _, rfl, HOU.out, HB7.out⟩
                · have hb1 : ((bl a : Int) == 1) = false := by
                    have : bl a ≠ 1 := fun e => h1 (hbone.1 e)
                    simp
                    omega
                  obtain ⟨ba, HBA⟩ : ∃ z, Hid (bl a = z) := ⟨_, rfl⟩
                  rw [HBA.out] at c6 hb1
                  have HC6 : Hid _ := c6
                  clear c6 hbone h1
                  go_wp2_with fail
                  refine Calls.mono HC6.out ?_
                  rintro e w' ⟨rfl, hw'⟩
                  have hw' := hw'.symm
                  subst hw'
                  clear HC6
                  by_cases h2 : b = 1
                  · rw [hbone2.2 h2] at c7
                    have HC6 : Hid _ := c7
                    have H1 : Hid _ := h2
                    clear c7 hbone2 h2
                    go_wp2_with fail
                    refine Calls.mono HC6.out ?_
                    rintro e w' ⟨rfl, hw'⟩
                    have hw' := hw'.symm
                    subst hw'
                    have HG1 : Hid (Nat.gcd x y = 2 ^ i) := by
                      show Nat.gcd x y = 2 ^ i
                      rw [HGCD.out, H1.out, Nat.gcd_one_right, Nat.one_mul]
                    have l4 := Rd.lit1 w5 1 (by omega)
                    have e4 : Below w5.heap.size w5 (w5.alloc (.cells #[.int .u32 ((1 : Nat) : Int)] 41)) := (Below.refl _ _).alloc (Nat.le_refl _) _
                    rw [one_words'] at l4
                    have c7 := rup_any 1 i l4 (by rw [← one_words']; simp) (by omega)
                    rw [← one_words', Nat.one_mul] at c7
                    have HC7 : Hid _ := c7
                    have HB5 : Hid _ := chain2 (chain2 HBW.out b5) e4
                    clear b5 l4 e4 c7
                    go_wp2_with fail
                    refine Calls.mono HC7.out ?_
                    rintro e w7 ⟨uo, uc, rfl, ou, b7⟩
                    have HOU : Hid _ := ou.lower HB5.out.size
                    have HB7 : Hid _ := chain2 HB5.out b7
                    clear ou b7 HC7
                    go_wp2
                    go_ret
                    rw [HG1.out]
                    exact ⟨_, _, rfl, HOU.out, HB7.out⟩
                  · have hb2 : ((bl b : Int) == 1) = false := by
                      have : bl b ≠ 1 := fun e => h2 (hbone2.1 e)
                      simp
                      omega
                    obtain ⟨bb, HBB⟩ : ∃ z, Hid (bl b = z) := ⟨_, rfl⟩
                    rw [HBB.out] at c7 hb2
                    have HC7 : Hid _ := c7
                    have c8 := rorder_any pc qc (HPA.out.below b5) (HQB.out.below b5) (by rw [HNA.out]; omega) (by rw [HNB.out]; omega)
                    rw [HNA.out, HNB.out, HKC.out] at c8
                    clear c7 hbone2 h2
                    go_wp2_with fail
                    refine Calls.mono HC7.out ?_
                    rintro e w' ⟨rfl, hw'⟩
                    have hw' := hw'.symm
                    subst hw'
                    clear HC7
                    by_cases hlt : a < b
                    · have hk1 : kc = -1 := by rw [HKB.out, if_pos hlt]
                      rw [hk1] at c8
                      have HC6 : Hid _ := c8
                      have HLT : Hid _ := hlt
                      clear c8 hlt hk1 hne'
                      go_wp2_with fail
                      refine Calls.mono HC6.out ?_
                      rintro e w7 ⟨rfl, b7⟩
                      have c8 := rless_any qc pc ((HQB.out.below b5).below b7) ((HPA.out.below b5).below b7) (by rw [HNB.out]; omega) (Nat.le_of_lt HLT.out)
                      rw [HNB.out, HNA.out] at c8
                      have HC8 : Hid _ := c8
                      have HB7 : Hid _ := chain2 (chain2 HBW.out b5) b7
                      have HRS : Hid _ := (HPA.out.below b5).below b7
                      clear b5 b7 c8 HC6
                      go_wp2_with fail
                      refine Calls.mono HC8.out ?_
                      rintro e w8 ⟨do_, dc, rfl, od, b8⟩
                      have hd0 : b - a ≠ 0 := by have := HLT.out; omega
                      have c9 := odd_any dc od.rd (Nat.le_trans (words_mono (Nat.sub_le _ _)) (by rw [HNB.out]; omega)) hd0
                      have HC9 : Hid _ := c9
                      have HB8 : Hid _ := chain2 HB7.out b8
                      have HRS8 : Hid _ := HRS.out.below b8
                      clear od b8 c9 hd0 HC8
                      go_wp2_with fail
                      refine Calls.mono HC9.out ?_
                      rintro e w9 ⟨k9, hk9, ho9, fo, fc, rfl, of, b9⟩
                      have HOF : Hid _ := of
                      have HRS9 : Hid _ := HRS8.out.below b9
                      have HB9 : Hid _ := chain2 HB8.out b9
                      have HK9 : Hid _ := hk9
                      have HO9 : Hid _ := ho9
                      clear of b9 hk9 ho9 HC9
                      go_wp2
                      go_roundg ((b - a) / 2 ^ k9 + a)
                      case measure =>
                        have h1 : (b - a) / 2 ^ k9 ≤ b - a := Nat.div_le_self _ _
                        have h2 := HLT.out
                        have h3 := Nat.pos_of_ne_zero HA0.out
                        have h4 := HGK.out
                        omega
                      case rel =>
                        refine ⟨(b - a) / 2 ^ k9, a, fo, po, fc, pc, rfl, rfl, by rw [HNA.out], HOF.out.rd, HRS9.out, HO9.out, HOA.out, ?_, HLA.out, ?_, HB9.out⟩
                        · exact Nat.le_trans (words_mono (Nat.le_trans (Nat.div_le_self _ _) (Nat.sub_le _ _))) HLB.out
                        · rw [gcd_less (Nat.le_of_lt HLT.out) HOA.out HK9.out, Nat.gcd_comm b a]
                          exact HGCD.out
                    · have hk1 : kc = 1 := by rw [HKB.out, if_neg hlt]
                      rw [hk1] at c8
                      have HC6 : Hid _ := c8
                      have HLT : Hid (b < a) := Nat.lt_of_le_of_ne (Nat.le_of_not_lt hlt) (fun e => HAB.out e.symm)
                      clear c8 hlt hk1 hne'
                      go_wp2_with fail
                      refine Calls.mono HC6.out ?_
                      rintro e w7 ⟨rfl, b7⟩
                      have c8 := rless_any pc qc ((HPA.out.below b5).below b7) ((HQB.out.below b5).below b7) (by rw [HNA.out]; omega) (Nat.le_of_lt HLT.out)
                      rw [HNA.out, HNB.out] at c8
                      have HC8 : Hid _ := c8
                      have HB7 : Hid _ := chain2 (chain2 HBW.out b5) b7
                      have HRS : Hid _ := (HQB.out.below b5).below b7
                      clear b5 b7 c8 HC6
                      go_wp2_with fail
                      refine Calls.mono HC8.out ?_
                      rintro e w8 ⟨do_, dc, rfl, od, b8⟩
                      have hd0 : a - b ≠ 0 := by have := HLT.out; omega
                      have c9 := odd_any dc od.rd (Nat.le_trans (words_mono (Nat.sub_le _ _)) (by rw [HNA.out]; omega)) hd0
                      have HC9 : Hid _ := c9
                      have HB8 : Hid _ := chain2 HB7.out b8
                      have HRS8 : Hid _ := HRS.out.below b8
                      clear od b8 c9 hd0 HC8
                      go_wp2_with fail
                      refine Calls.mono HC9.out ?_
                      rintro e w9 ⟨k9, hk9, ho9, fo, fc, rfl, of, b9⟩
                      have HOF : Hid _ := of
                      have HRS9 : Hid _ := HRS8.out.below b9
                      have HB9 : Hid _ := chain2 HB8.out b9
                      have HK9 : Hid _ := hk9
                      have HO9 : Hid _ := ho9
                      clear of b9 hk9 ho9 HC9
                      go_wp2
                      go_roundg ((a - b) / 2 ^ k9 + b)
                      case measure =>
                        have h1 : (a - b) / 2 ^ k9 ≤ a - b := Nat.div_le_self _ _
                        have h2 := HLT.out
                        have h3 := Nat.pos_of_ne_zero HB0.out
                        have h4 := HGK.out
                        omega
                      case rel =>
                        refine ⟨(a - b) / 2 ^ k9, b, fo, qo, fc, qc, rfl, rfl, by rw [HNB.out], HOF.out.rd, HRS9.out, HO9.out, HOB.out, ?_, HLB.out, ?_, HB9.out⟩
                        · exact Nat.le_trans (words_mono (Nat.le_trans (Nat.div_le_self _ _) (Nat.sub_le _ _))) HLA.out
                        · rw [gcd_less (Nat.le_of_lt HLT.out) HOB.out HK9.out]
                          exact HGCD.out
end Go.Proofs.Yteghiinbafbokaa
namespace Go.Proofs.Yteghiinbafbokaa
open Go.RowKit
set_option linter.unusedVariables false
set_option linter.unusedSimpArgs false

theorem or_bit (d c : Nat) (hc : c ≤ 1) : (d * 2 % 4294967296 ||| c) = d * 2 % 4294967296 + c := by
  have e : d * 2 % 4294967296 = (d % 2147483648) * 2 ^ 1 := by omega
  rw [e, or_add _ _ 1 (by omega)]
theorem double_step (acc a : List Nat) (i c b : Nat) (hl : acc.length = i) (ha : Dig a) (hc : c ≤ 1) (h : val acc + pw i * c = 2 * val (a.take i) + b) :
    val (acc ++ [a.getD i 0 * 2 % 4294967296 + c]) + pw (i + 1) * (a.getD i 0 / 2147483648) = 2 * val (a.take (i + 1)) + b := by
  rw [val_snoc, hl, val_take_succ, pw_succ]
  have hd := ha.getD i
  have e1 : a.getD i 0 * 2 % 4294967296 + 4294967296 * (a.getD i 0 / 2147483648) = 2 * a.getD i 0 := by omega
  have e2 := congrArg (fun t => pw i * t) e1
  simp only [Nat.mul_add] at e2
  rw [Nat.mul_add, Nat.mul_add]
  have e3 : 4294967296 * pw i * (a.getD i 0 / 2147483648) = pw i * (4294967296 * (a.getD i 0 / 2147483648)) := by rw [Nat.mul_comm 4294967296, Nat.mul_assoc]
  have e4 : 2 * (pw i * a.getD i 0) = pw i * (2 * a.getD i 0) := Nat.mul_left_comm _ _ _
  rw [e3, e4]
  omega

set_option maxHeartbeats 2000000 in
set_option maxRecDepth 1000000 in
theorem double_any {w : World} {ao : Option Addr} {x b : Nat} (ca : Nat) (ha : Rd w ao (words x)) (hx : (words x).length ≤ 100000) (hb : b ≤ 1) :
    Calls Try.prog 102 #[.slice ao (words x).length ca, .int .u32 (b : Int)] w (Row1 w (words (2 * x + b))) := by
  obtain ⟨i0, hi0, hz0, hz1, hz2⟩ := info_parts infoU
  obtain ⟨n, HX⟩ : ∃ n, Hid ((words x).length = n) := ⟨_, rfl⟩
  rw [HX.out] at hx ⊢
  go_enter Try.func102, Try.ntmps102
  go_wp2
  go_loopw [1, 5, 6] (fun v1 v5 v6 wr => ∃ (i c : Nat) (acc : List Nat) (ro : Option Addr) (rc : Nat), i ≤ n ∧ v6 = .int .i64 (i : Int) ∧ v1 = .int .u32 (c : Int) ∧ c ≤ 1 ∧ v5 = .slice ro i rc ∧ acc.length = i ∧ Own w.heap.size wr ro rc acc ∧ Below w.heap.size w wr ∧ val acc + pw i * c = 2 * val ((words x).take i) + b) (fun _ _ v6 _ => n - (intOf v6).toNat)
  case atStart =>
    refine ⟨0, b, [], some ⟨w.heap.size, 0, none⟩, 0, Nat.zero_le _, rfl, rfl, hb, rfl, rfl, ⟨dig_nil, World.ownsRow_made w #[] 0 (Nat.le_refl _) (by decide) rfl⟩, (Below.refl _ w).alloc (Nat.le_refl _) _, by simp [val, pw_zero]⟩
  case round =>
    obtain ⟨i, c, acc, ro, rc, hi, rfl, rfl, hc, rfl, hacc, hown, hbw, hv⟩ := hrel
    have HV : Hid _ := hv
    have HL : Hid _ := hacc
    have hwsz := hbw.size
    clear hv hacc
    by_cases hin : i < n
    · obtain ⟨b1, o1, rfl, hlt1, hc1⟩ := (ha.below hbw).pos (by intro e; have := HX.out; rw [e] at this; simp at this; omega)
      have k0 := hc1 i (by rw [HX.out]; omega)
      have d1 := (words_dig x).getD i
      have HS : Hid _ := double_step acc (words x) i c b HL.out (words_dig x) hc HV.out
      obtain ⟨d, hd⟩ : ∃ d, (words x).getD i 0 = d := ⟨_, rfl⟩
      rw [hd] at k0 d1 HS
      clear hd hc1
      have hrow := hown.row
      rw [HL.out] at hrow
      have HD : Hid _ := hown.dig
      have HB : Hid _ := hbw
      have HR : Hid _ := ha
      have hor : bits BinOp.or IntKind.u32 ((d : Int) * 2 % 4294967296) (c : Int) = ((d * 2 % 4294967296 + c : Nat) : Int) := by
        have e : (d : Int) * 2 % 4294967296 = ((d * 2 % 4294967296 : Nat) : Int) := by rw [Int.natCast_emod, Int.natCast_mul]; rfl
        rw [e, or_u32 _ _ (Nat.mod_lt _ (by omega)) (by omega), or_bit d c hc]
      obtain ⟨t, ht⟩ : ∃ t, d * 2 % 4294967296 + c = t := ⟨_, rfl⟩
      have htb : t < 4294967296 := by omega
      rw [ht] at hor HS
      clear hown hbw ha ht
      go_wp2_with (at_builtin; refine wpList_append_own _ rfl _ _ 22 rfl w.heap.size 41 i0 (.int .u32 0) 1 4 Try.underlying22 hi0 hz0 hz1 hz2 rfl (by decide) _ _ _ rfl (hrow.alloc _) ⟨wr.heap.size, 0, none⟩ 1 1 [.int .u32 (t : Int)] rfl rfl (by exact cell_one wr _ 41) (by intro u hu; simp at hu; subst hu; rfl) (by unfold maxLen; omega) (by omega) (by simp; omega) ?_)
      intro v' w1 hown' hgrow hiff
      have hb2 := grown_below (HB.out.alloc (by omega) _) (hrow.alloc _) hgrow (by simp; omega)
      rw [← HL.out] at hown'
      obtain ⟨ro', rc', e, ho⟩ := own_append HD.out htb hown'
      have hlen : (acc ++ [t]).length = i + 1 := by rw [List.length_append, HL.out]; rfl
      rw [hlen] at e
      subst e
      obtain ⟨b2, o2, he2, _, hc2⟩ := (HR.out.below hb2).pos (by intro e; have := HX.out; rw [e] at this; simp at this; omega)
      cases he2
      have k3 : w1.cell? ⟨b1, o1 + i, none⟩ = some (.int .u32 (d : Int)) := by
        have h1 := hb2.cell (p := ⟨b1, o1 + i, none⟩) (by
          have := HR.out.pos (by intro e; have := HX.out; rw [e] at this; simp at this; omega)
          obtain ⟨b3, o3, e3, h3, _⟩ := this
          cases e3
          exact h3)
        have h2 := HB.out.cell (p := ⟨b1, o1 + i, none⟩) (by
          have := HR.out.pos (by intro e; have := HX.out; rw [e] at this; simp at this; omega)
          obtain ⟨b3, o3, e3, h3, _⟩ := this
          cases e3
          exact h3)
        rw [h1, ← h2]
        exact k0
      have HO : Hid _ := ho
      have HB2 : Hid _ := hb2
      clear hown' hgrow hiff ho hb2 hrow hc2 hlen k0
      go_wp2
      go_roundw
      case rel =>
        refine ⟨i + 1, d / 2147483648, acc ++ [t], ro', rc', by omega, by go_num, rfl, by omega, rfl, by rw [List.length_append, HL.out]; rfl, HO.out, HB2.out, HS.out⟩
      case measure => simp only [intOf]; omega
    · have e : i = n := by omega
      subst e
      have hval : val (acc ++ [c]) = 2 * x + b := by
        have h1 := HV.out
        rw [List.take_of_length_le (by rw [HX.out]; omega), val_words] at h1
        rw [val_snoc, HL.out]
        exact h1
      have HVV : Hid _ := hval
      have hrow := hown.row
      rw [HL.out] at hrow
      have HD : Hid _ := hown.dig
      have HB : Hid _ := hbw
      clear hval hown hbw ha
      go_wp2_with (at_builtin; refine wpList_append_own _ rfl _ _ 22 rfl w.heap.size 41 i0 (.int .u32 0) 1 4 Try.underlying22 hi0 hz0 hz1 hz2 rfl (by decide) _ _ _ rfl (hrow.alloc _) ⟨wr.heap.size, 0, none⟩ 1 1 [.int .u32 (c : Int)] rfl rfl (by exact cell_one wr _ 41) (by intro u hu; simp at hu; subst hu; rfl) (by unfold maxLen; omega) (by omega) (by simp; omega) ?_)
      intro v' w1 hown' hgrow hiff
      have hb2 := grown_below (HB.out.alloc (by omega) _) (hrow.alloc _) hgrow (by simp; omega)
      rw [← HL.out] at hown'
      obtain ⟨ro', rc', e, ho⟩ := own_append HD.out (by omega) hown'
      have hlen : (acc ++ [c]).length = i + 1 := by rw [List.length_append, HL.out]; rfl
      rw [hlen] at e
      subst e
      have c3 := norm_any rc' ho.rd (by rw [hlen]; omega) ho.caps (fun e => by subst e; exact ho.none_cap)
      rw [HVV.out, hlen] at c3
      have HC : Hid _ := c3
      have HB2 : Hid _ := hb2
      clear hown' hgrow hiff ho hb2 hrow c3 hlen
      go_wp2_with fail
      refine Calls.mono HC.out ?_
      rintro e w2 ⟨so, sc, rfl, ho, hb3⟩
      have HO : Hid _ := ho.lower HB2.out.size
      have HB3 : Hid _ := HB2.out.trans (hb3.mono HB2.out.size)
      clear ho hb3
      go_wp2
      go_ret
      exact ⟨_, _, rfl, HO.out, HB3.out⟩
end Go.Proofs.Yteghiinbafbokaa
