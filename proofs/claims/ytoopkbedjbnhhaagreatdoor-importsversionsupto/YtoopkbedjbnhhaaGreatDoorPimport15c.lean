/- St StOp ExH NumV NumW NumX BiA BiB NumD NumY NumS NumZ NumH NumI NumJ NumR BiC BiD NumM NumN BiS ExI ExJ ExK ExL ExM ExN RfA NumT BiE NumU BiF NumP BiG NumB BiH NumC BiJ NumG BiK RfB RfC RfD RfE RfF SmA SmB ExO ExP SmC ArgN -/
import Derived.Test.YtoopkbedjbnhhaaGreatDoorPimport15b
import Derived.OrdersHeld
import Derived.Deep.RegionHeld3
import Derived.Laws.IdiomCopy
import Derived.ChangeKeysEq
import Derived.LoopN
import Derived.Deep.AppendLies
import Derived.Test.YtoopkbedjbnhhaaGreatDoorNatN
import Derived.Test.YtoopkbedjbnhhaaGreatDoorPimport15a
import Derived.Test.YtoopkbedjbnhhaaGreatDoorNatM
import Derived.Test.YtoopkbedjbnhhaaGreatDoorNatK
import Derived.Test.YtoopkbedjbnhhaaGreatDoorNatY
import Derived.Test.YtoopkbedjbnhhaaGreatDoorTxtD
import Derived.Test.YtoopkbedjbnhhaaGreatDoorNatH
import Derived.Test.YtoopkbedjbnhhaaGreatDoorNatL
import Derived.Test.YtoopkbedjbnhhaaGreatDoorArith
import Derived.Test.YtoopkbedjbnhhaaGreatDoorBits
import Derived.Test.YtoopkbedjbnhhaaGreatDoorNatA
import Derived.Test.YtoopkbedjbnhhaaGreatDoorArgs
import Derived.WalkKit
import Derived.ProofKit
import Derived.OpenShut
import Derived.ChangeOld
import Derived.Lib.SmallJoins
import Derived.Deep.Strs
set_option linter.unusedVariables false
set_option linter.unusedSimpArgs false
set_option maxHeartbeats 1000000
namespace Go.Proofs.YtoopkbedjbnhhaaGreatDoor
open Go.RowKit
abbrev pA (b o : Nat) : Value := .pointer (some ⟨b, o, none⟩)
abbrev iV (z : Int) : Value := .int .i64 z
abbrev bV (b : Bool) : Value := .bool b
abbrev aO (g : Nat) : Option Addr := some ⟨g, 0, none⟩
theorem ns {α : Type} {l : List α} : List.Sublist [] l := List.nil_sublist l
theorem cN {α : Type} {l m : List α} {a : α} (h : l.Sublist m) : l.Sublist (a :: m) := .cons _ h
theorem cC {α : Type} {l m : List α} {a : α} (h : l.Sublist m) : (a :: l).Sublist (a :: m) := .cons_cons _ h

def vp : List (Nat × Value) → Nat → Option Value
  | [], _ => none
  | (k, v) :: t, n => cond (Nat.beq k n) (some v) (vp t n)
def ev (l : List (Nat × Value)) : Operand → Option Value
  | .tmp k => vp l k
  | .const v => some v
  | .global g => some (.pointer (some ⟨g, 0, none⟩))
  | .func f => some (.func (.func f) #[] #[])
def evs (l : List (Nat × Value)) : List Operand → Option (List Value)
  | [] => some []
  | x :: xs => match ev l x, evs l xs with | some v, some vs => some (v :: vs) | _, _ => none
def evp (l : List (Nat × Value)) : List (Nat × Operand) → Option (List (Nat × Value))
  | [] => some []
  | (i, x) :: xs => match ev l x, evp l xs with | some v, some vs => some ((i, v) :: vs) | _, _ => none
structure Sl (a : Act) (n : Nat) (l : List (Nat × Value)) : Prop where
  size : a.tmps.size = n
  holds : ∀ k v, vp l k = some v → a.tmps[k]? = some v
  none_ : a.defers = []
section
variable {a : Act} {n : Nat} {l : List (Nat × Value)}
theorem Sl.ev (h : Sl a n l) {x : Operand} {v : Value} (hx : ev l x = some v) : a.eval x = v := by
  cases x with
  | tmp k =>
    have := h.holds k v hx
    simp [Act.eval, Array.getD_eq_getD_getElem?, this]
  | const u => simpa [YtoopkbedjbnhhaaGreatDoor.ev, Act.eval] using hx
  | global g => simpa [YtoopkbedjbnhhaaGreatDoor.ev, Act.eval] using hx
  | func f => simpa [YtoopkbedjbnhhaaGreatDoor.ev, Act.eval] using hx
theorem Sl.evs (h : Sl a n l) : ∀ {xs : List Operand} {vs : List Value}, evs l xs = some vs → xs.map a.eval = vs := by
  intro xs
  induction xs with
  | nil => intro vs hx; simp [YtoopkbedjbnhhaaGreatDoor.evs] at hx; simp [hx]
  | cons x xs ih =>
    intro vs hx
    unfold YtoopkbedjbnhhaaGreatDoor.evs at hx
    split at hx
    · rename_i v us h1 h2
      cases hx
      simp [h.ev h1, ih h2]
    · cases hx
theorem Sl.evp (h : Sl a n l) : ∀ {xs : List (Nat × Operand)} {vs : List (Nat × Value)}, evp l xs = some vs → xs.map (fun p => (p.1, a.eval p.2)) = vs := by
  intro xs
  induction xs with
  | nil => intro vs hx; simp [YtoopkbedjbnhhaaGreatDoor.evp] at hx; simp [hx]
  | cons x xs ih =>
    intro vs hx
    obtain ⟨i, x⟩ := x
    unfold YtoopkbedjbnhhaaGreatDoor.evp at hx
    split at hx
    · rename_i v us h1 h2
      cases hx
      simp [h.ev h1, ih h2]
    · cases hx
theorem Sl.put (h : Sl a n l) {d : Nat} (hd : Nat.blt d n = true) (v : Value) : Sl (a.put (some d) v) n ((d, v) :: l) := by
  refine ⟨by simp [Act.put, h.size], fun k u hk => ?_, by simp [Act.put, h.none_]⟩
  have hd' : d < a.tmps.size := by rw [h.size]; exact Nat.le_of_ble_eq_true hd
  unfold vp at hk
  cases hb : Nat.beq d k with
  | true =>
    rw [hb] at hk
    have : d = k := Nat.eq_of_beq_eq_true hb
    subst this
    simp only [cond_true, Option.some.injEq] at hk
    subst hk
    simp [Act.put, Array.getElem?_setIfInBounds, hd']
  | false =>
    rw [hb] at hk
    have hne : d ≠ k := fun e => by rw [e, Nat.beq_refl] at hb; cases hb
    simp only [cond_false] at hk
    simp [Act.put, Array.getElem?_setIfInBounds, hne, h.holds k u hk]
theorem Sl.enter {args : List Value} {m : Nat} (hl : args.length ≤ m) : Sl { tmps := args.toArray ++ Array.replicate (m - args.toArray.size) undef, defers := [] } m (args.zipIdx.map fun p => (p.2, p.1)) := by
  refine ⟨by simp; omega, fun k v hk => ?_, rfl⟩
  have key : ∀ (xs : List Value) (o : Nat), vp ((xs.zipIdx o).map fun p => (p.2, p.1)) k = some v → o ≤ k ∧ xs[k - o]? = some v := by
    intro xs
    induction xs with
    | nil => intro o h; simp [vp] at h
    | cons x xs ih =>
      intro o h
      simp only [List.zipIdx_cons, List.map_cons, vp] at h
      cases hb : Nat.beq o k with
      | true =>
        rw [hb] at h
        have : o = k := Nat.eq_of_beq_eq_true hb
        subst this
        simp only [cond_true, Option.some.injEq] at h
        simp [h]
      | false =>
        rw [hb] at h
        have hne : o ≠ k := fun e => by rw [e, Nat.beq_refl] at hb; cases hb
        simp only [cond_false] at h
        obtain ⟨h1, h2⟩ := ih _ h
        refine ⟨by omega, ?_⟩
        have : k - o = (k - (o + 1)) + 1 := by omega
        rw [this, List.getElem?_cons_succ]
        exact h2
  have h := (key args 0 hk).2
  simp only [Nat.sub_zero] at h
  have hlt : k < args.length := (List.getElem?_eq_some_iff.1 h).1
  rw [Array.getElem?_append_left (by simpa using hlt)]
  simpa using h
def AllIn (l : List (Nat × Value)) : List (Nat × Value) → Prop
  | [] => True
  | p :: t => vp l p.1 = some p.2 ∧ AllIn l t
theorem Sl.keep (h : Sl a n l) (l' : List (Nat × Value)) (hs : AllIn l l') : Sl a n l' := by
  refine ⟨h.size, ?_, h.none_⟩
  induction l' with
  | nil => intro k v hk; simp [vp] at hk
  | cons p t ih =>
    intro k v hk
    obtain ⟨d, u⟩ := p
    unfold vp at hk
    cases hb : Nat.beq d k with
    | true =>
      rw [hb] at hk
      have : d = k := Nat.eq_of_beq_eq_true hb
      subst this
      simp only [cond_true, Option.some.injEq] at hk
      subst hk
      exact h.holds _ _ hs.1
    | false =>
      rw [hb] at hk
      exact ih hs.2 k v hk
end

def Does (P : Program) (l : List (Nat × Value)) (o : Oper) (w : World) (v : Value) (w' : World) : Prop :=
  ∀ ρ : Operand → Value, (∀ x u, ev l x = some u → ρ x = u) → (execOp ρ o).run P w = .ok (.value v) w'
def Sets (P : Program) (l : List (Nat × Value)) (o : Oper) (w : World) (w' : World) : Prop :=
  ∀ ρ : Operand → Value, (∀ x u, ev l x = some u → ρ x = u) → (execOp ρ o).run P w = .ok .skip w'
def Enters (P : Program) (l : List (Nat × Value)) (o : Oper) (w : World) (f : FuncId) (vs : List Value) : Prop :=
  ∀ ρ : Operand → Value, (∀ x u, ev l x = some u → ρ x = u) → (execOp ρ o).run P w = .ok (.enter f vs.toArray) w
def jd (l : List (Nat × Value)) (ops : List Oper) (o : Oper) : Bool :=
  match o.guard with
  | none => true
  | some (j, b) => match ops[j]? with
    | some oj => match oj.dst with
      | some d => match vp l d with
        | some (.bool b') => b' == b
        | _ => false
      | none => false
    | none => false
def qja (l : List (Nat × Value)) (ops : List Oper) (o : Oper) : Bool :=
  match o.guard with
  | none => false
  | some (j, b) => match ops[j]? with
    | some oj => match oj.dst with
      | some d => match vp l d with
        | some (.bool b') => b' != b
        | _ => false
      | none => false
    | none => false
section
variable {P : Program} {ops : List Oper} {Q : Exit → Act → World → Prop} {a : Act} {w w' : World} {n : Nat} {l : List (Nat × Value)} {o : Oper} {v : Value} {rest : List Oper}
theorem Sl.wanted (h : Sl a n l) (hp : jd l ops o = true) : Region.wanted o (yielded ops.toArray a.tmps) = true := by
  unfold Region.wanted
  unfold jd at hp
  split at hp
  · rename_i hg; rw [hg]
  · rename_i j b hg
    rw [hg]
    split at hp
    · rename_i oj hj
      split at hp
      · rename_i d hd
        split at hp
        · rename_i b' hb
          have := h.holds d _ hb
          simp only [beq_iff_eq] at hp
          simp [yielded, hj, hd, this, hp]
        · cases hp
      · cases hp
    · cases hp
theorem Sl.unwanted (h : Sl a n l) (hp : qja l ops o = true) : Region.wanted o (yielded ops.toArray a.tmps) = false := by
  unfold Region.wanted
  unfold qja at hp
  split at hp
  · cases hp
  · rename_i j b hg
    rw [hg]
    split at hp
    · rename_i oj hj
      split at hp
      · rename_i d hd
        split at hp
        · rename_i b' hb
          have := h.holds d _ hb
          simp only [bne_iff_ne, ne_eq] at hp
          simp [yielded, hj, hd, this, hp]
        · cases hp
      · cases hp
    · cases hp
theorem qb (hA : Sl a n l) (hg : jd l ops o = true) {d : Nat} (hdst : o.dst = some d) (hd : Nat.blt d n = true) (he : Does P l o w v w')
    (hk : ∀ a', Sl a' n ((d, v) :: l) → wpList P ops.toArray Q rest a' w') : wpList P ops.toArray Q (o :: rest) a w := by
  unfold wpList
  rw [if_pos (hA.wanted hg)]
  refine .inl ?_
  unfold Oper.wp
  rw [he a.eval (fun x u hx => hA.ev hx), Oper.upon_value, hdst]
  exact hk _ (hA.put hd v)
theorem qm (hA : Sl a n l) (hg : qja l ops o = true) {d : Nat} (hdst : o.dst = some d) (hd : Nat.blt d n = true)
    (hk : ∀ a', Sl a' n ((d, undef) :: l) → wpList P ops.toArray Q rest a' w) : wpList P ops.toArray Q (o :: rest) a w := by
  unfold wpList
  rw [hA.unwanted hg, if_neg (by simp), hdst]
  exact hk _ (hA.put hd undef)
theorem qz (hA : Sl a n l) (hg : jd l ops o = true) {d : Nat} (hdst : o.dst = some d) (hd : Nat.blt d n = true) {f : FuncId} {vs : List Value} (he : Enters P l o w f vs)
    {R : Ending → World → Prop} (hc : Calls P f vs.toArray w R)
    (hk : ∀ e w', R e w' → ∃ v, e = .returned v ∧ ∀ a', Sl a' n ((d, v) :: l) → wpList P ops.toArray Q rest a' w') : wpList P ops.toArray Q (o :: rest) a w := by
  unfold wpList
  rw [if_pos (hA.wanted hg)]
  refine .inl ?_
  unfold Oper.wp
  rw [he a.eval (fun x u hx => hA.ev hx), Oper.upon_enter]
  refine hc.mono ?_
  intro e w' hR
  obtain ⟨v, rfl, h⟩ := hk e w' hR
  simp only [hdst]
  exact h _ (hA.put hd v)
theorem qa (hk : Q .normal a w) : wpList P ops.toArray Q [] a w := hk
variable {S : World → Prop} {md : Region.Mode} {fuel : Nat} {listed : Array Bool}
theorem qjb (hA : Sl a n l) (i : Nat) (hi : ops[i]? = some o) (hg : jd l ops o = true) {d : Nat} (hdst : o.dst = some d) (hd : Nat.blt d n = true) (hs : Region.noSelect ops.toArray = true) (hf : Region.free md ops.toArray listed i = true)
    (hr : (Region.ready md ops.toArray listed).contains i = true) (hQ : ∀ c a w, Q (.panic c) (a.put o.dst v) w → Q (.panic c) a w) (hS : S w) (he : ∀ w, S w → Does P l o w v w)
    (hk : ∀ a', Sl a' n ((d, v) :: l) → wpAnyH P md ops.toArray Q S fuel (listed.setIfInBounds i true) a' w) : wpAnyH P md ops.toArray Q S (fuel + 1) listed a w := by
  refine wpAnyH_take (i := i) (oi := o) (v := v) (by simpa using hi) hs hf hr hQ (Or.inl ⟨hA.wanted hg, fun w hw => he w hw a.eval (fun x u hx => hA.ev hx)⟩) hS ?_
  rw [hdst]
  exact hk _ (hA.put hd v)
theorem zr (hA : Sl a n l) (i : Nat) (hi : ops[i]? = some o) (hg : jd l ops o = true) {d : Nat} (hdst : o.dst = some d) (hd : Nat.blt d n = true) (hP : ∀ c a d v w, Q (.panic c) (Act.put a d v) w → Q (.panic c) a w) (hS : S w) (he : ∀ w, S w → Does P l o w v w)
    (hk : ∀ a', Sl a' n ((d, v) :: l) → wpAnyH P md ops.toArray Q S fuel (listed.setIfInBounds i true) a' w) (hs : Region.noSelect ops.toArray = true := by kernel_rfl) (hf : Region.free md ops.toArray listed i = true := by kernel_rfl) (hr : (Region.ready md ops.toArray listed).contains i = true := by kernel_rfl) : wpAnyH P md ops.toArray Q S (fuel + 1) listed a w :=
  qjb hA i hi hg hdst hd hs hf hr (fun c a w h => hP c a _ _ w h) hS he hk
theorem vb (hA : Sl a n l) (i : Nat) (hi : ops[i]? = some o) (hg : jd l ops o = true) {d : Nat} (hdst : o.dst = some d) (hd : Nat.blt d n = true)
    {f : FuncId} {vs : List Value} (he : Enters P l o w f vs) {R : Ending → World → Prop} (hc : Calls P f vs.toArray w R)
    (hk : ∀ e w', R e w' → ∃ v, e = .returned v ∧ S w' ∧ ∀ a', Sl a' n ((d, v) :: l) → wpAnyH P md ops.toArray Q S fuel (listed.setIfInBounds i true) a' w') : wpOp P ops.toArray Q i (fun a' w' => S w' ∧ wpAnyH P md ops.toArray Q S fuel (listed.setIfInBounds i true) a' w') a w := by
  unfold wpOp
  simp only [List.getElem?_toArray, hi]
  rw [if_pos (hA.wanted hg)]
  refine .inl ?_
  unfold Oper.wp
  rw [he a.eval (fun x u hx => hA.ev hx), Oper.upon_enter]
  refine hc.mono ?_
  intro e w' hR
  obtain ⟨v, rfl, h1, h2⟩ := hk e w' hR
  simp only [hdst]
  exact ⟨h1, h2 _ (hA.put hd v)⟩
theorem xn {i : Nat} (hr : Region.ready md ops.toArray listed = [i]) (h : wpOp P ops.toArray Q i (fun a' w' => S w' ∧ wpAnyH P md ops.toArray Q S fuel (listed.setIfInBounds i true) a' w') a w) : wpAnyH P md ops.toArray Q S (fuel + 1) listed a w :=
  wpAnyH_all hr (by simp) (fun j hj => by rw [List.mem_singleton] at hj; subst hj; exact h)
def AllOps (W : Nat → Prop) : List Nat → Prop
  | [] => True
  | i :: t => W i ∧ AllOps W t
theorem AllOps.get {W : Nat → Prop} : ∀ {rs : List Nat}, AllOps W rs → ∀ i ∈ rs, W i
  | _ :: _, h, i, hi => by
    rcases List.mem_cons.1 hi with rfl | hi
    · exact h.1
    · exact AllOps.get h.2 i hi
theorem xp (hr : Region.ready md ops.toArray listed = []) (hk : Q .normal a w) : wpAnyH P md ops.toArray Q S fuel listed a w := wpAnyH_done hr hk fuel
end
def qjc : Value → Bool
  | .int .u32 _ => false
  | _ => true
theorem qof {v : Value} (h : qjc v = true) : ∀ n, v ≠ .int .u32 n := by
  intro n e
  subst e
  cases h
def Apart (x y : Option Addr) : Prop := ∀ a b, x = some a → y = some b → a.block ≠ b.block
def Off (x : Option Addr) (g : Nat) : Prop := ∀ a, x = some a → a.block ≠ g
structure St (w0 w : World) (L : List (Nat × List Value)) (R : List (Option Addr × List Nat)) (O : List (Option Addr × Nat × List Nat)) : Prop where
  bel : Below w0.heap.size w0 w
  own : ∀ p ∈ L, w0.heap.size ≤ p.1 ∧ Blk w p.1 p.2
  dis : L.Pairwise (fun p q => p.1 ≠ q.1)
  rds : ∀ r ∈ R, Rd w r.1 r.2
  rows : ∀ o ∈ O, Own w0.heap.size w o.1 o.2.1 o.2.2
  sepO : O.Pairwise (fun p q => Apart p.1 q.1)
  sepL : ∀ o ∈ O, ∀ p ∈ L, Off o.1 p.1
  sepR : ∀ o ∈ O, ∀ r ∈ R, r.2 ≠ [] → Apart o.1 r.1
section
variable {w0 w w' : World} {L : List (Nat × List Value)} {R : List (Option Addr × List Nat)} {O : List (Option Addr × Nat × List Nat)}
theorem St.start (w : World) : St w w [] [] [] := ⟨Below.refl _ _, by simp, .nil, by simp, by simp, .nil, by simp, by simp⟩
theorem St.addR (h : St w0 w L R []) {so : Option Addr} {l : List Nat} (hr : Rd w so l) : St w0 w L ((so, l) :: R) [] :=
  ⟨h.bel, h.own, h.dis, fun r hm => by rcases List.mem_cons.1 hm with rfl | hm; exact hr; exact h.rds r hm, by simp, .nil, by simp, by simp⟩
theorem St.addRO (h : St w0 w L R O) {so : Option Addr} {l : List Nat} (hr : Rd w so l) (hs : ∀ o ∈ O, Apart o.1 so) : St w0 w L ((so, l) :: R) O :=
  ⟨h.bel, h.own, h.dis, fun r hm => by rcases List.mem_cons.1 hm with rfl | hm; exact hr; exact h.rds r hm, h.rows, h.sepO, h.sepL, fun o ho r hm hne => by rcases List.mem_cons.1 hm with rfl | hm; exact hs o ho; exact h.sepR o ho r hm hne⟩
theorem St.rd (h : St w0 w L R O) (k : Nat) {so : Option Addr} {l : List Nat} (hk : R[k]? = some (so, l)) : Rd w so l := h.rds _ (List.mem_of_getElem? hk)
theorem St.row (h : St w0 w L R O) (k : Nat) {so : Option Addr} {c : Nat} {l : List Nat} (hk : O[k]? = some (so, c, l)) : Own w0.heap.size w so c l := h.rows _ (List.mem_of_getElem? hk)
theorem St.call (h : St w0 w L R O) (hb : Below w.heap.size w w') : St w0 w' L R O :=
  ⟨chain2 h.bel hb, fun p hp => ⟨(h.own p hp).1, (h.own p hp).2.below hb⟩, h.dis, fun r hr => (h.rds r hr).below hb, fun o ho => (h.rows o ho).below hb, h.sepO, h.sepL, h.sepR⟩
theorem St.drew (h : St w0 w L R O) : St w0 w.drew L R O := ⟨h.bel.drew, fun p hp => ⟨(h.own p hp).1, (h.own p hp).2.drew⟩, h.dis, fun r hr => (h.rds r hr).drew, fun o ho => (h.rows o ho).drew, h.sepO, h.sepL, h.sepR⟩
theorem St.lt (h : St w0 w L R O) : ∀ p ∈ L, p.1 < w.heap.size := fun p hp => (h.own p hp).2.lt
theorem St.new (h : St w0 w L R O) (vs : List Value) (t : TypeId) (hno : vs.all qjc = true) : St w0 (w.alloc (.cells vs.toArray t)) ((w.heap.size, vs) :: L) R O := by
  have hb : Below w.heap.size w (w.alloc (.cells vs.toArray t)) := (Below.refl _ _).alloc (Nat.le_refl _) _
  have h' := h.call hb
  refine ⟨h'.bel, fun p hp => ?_, List.pairwise_cons.2 ⟨fun q hq => Nat.ne_of_gt (h.lt q hq), h.dis⟩, h'.rds, h'.rows, h.sepO, fun o ho p hp => ?_, h.sepR⟩
  · rcases List.mem_cons.1 hp with rfl | hp
    · exact ⟨h.bel.size, Blk.new w vs t (fun v hv => qof (List.all_eq_true.1 hno v hv))⟩
    · exact h'.own p hp
  · rcases List.mem_cons.1 hp with rfl | hp
    · exact fun a ha => Nat.ne_of_lt ((h.rows o ho).lt a ha).2
    · exact h.sepL o ho p hp
theorem St.newU (h : St w0 w L R O) (l : List Nat) (t : TypeId) (hd : Dig l) : St w0 (w.alloc (.cells (U l).toArray t)) L ((some ⟨w.heap.size, 0, none⟩, l) :: R) O := by
  have hb : Below w.heap.size w (w.alloc (.cells (U l).toArray t)) := (Below.refl _ _).alloc (Nat.le_refl _) _
  refine (h.call hb).addRO ⟨hd, fun _ => ⟨w.heap.size, 0, rfl, by simp, fun j hj => ?_⟩⟩ (fun o ho a b ha hb => ?_)
  · rw [World.cell?_alloc_at _ _ _ _ rfl]
    have := U_get l j hj
    simpa using this
  · cases hb
    exact Nat.ne_of_lt ((h.rows o ho).lt a ha).2
theorem St.blk (h : St w0 w L R O) (k : Nat) {g : Nat} {vs : List Value} (hk : L[k]? = some (g, vs)) : Blk w g vs := (h.own _ (List.mem_of_getElem? hk)).2
theorem St.subL (h : St w0 w L R O) (L' : List (Nat × List Value)) (hs : L'.Sublist L) : St w0 w L' R O := ⟨h.bel, fun p hp => h.own p (hs.subset hp), h.dis.sublist hs, h.rds, h.rows, h.sepO, fun o ho p hp => h.sepL o ho p (hs.subset hp), h.sepR⟩
theorem St.subO (h : St w0 w L R O) (O' : List (Option Addr × Nat × List Nat)) (hs : O'.Sublist O) : St w0 w L R O' := ⟨h.bel, h.own, h.dis, h.rds, fun o ho => h.rows o (hs.subset ho), h.sepO.sublist hs, fun o ho => h.sepL o (hs.subset ho), fun o ho => h.sepR o (hs.subset ho)⟩
theorem St.partD {L' : List (Nat × List Value)} {R' : List (Option Addr × List Nat)} {O' : List (Option Addr × Nat × List Nat)} (h : St w0 w L R O) (hL : L'.Sublist L) (n : Nat) (hR : R.drop n = R') (hO : O'.Sublist O) : St w0 w L' R' O' := by
  subst hR
  refine St.subO (St.subL ⟨h.bel, h.own, h.dis, fun r hr => h.rds r (List.mem_of_mem_drop hr), h.rows, h.sepO, h.sepL, fun o ho r hr => h.sepR o ho r (List.mem_of_mem_drop hr)⟩ L' hL) O' hO
theorem St.cell (h : St w0 w L R O) (k : Nat) {g : Nat} {vs : List Value} (hk : L[k]? = some (g, vs)) (i : Nat) {v : Value} (hi : vs[i]? = some v) : w.cell? ⟨g, i, none⟩ = some v :=
  (h.own _ (List.mem_of_getElem? hk)).2.cell i v hi
theorem qra {L : List (Nat × List Value)} (h : L.Pairwise (fun p q => p.1 ≠ q.1)) {k g : Nat} {vs us : List Value} (hk : L[k]? = some (g, vs)) : (L.set k (g, us)).Pairwise (fun p q => p.1 ≠ q.1) := by
  have e : (L.set k (g, us)).map Prod.fst = L.map Prod.fst := by
    rw [List.map_set]
    apply List.ext_getElem?
    intro i
    by_cases hi : k = i
    · subst hi
      have hlt : k < (L.map Prod.fst).length := by simpa using (List.getElem?_eq_some_iff.1 hk).1
      rw [List.getElem?_set_self hlt]
      simp [hk]
    · rw [List.getElem?_set_ne hi]
  have h1 : (L.map Prod.fst).Pairwise (· ≠ ·) := List.pairwise_map.2 h
  rw [← e] at h1
  exact List.pairwise_map.1 h1
theorem qug {L : List (Nat × List Value)} (h : L.Pairwise (fun p q => p.1 ≠ q.1)) {k g : Nat} {vs us : List Value} (hk : L[k]? = some (g, vs)) {p : Nat × List Value} (hp : p ∈ L.set k (g, us)) : p = (g, us) ∨ (p ∈ L ∧ g ≠ p.1) := by
  obtain ⟨i, hi⟩ := List.mem_iff_getElem?.1 hp
  by_cases e : k = i
  · subst e
    have hlt : k < L.length := (List.getElem?_eq_some_iff.1 hk).1
    rw [List.getElem?_set_self hlt] at hi
    exact .inl (Option.some.inj hi).symm
  · rw [List.getElem?_set_ne e] at hi
    refine .inr ⟨List.mem_of_getElem? hi, ?_⟩
    have h1 := List.pairwise_iff_getElem.1 h
    obtain ⟨hk1, hk2⟩ := List.getElem?_eq_some_iff.1 hk
    obtain ⟨hi1, hi2⟩ := List.getElem?_eq_some_iff.1 hi
    rcases Nat.lt_or_gt_of_ne e with hlt | hlt
    · have := h1 k i hk1 hi1 hlt
      rw [hk2, hi2] at this
      exact this
    · have := h1 i k hi1 hk1 hlt
      rw [hk2, hi2] at this
      exact fun e => this e.symm
theorem zfh (w : World) (g i : Nat) (v : Value) : w.grownBy (w.setCell ⟨g, i, none⟩ v) (some g) :=
  ⟨rfl, rfl, rfl, by simp, fun k hk hne => Below.heap_setCell w ⟨g, i, none⟩ v k (fun e => hne (by rw [e]))⟩
theorem St.set (h : St w0 w L R O) (k : Nat) {g : Nat} {vs : List Value} (hk : L[k]? = some (g, vs)) (i : Nat) (hi : i < vs.length) (v : Value) (hv : qjc v = true) : St w0 (w.setCell ⟨g, i, none⟩ v) (L.set k (g, vs.set i v)) R O := by
  have hm := List.mem_of_getElem? hk
  have ho := h.own _ hm
  refine ⟨h.bel.setCell (p := ⟨g, i, none⟩) ho.1 v, fun p hp => ?_, qra h.dis hk, fun r hr => ho.2.rd (h.rds r hr) i v hi, fun o hO => (h.rows o hO).kept (zfh w g i v) (fun a ha e => h.sepL o hO _ hm a ha (by simpa using e)), h.sepO, fun o hO p hp => ?_, h.sepR⟩
  · rcases qug h.dis hk hp with rfl | ⟨hp, hne⟩
    · exact ⟨ho.1, ho.2.set i v hi (qof hv)⟩
    · exact ⟨(h.own p hp).1, (h.own p hp).2.far hne i v⟩
  · rcases qug h.dis hk hp with rfl | ⟨hp, hne⟩
    · exact (show Off o.1 g from h.sepL o hO _ hm)
    · exact h.sepL o hO p hp
def over : List Value → Nat → List Value → List Value
  | vs, _, [] => vs
  | vs, o, c :: cs => over (vs.set o c) (o + 1) cs
theorem St.sets {g : Nat} : ∀ (cs : List Value) (w : World) (L : List (Nat × List Value)) (vs : List Value) (o : Nat), St w0 w L R O → ∀ k, L[k]? = some (g, vs) → o + cs.length ≤ vs.length → cs.all qjc = true → St w0 (w.setCells g o cs) (L.set k (g, over vs o cs)) R O
  | [], w, L, vs, o, h, k, hk, _, _ => by
    have : L.set k (g, over vs o []) = L := by
      apply List.ext_getElem?
      intro i
      by_cases hi : k = i
      · subst hi
        rw [List.getElem?_set_self (List.getElem?_eq_some_iff.1 hk).1, hk]
        rfl
      · rw [List.getElem?_set_ne hi]
    rw [this]
    exact h
  | c :: cs, w, L, vs, o, h, k, hk, hl, hc => by
    simp only [List.all_cons, Bool.and_eq_true] at hc
    simp only [List.length_cons] at hl
    have h1 := h.set k hk o (by omega) c hc.1
    have hk1 : (L.set k (g, vs.set o c))[k]? = some (g, vs.set o c) := List.getElem?_set_self (List.getElem?_eq_some_iff.1 hk).1
    have h2 := St.sets cs _ _ (vs.set o c) (o + 1) h1 k hk1 (by rw [List.length_set]; omega) hc.2
    rw [List.set_set] at h2
    exact h2
theorem Blk.grown {g : Nat} {vs : List Value} (h : Blk w g vs) {row : Option Nat} (hg : w.grownBy w' row) (hne : some g ≠ row) : Blk w' g vs := by
  have e := hg.block g h.lt hne
  exact ⟨Nat.lt_of_lt_of_le h.lt hg.size, fun i v hv => (World.cell?_of_block (w := w) (a := ⟨g, i, none⟩) e).trans (h.cell i v hv), fun i => (World.frozen?_of_block (w := w) (a := ⟨g, i, none⟩) e).trans (h.froz i), h.no⟩
theorem qrb {k : Nat} {o u p : Option Addr × Nat × List Nat} (h : O.Pairwise (fun p q => Apart p.1 q.1)) (hk : O[k]? = some o) (hp : p ∈ O.set k u) : p = u ∨ (p ∈ O ∧ Apart o.1 p.1) := by
  obtain ⟨i, hi⟩ := List.mem_iff_getElem?.1 hp
  by_cases e : k = i
  · subst e
    rw [List.getElem?_set_self (List.getElem?_eq_some_iff.1 hk).1] at hi
    exact .inl (Option.some.inj hi).symm
  · rw [List.getElem?_set_ne e] at hi
    refine .inr ⟨List.mem_of_getElem? hi, ?_⟩
    have h1 := List.pairwise_iff_getElem.1 h
    obtain ⟨hk1, hk2⟩ := List.getElem?_eq_some_iff.1 hk
    obtain ⟨hi1, hi2⟩ := List.getElem?_eq_some_iff.1 hi
    rcases Nat.lt_or_gt_of_ne e with hlt | hlt
    · have := h1 k i hk1 hi1 hlt
      rw [hk2, hi2] at this
      exact this
    · have := h1 i k hi1 hk1 hlt
      rw [hk2, hi2] at this
      exact fun a b ha hb e => this b a hb ha e.symm
theorem St.turn (h : St w0 w L R O) (k : Nat) {ao : Option Addr} {c : Nat} {l : List Nat} (hk : O[k]? = some (ao, c, l)) {bo : Option Addr} {c' : Nat} {l' : List Nat} (hg : w.grownBy w' (Value.slice ao l.length c).ownBlock) (ho : Own w0.heap.size w' bo c' l') (hat : ∀ b, bo = some b → (∃ a, ao = some a ∧ a.block = b.block) ∨ b.block = w.heap.size) :
    St w0 w' L R (O.set k (bo, c', l')) := by
  have hm := List.mem_of_getElem? hk
  have hrow := h.rows _ hm
  have blk : ∀ a, ao = some a → (Value.slice ao l.length c).ownBlock = some a.block := fun a ha => by rw [ha]; rfl
  have far : ∀ g, Off ao g → some g ≠ (Value.slice ao l.length c).ownBlock := fun g hg e => by
    cases hao : ao with
    | none => rw [hao] at e; simp [Value.ownBlock] at e
    | some a => rw [blk a hao] at e; exact hg a hao (by simpa using e.symm)
  -- what lies off the old row and is there lies off the new one
  have off : ∀ g, Off ao g → g < w.heap.size → Off bo g := fun g hg hlt b hb e => by
    rcases hat b hb with ⟨a, ha, e1⟩ | e1
    · exact hg a ha (e1.trans e)
    · omega
  refine ⟨h.bel.grown hg h.bel.size (fun j hj => ?_), fun p hp => ⟨(h.own p hp).1, (h.own p hp).2.grown hg (far _ (h.sepL _ hm p hp))⟩, h.dis, fun r hr => ?_, fun o hO => ?_, ?_, fun o hO p hp => ?_, fun o hO r hr hne => ?_⟩
  · cases hao : ao with
    | none => rw [hao] at hj; simp [Value.ownBlock] at hj
    | some a => rw [blk a hao] at hj; cases hj; exact (hrow.lt a hao).1
  · by_cases hne : r.2 = []
    · rw [hne]; exact Rd.nil _ _
    · exact (h.rds r hr).grown hg (fun a ha => far _ (fun x hx e => h.sepR _ hm r hr hne x a hx ha e))
  · rcases qrb h.sepO hk hO with rfl | ⟨hO, hap⟩
    · exact ho
    · exact (h.rows o hO).kept hg (fun a ha => far _ (fun x hx e => hap x a hx ha e))
  · have key : ∀ o ∈ O, Apart ao o.1 → Apart bo o.1 := fun o hO hap b x hb hx e => off x.block (fun y hy ey => hap y x hy hx ey) ((h.rows o hO).lt x hx).2 b hb e
    rw [List.pairwise_iff_getElem]
    intro i j hi hj hij
    have hi' : i < O.length := by simpa using hi
    have hj' : j < O.length := by simpa using hj
    have h1 := List.pairwise_iff_getElem.1 h.sepO
    obtain ⟨hk1, hk2⟩ := List.getElem?_eq_some_iff.1 hk
    rw [List.getElem_set, List.getElem_set]
    by_cases e1 : k = i
    · subst e1
      rw [if_pos rfl, if_neg (by omega)]
      have := h1 k j hi' hj' hij
      rw [hk2] at this
      exact key _ (List.getElem_mem hj') this
    · rw [if_neg e1]
      by_cases e2 : k = j
      · subst e2
        rw [if_pos rfl]
        have := h1 i k hi' hj' hij
        rw [hk2] at this
        exact fun x b hx hb e => key _ (List.getElem_mem hi') (fun p q hp hq e => this q p hq hp e.symm) b x hb hx e.symm
      · rw [if_neg e2]
        exact h1 i j hi' hj' hij
  · rcases qrb h.sepO hk hO with rfl | ⟨hO, _⟩
    · exact off _ (h.sepL _ hm p hp) (h.lt p hp)
    · exact h.sepL o hO p hp
  · rcases qrb h.sepO hk hO with rfl | ⟨hO, _⟩
    · intro b x hb hx e
      obtain ⟨bb, of_, e1, hlt, _⟩ := (h.rds r hr).pos hne
      rw [e1] at hx
      cases hx
      exact off bb (fun y hy ey => h.sepR _ hm r hr hne y ⟨bb, of_, none⟩ hy e1 ey) hlt b hb e
    · exact h.sepR o hO r hr hne
structure IsS (P : Program) (t : TypeId) (n : Nat) : Prop where
  und : ∃ fs, P.underlying t = some (.struct fs)
  size : (P.info? t).map (·.size) = some n
theorem ke {P : Program} {t : TypeId} {n : Nat} (h : (P.info? t).map (·.size) = some n) : ∃ i, P.info? t = some i ∧ i.size = n := by
  cases hi : P.info? t with
  | none => rw [hi] at h; cases h
  | some i => rw [hi] at h; exact ⟨i, rfl, by simpa using h⟩
structure Is1 (P : Program) (t : TypeId) : Prop where
  und : ∃ d, P.underlying t = some d ∧ (match d with | .struct _ | .array _ _ => false | _ => true) = true
  size : (P.info? t).map (·.size) = some 1
def FieldAt (P : Program) (s : TypeId) (f off : Nat) : Prop := ∃ fs fld, P.underlying s = some (.struct fs) ∧ fs[f]? = some fld ∧ fld.offset = off ∧ (P.info? fld.type).map (fun i => Nat.beq i.size 0) = some false

variable {P : Program}
theorem vq (g o j : Nat) : (⟨g, o, none⟩ : Addr).add j = ⟨g, o + j, none⟩ := by unfold Addr.add; split <;> simp_all
theorem kp {t : TypeId} {n : Nat} (ht : IsS P t n) {g o : Nat} (cs : List Value) (hl : cs.length = n) (hc : ∀ j v, cs[j]? = some v → w.cell? ⟨g, o + j, none⟩ = some v) : (loadVar t ⟨g, o, none⟩).run P w = .ok (.agg cs.toArray) w := by
  obtain ⟨fs, hu⟩ := ht.und
  obtain ⟨i, hi, hn⟩ := ke ht.size
  have h1 : (isAgg t).run P w = .ok true w := by simp [isAgg, run_underlying hu]
  have h2 : (sizeOf t).run P w = .ok cs.length w := by simp [sizeOf, typeInfo, hi, hn, hl]
  have h3 := run_loadCells_list (P := P) w ⟨g, o, none⟩ cs (fun j v hj => by rw [vq]; exact hc j v hj)
  simp only [loadVar, Sem.run_bind, h1, Result.andThen_ok, if_true, h2, h3, Sem.run_pure]
theorem xa {t : TypeId} (ht : Is1 P t) {a : Addr} {v : Value} (hc : w.cell? a = some v) : (loadVar t a).run P w = .ok v w := by
  obtain ⟨d, hu, hd⟩ := ht.und
  have h1 : (isAgg t).run P w = .ok false w := by
    cases d <;> first | (simp at hd; done) | simp [isAgg, run_underlying hu]
  simp only [loadVar, Sem.run_bind, h1, Result.andThen_ok, if_false, Bool.false_eq_true]
  simp [hc]

variable {l : List (Nat × Value)} {dst : Option Tmp} {ty : TypeId} {pos : String} {after : Array Edge} {guard : Option (Nat × Bool)} {v : Value}
theorem qg {x : Operand} (hx : ev l x = some v) : Does P l ⟨dst, .move x, ty, pos, after, guard⟩ w v w := fun ρ h => by
  simp only [execOp, h x v hx]; rfl
theorem qe {x : Operand} (hx : ev l x = some v) : Does P l ⟨dst, .assign x, ty, pos, after, guard⟩ w v w := fun ρ h => by
  simp only [execOp, h x v hx]; rfl
theorem zm {c x y : Operand} {b : Bool} {u u' : Value} (hc : ev l c = some (.bool b)) (hx : ev l x = some u) (hy : ev l y = some u') (hv : v = cond b u u') : Does P l ⟨dst, .pick c x y, ty, pos, after, guard⟩ w v w := fun ρ h => by
  subst hv
  simp only [execOp, h c _ hc, h x _ hx, h y _ hy]
  cases b <;> rfl
theorem qi {x : Operand} {vs : List Value} {i : Nat} (hx : ev l x = some (.tuple vs.toArray)) (hi : vs[i]? = some v) : Does P l ⟨dst, .extract x i, ty, pos, after, guard⟩ w v w := fun ρ h => by
  simp only [execOp, h x _ hx, Instr.extract, List.getElem?_toArray, hi]; rfl
theorem jo {t : TypeId} {x : Operand} {a : Addr} (hx : ev l x = some (.pointer (some a))) (hr : (loadVar t a).run P w = .ok v w) : Does P l ⟨dst, .load t x, ty, pos, after, guard⟩ w v w := fun ρ h => by
  simp only [execOp, h x _ hx, Instr.loadAt, Instr.sureAddr, Sem.run_bind, Sem.run_pure, Result.andThen_ok, hr]
theorem zj (hS : St w0 w L R O) {t : TypeId} {n : Nat} (ht : IsS P t n) {x : Operand} {g o : Nat} (hx : ev l x = some (.pointer (some ⟨g, o, none⟩))) (k : Nat) {vs cs : List Value} (hk : L[k]? = some (g, vs)) (hcs : (vs.drop o).take n = cs) (hl : cs.length = n) :
    Does P l ⟨dst, .load t x, ty, pos, after, guard⟩ w (.agg cs.toArray) w :=
  jo hx (kp ht cs hl (fun j v hj => hS.cell k hk (o + j) (by
    have hjn : j < n := by rw [← hl]; exact (List.getElem?_eq_some_iff.1 hj).1
    rw [← hcs, List.getElem?_take, if_pos hjn, List.getElem?_drop] at hj
    exact hj)))
theorem qn (hS : St w0 w L R O) {t : TypeId} (ht : Is1 P t) {x : Operand} {g o : Nat} (hx : ev l x = some (.pointer (some ⟨g, o, none⟩))) (k : Nat) {vs : List Value} (hk : L[k]? = some (g, vs)) (hv : vs[o]? = some v) :
    Does P l ⟨dst, .load t x, ty, pos, after, guard⟩ w v w := jo hx (xa ht (hS.cell k hk o hv))
theorem Rd.addr {so : Option Addr} {l : List Nat} {i : Nat} (h : Rd w so l) (hi : i < l.length) : ∃ b off, so = some ⟨b, off, none⟩ := by
  obtain ⟨b, off, h1, _⟩ := h.pos (fun e => by rw [e] at hi; simp at hi)
  exact ⟨b, off, h1⟩
theorem Rd.at_ {so : Option Addr} {l : List Nat} {i b off : Nat} (h : Rd w so l) (hso : so = some ⟨b, off, none⟩) (hi : i < l.length) : w.cell? ⟨b, off + i, none⟩ = some (.int .u32 ((l.getD i 0 : Nat) : Int)) := by
  obtain ⟨b', off', h1, _, h3⟩ := h.pos (fun e => by rw [e] at hi; simp at hi)
  rw [hso] at h1
  cases h1
  exact h3 i hi
theorem jf {so : Option Addr} {us : List Nat} {i b off : Nat} (h : Rd w so us) (hso : so = some ⟨b, off, none⟩) (hi : i < us.length) {t : TypeId} (ht : Is1 P t) {x : Operand} (hx : ev l x = some (.pointer (some ⟨b, off + i, none⟩))) :
    Does P l ⟨dst, .load t x, ty, pos, after, guard⟩ w (.int .u32 ((us.getD i 0 : Nat) : Int)) w := jo hx (xa ht (h.at_ hso hi))
theorem qf {s : TypeId} {x : Operand} {f g o off o' : Nat} (hf : FieldAt P s f off) (hx : ev l x = some (.pointer (some ⟨g, o, none⟩))) (ho : o + off = o') : Does P l ⟨dst, .fieldAddr s x f, ty, pos, after, guard⟩ w (.pointer (some ⟨g, o', none⟩)) w := fun ρ h => by
  obtain ⟨fs, fld, hu, hff, hoff, hm⟩ := hf
  obtain ⟨i, hi, hz⟩ : ∃ i, P.info? fld.type = some i ∧ i.size ≠ 0 := by
    cases hi : P.info? fld.type with
    | none => rw [hi] at hm; cases hm
    | some i =>
      rw [hi] at hm
      refine ⟨i, rfl, fun e => ?_⟩
      simp [e] at hm
  subst ho
  have h2 : (sizeOf fld.type).run P w = .ok i.size w := by simp [sizeOf, typeInfo, hi]
  simp only [execOp, h x _ hx, Instr.fieldAt, Sem.run_bind, run_underlying hu, Result.andThen_ok, hff, Instr.sureAddr, Sem.run_pure, fieldPlace, h2, if_neg hz, vq, hoff]
theorem zd {t : TypeId} {x : Operand} {u : Value} (hx : ev l x = some u) {vs : List Value} (hc : u.cells = vs.toArray) : Does P l ⟨dst, .box t x, ty, pos, after, guard⟩ w (.pointer (some ⟨w.heap.size, 0, none⟩)) (w.alloc (.cells vs.toArray t)) := fun ρ h => by
  simp only [execOp, h x _ hx, ← hc]; rfl
theorem zv {t : TypeId} {z : Value} (hz : (P.info? t).map (·.zero) = some (some z)) {vs : List Value} (hc : z.cells = vs.toArray) : Does P l ⟨dst, .alloc t, ty, pos, after, guard⟩ w (.pointer (some ⟨w.heap.size, 0, none⟩)) (w.alloc (.cells vs.toArray t)) := fun ρ h => by
  cases hi : P.info? t with
  | none => rw [hi] at hz; cases hz
  | some i =>
    rw [hi] at hz
    simp only [Option.map_some, Option.some.injEq] at hz
    have h1 : (zeroValue t).run P w = .ok z w := by simp [zeroValue, typeInfo, hi, hz]
    simp only [execOp, Instr.alloc, Sem.run_bind, h1, Result.andThen_ok, ← hc]
    rfl
theorem xr {t : TypeId} {parts : List (Nat × Operand)} {pv : List (Nat × Value)} (hp : evp l parts = some pv) (hb : ∀ w, (Instr.build t pv.toArray).run P w = .ok v w) : Does P l ⟨dst, .build t parts.toArray, ty, pos, after, guard⟩ w v w := fun ρ h => by
  have e : parts.toArray.map (fun p => (p.1, ρ p.2)) = pv.toArray := by
    simp only [List.map_toArray]
    congr 1
    have : ∀ (xs : List (Nat × Operand)) (vs : List (Nat × Value)), evp l xs = some vs → xs.map (fun p => (p.1, ρ p.2)) = vs := by
      intro xs
      induction xs with
      | nil => intro vs hx; simp [evp] at hx; simp [hx]
      | cons x xs ih =>
        intro vs hx
        obtain ⟨i, x⟩ := x
        unfold evp at hx
        split at hx
        · rename_i v us h1 h2
          cases hx
          simp [h _ _ h1, ih _ h2]
        · cases hx
    exact this parts pv hp
  have e' : (parts.toArray.map fun (i, x) => (i, ρ x)) = pv.toArray := e
  simp only [execOp, e', Sem.run_bind, hb w, Result.andThen_ok, Sem.run_pure]
theorem zp {t : TypeId} {n : Nat} {parts : List (Nat × Operand)} {pv : List (Nat × Value)} (hp : evp l parts = some pv) {w' : World} (hb : (Instr.buildSlice t n pv.toArray).run P w = .ok v w') : Does P l ⟨dst, .buildSlice t n parts.toArray, ty, pos, after, guard⟩ w v w' := fun ρ h => by
  have e : parts.toArray.map (fun p => (p.1, ρ p.2)) = pv.toArray := by
    simp only [List.map_toArray]
    congr 1
    have : ∀ (xs : List (Nat × Operand)) (vs : List (Nat × Value)), evp l xs = some vs → xs.map (fun p => (p.1, ρ p.2)) = vs := by
      intro xs
      induction xs with
      | nil => intro vs hx; simp [evp] at hx; simp [hx]
      | cons x xs ih =>
        intro vs hx
        obtain ⟨i, x⟩ := x
        unfold evp at hx
        split at hx
        · rename_i v us h1 h2
          cases hx
          simp [h _ _ h1, ih _ h2]
        · cases hx
    exact this parts pv hp
  have e' : (parts.toArray.map fun (i, x) => (i, ρ x)) = pv.toArray := e
  simp only [execOp, e', Sem.run_bind, hb, Result.andThen_ok, Sem.run_pure]
theorem qy {x : Operand} {t e : TypeId} {so : Option Addr} {n c : Nat} (hu : P.underlying t = some (.slice e)) (hx : ev l x = some (.slice so n c)) : Does P l ⟨dst, .call ⟨.builtin .len, #[x], #[t]⟩, ty, pos, after, guard⟩ w (.int .i64 n) w := fun ρ h => by
  have := h x _ hx
  simp [go_sem, this, Builtin.len_, run_underlying hu, goInt]
theorem qh {b : BinOp} {t t' : TypeId} {x y : Operand} {u u' : Value} (hx : ev l x = some u) (hy : ev l y = some u') (hr : ∀ w, (do eqGuard b t x y u u'; binOp b t u u' : Sem Value).run P w = .ok v w) : Does P l ⟨dst, .binOp b t x y t', ty, pos, after, guard⟩ w v w := fun ρ h => by
  simp only [execOp, h x _ hx, h y _ hy]
  rw [Sem.run_bind, hr w]
  rfl
theorem ql {b : UnOp} {t : TypeId} {x : Operand} {u : Value} (hx : ev l x = some u) (hr : ∀ w, (Op.unary b u).run P w = .ok v w) : Does P l ⟨dst, .unOp b t x, ty, pos, after, guard⟩ w v w := fun ρ h => by
  simp only [execOp, h x _ hx, Sem.run_bind, hr w, Result.andThen_ok, Sem.run_pure]
theorem qk {x : Operand} {f : FuncId} {args : List Operand} {ts : Array TypeId} {vs : List Value} (hx : ev l x = some (.func (.func f) #[] #[])) (ha : evs l args = some vs) (hf : ∀ w, (invoke (.fn (.func f) #[]) vs.toArray).run P w = .ok (.enter f vs.toArray) w) :
    Enters P l ⟨dst, .call ⟨.value x, args.toArray, ts⟩, ty, pos, after, guard⟩ w f vs := fun ρ h => by
  have e : args.map ρ = vs := by
    have : ∀ (xs : List Operand) (vs : List Value), evs l xs = some vs → xs.map ρ = vs := by
      intro xs
      induction xs with
      | nil => intro vs hx; simp [evs] at hx; simp [hx]
      | cons x xs ih =>
        intro vs hx
        unfold evs at hx
        split at hx
        · rename_i v us h1 h2
          cases hx
          simp [h _ _ h1, ih _ h2]
        · cases hx
    exact this args vs ha
  have := hf w
  simp [execOp, resolve, h x _ hx, Deferred.ofValue, e, this]

section
variable {ops : List Oper} {Q : Exit → Act → World → Prop} {a : Act} {n : Nat} {o : Oper} {rest : List Oper} {d : Nat}
theorem jq (hA : Sl a n l) (hS : St w0 w L R O) (hg : jd l ops o = true) (hdst : o.dst = some d) (hd : Nat.blt d n = true) {vs : List Value} {t : TypeId} (val : Nat → Value) (he : Does P l o w (val w.heap.size) (w.alloc (.cells vs.toArray t))) (hno : vs.all qjc = true)
    (hk : ∀ g w', St w0 w' ((g, vs) :: L) R O → ∀ a', Sl a' n ((d, val g) :: l) → wpList P ops.toArray Q rest a' w') : wpList P ops.toArray Q (o :: rest) a w :=
  qb hA hg hdst hd he (hk _ _ (hS.new vs t hno))
theorem qeb (hA : Sl a n l) (hS : St w0 w L R O) (hg : jd l ops o = true) (hdst : o.dst = some d) (hd : Nat.blt d n = true) {us : List Nat} {t : TypeId} {m : Nat} (he : Does P l o w (.slice (some ⟨w.heap.size, 0, none⟩) m m) (w.alloc (.cells (U us).toArray t))) (hu : Dig us)
    (hk : ∀ g w', St w0 w' L ((some ⟨g, 0, none⟩, us) :: R) O → ∀ a', Sl a' n ((d, .slice (some ⟨g, 0, none⟩) m m) :: l) → wpList P ops.toArray Q rest a' w') : wpList P ops.toArray Q (o :: rest) a w :=
  qb hA hg hdst hd he (hk _ _ (hS.newU us t hu))
variable {S : World → Prop} {md : Region.Mode} {fuel : Nat} {listed : Array Bool}
theorem vd {id : Nat} (hm : P.follows .mixedOrders = true) (h : wpAnyH P .any ops.toArray Q S ops.length (Array.replicate ops.length false) a w.drew) : (Code.region id ops.toArray true).wp P Q a w :=
  wp_region_held (S := S) hm (by simpa using h)
end
def kg (P : Program) (l : List (Nat × Value)) (w : World) : ResultVar → Value → Prop
  | .tmp t, v => vp l t = some v
  | .cell c t, v => ∃ p, vp l c = some (.pointer (some p)) ∧ (loadVar t p).run P w = .ok v w
def AllRes (P : Program) (l : List (Nat × Value)) (w : World) : List ResultVar → List Value → Prop
  | [], [] => True
  | r :: rs, v :: vs => kg P l w r v ∧ AllRes P l w rs vs
  | _, _ => False
theorem AllRes.nil : AllRes P l w [] [] := trivial
theorem AllRes.cons {r : ResultVar} {v : Value} {rs : List ResultVar} {vs : List Value} (h : kg P l w r v) (t : AllRes P l w rs vs) : AllRes P l w (r :: rs) (v :: vs) := ⟨h, t⟩
section
variable {a : Act} {n : Nat} {fn : Func} {Z : Ending → World → Prop}
theorem qj {t : Tmp} (h : vp l t = some v) : kg P l w (.tmp t) v := h
def km (tmps : Array Value) : ResultVar → Sem Value
  | .tmp t => pure (tmps.getD t undef)
  | .cell c t => do loadVar t (← asAddr (tmps.getD c undef))
def uu : List Value → Value
  | [x] => x
  | xs => .tuple xs.toArray
theorem Sl.res (hA : Sl a n l) {r : ResultVar} (h : kg P l w r v) : (km a.tmps r).run P w = .ok v w := by
  cases r with
  | tmp t =>
    have := hA.holds t v h
    simp [km, Array.getD_eq_getD_getElem?, this]
  | cell c t =>
    obtain ⟨p, hp, hr⟩ := h
    have := hA.holds c _ hp
    simp [km, Array.getD_eq_getD_getElem?, this, asAddr, hr]
theorem kv (hA : Sl a n l) : ∀ (rs : List ResultVar) (vs : List Value), AllRes P l w rs vs → Sem.run P (rs.mapM (km a.tmps)) w = .ok vs w
  | [], [], _ => by simp
  | [], _ :: _, h => h.elim
  | _ :: _, [], h => h.elim
  | r :: rs, v :: vs, h => by
    have e1 := hA.res h.1
    have e2 := kv hA rs vs h.2
    simp only [List.mapM_cons, Sem.run_bind, e1, Result.andThen_ok, e2, Sem.run_pure]
theorem je (hA : Sl a n l) {rs : List ResultVar} (hrs : fn.results = rs.toArray) {vs : List Value} (hvs : AllRes P l w rs vs) (hv : uu vs = v) (hz : Z (.returned v) w) : bodyPost P fn Z .ret a w := by
  refine ⟨hA.none_, v, ?_, hz⟩
  have e := kv hA rs vs hvs
  subst hv
  have e' : results fn a.tmps = (do let us ← fn.results.mapM (km a.tmps); pure (if h : us.size = 1 then us[0] else .tuple us)) := by
    unfold results
    congr 1
  have e2 : Sem.run P (List.toArray <$> rs.mapM (km a.tmps)) w = .ok vs.toArray w := by
    show Sem.run P (rs.mapM (km a.tmps) >>= fun us => pure us.toArray) w = _
    rw [Sem.run_bind, e]
    rfl
  rw [e', hrs, List.mapM_toArray, Sem.run_bind, e2, Result.andThen_ok]
  match vs with
  | [] => simp [uu]
  | [x] => simp [uu]
  | x :: y :: r => simp [uu]
end
theorem qx {f : FuncId} {fn : Func} {c : Code} {args : List Value} {n : Nat} {Z : Ending → World → Prop} (hf : P.funcs[f]? = some fn) (hb : fn.body = some c) (hn : fn.ntmps = n) (hl : Nat.ble args.length n = true) (hs : (args.zipIdx.map fun p => (p.2, p.1)) = l)
    (h : ∀ Q : Exit → Act → World → Prop, (∀ a w, bodyPost P fn Z .ret a w → Q .ret a w) → (∀ a w, bodyPost P fn Z .ret a w → Q .normal a w) → (∀ c a d v w, Q (.panic c) (Act.put a d v) w → Q (.panic c) a w) → ∀ a, Sl a n l → c.wp P Q a w) : Calls P f args.toArray w Z := by
  subst hs
  refine calls_of_wp hf hb (h _ (fun _ _ h => h) (fun _ _ h => h) (fun c a d v w h => ?_) _ ?_)
  · cases d <;> exact h
  · rw [hn]
    exact Sl.enter (Nat.le_of_ble_eq_true hl)
section
variable {Q : Exit → Act → World → Prop} {a : Act} {c : Code}
theorem zt {m : Nat} (h : ∀ K : Act → World → Prop, (∀ a w, Code.rounds P c Q m a w → K a w) → c.wp P (Exit.then K Q) a w) : Code.rounds P c Q (m + 1) a w := h _ (fun _ _ h => h)
theorem yi : ∀ n m, n ≤ m → ∀ a w, Code.rounds P c Q n a w → Code.rounds P c Q m a w
  | 0, _, _, _, _, h => h.elim
  | n + 1, 0, hl, _, _, _ => by omega
  | n + 1, m + 1, hl, a, w, h => Code.wp_mono (fun e a w q => by
      cases e <;> first | exact yi n m (by omega) _ _ q | exact q) h
theorem jc (I : Nat → Act → World → Prop) (N : Nat) (h0 : I N a w) (round : ∀ m a w, I m a w → ∀ K : Act → World → Prop, (∀ m' a' w', m' < m → I m' a' w' → K a' w') → c.wp P (Exit.then K Q) a w) : (Code.loop c).wp P Q a w := by
  have key : ∀ m a w, I m a w → Code.rounds P c Q (m + 1) a w := by
    intro m
    induction m using Nat.strongRecOn with
    | _ m ih =>
      intro a w h
      exact round m a w h _ (fun m' a' w' hm h' => yi (m' + 1) m (by omega) _ _ (ih m' hm a' w' h'))
  exact wp_loop_rounds (N + 1) (key N a w h0)
end
theorem yj {t : TypeId} {x i : Operand} {u u' : Value} (hx : ev l x = some u) (hi : ev l i = some u') (hr : ∀ w, (Instr.indexAt t u u').run P w = .ok v w) : Does P l ⟨dst, .indexAddr t x i, ty, pos, after, guard⟩ w v w := fun ρ h => by
  simp only [execOp, h x _ hx, h i _ hi, Sem.run_bind, hr w, Result.andThen_ok, Sem.run_pure]
theorem qcj {t e : TypeId} (hu : P.underlying t = some (.slice e)) (he : (P.info? e).map (·.size) = some 1) {g o n c k : Nat} (hk : k < n) : ∀ w, (Instr.indexAt t (.slice (some ⟨g, o, none⟩) n c) (.int .i64 (k : Nat))).run P w = .ok (.pointer (some ⟨g, o + k, none⟩)) w := fun w => by
  obtain ⟨i, hi, hs⟩ := ke he
  have h2 : (sizeOf e).run P w = .ok 1 w := by simp [sizeOf, typeInfo, hi, hs]
  have h3 : (0 : Int) ≤ (k : Nat) ∧ ((k : Nat) : Int) < (n : Nat) := ⟨by omega, by omega⟩
  simp [Instr.indexAt, asIntOf, run_underlying hu, h2, h3, vq]
  intro h
  omega
theorem zf {t e : TypeId} (hu : P.underlying t = some (.slice e)) (he : (P.info? e).map (·.size) = some 1) {x i : Operand} {so : Option Addr} {b off n c k : Nat} {z : Int} (hx : ev l x = some (.slice so n c)) (hi : ev l i = some (.int .i64 z)) (hz : z = (k : Nat)) (hso : so = some ⟨b, off, none⟩) (hk : k < n) :
    Does P l ⟨dst, .indexAddr t x i, ty, pos, after, guard⟩ w (.pointer (some ⟨b, off + k, none⟩)) w := by
  subst hso hz
  exact yj hx hi (qcj hu he hk)
theorem zk {s d : TypeId} {x : Operand} {u : Value} (hx : ev l x = some u) (hr : ∀ w, (convert s d u).run P w = .ok v w) : Does P l ⟨dst, .convert s d x, ty, pos, after, guard⟩ w v w := fun ρ h => by
  simp only [execOp, h x _ hx, Sem.run_bind, hr w, Result.andThen_ok, Sem.run_pure]
section
variable {t : TypeId} {x y : Operand} {k : IntKind} {a b : Int}
theorem zh : ∀ w, (do eqGuard .lss t x y (.int k a) (.int k b); binOp .lss t (.int k a) (.int k b) : Sem Value).run P w = .ok (.bool (decide (a < b))) w := fun w => by simp [go_sem]
theorem vu : ∀ w, (do eqGuard .leq t x y (.int k a) (.int k b); binOp .leq t (.int k a) (.int k b) : Sem Value).run P w = .ok (.bool (decide (a ≤ b))) w := fun w => by simp [go_sem]
theorem ji : ∀ w, (do eqGuard .gtr t x y (.int k a) (.int k b); binOp .gtr t (.int k a) (.int k b) : Sem Value).run P w = .ok (.bool (decide (b < a))) w := fun w => by simp [go_sem]
theorem ju : ∀ w, (do eqGuard .geq t x y (.int k a) (.int k b); binOp .geq t (.int k a) (.int k b) : Sem Value).run P w = .ok (.bool (decide (b ≤ a))) w := fun w => by simp [go_sem]
theorem qt : ∀ w, (do eqGuard .eql t x y (.int k a) (.int k b); binOp .eql t (.int k a) (.int k b) : Sem Value).run P w = .ok (.bool (a == b)) w := fun w => by simp [go_sem]
theorem jm : ∀ w, (do eqGuard .neq t x y (.int k a) (.int k b); binOp .neq t (.int k a) (.int k b) : Sem Value).run P w = .ok (.bool (a != b)) w := fun w => by simp [go_sem]
theorem yk {a : Int} (h0 : -9223372036854775808 ≤ a) (h1 : a ≤ 9223372036854775807) : IntKind.i64.wrap a = a := IntWalk.i64_in a ⟨h0, h1⟩
theorem kw (h : k.wrap (a + b) = a + b) : ∀ w, (do eqGuard .add t x y (.int k a) (.int k b); binOp .add t (.int k a) (.int k b) : Sem Value).run P w = .ok (.int k (a + b)) w := fun w => by simp [go_sem, h]
theorem qhg (h : k.wrap (a - b) = a - b) : ∀ w, (do eqGuard .sub t x y (.int k a) (.int k b); binOp .sub t (.int k a) (.int k b) : Sem Value).run P w = .ok (.int k (a - b)) w := fun w => by simp [go_sem, h]
theorem zid (h : k.wrap (-a) = -a) : ∀ w, (Op.unary .neg (.int k a)).run P w = .ok (.int k (-a)) w := fun w => by simp [go_sem, h]
theorem quh (hu : P.underlying t = some .bool) {c d : Bool} : ∀ w, (do eqGuard .eql t x y (.bool c) (.bool d); binOp .eql t (.bool c) (.bool d) : Sem Value).run P w = .ok (.bool (c == d)) w := fun w => by
  simp [go_sem, hu, run_underlying hu]
theorem qp {c : Bool} : ∀ w, (Op.unary .not (.bool c)).run P w = .ok (.bool (!c)) w := fun w => by simp [go_sem]
end
end
section
variable {P : Program} {ops : List Oper} {Q : Exit → Act → World → Prop} {a : Act} {w w' : World} {n : Nat} {l : List (Nat × Value)} {o : Oper} {v : Value} {rest : List Oper} {d : Nat}
theorem sdo (hA : Sl a n l) (he : Does P l o w v w') (hk : ∀ a', Sl a' n ((d, v) :: l) → wpList P ops.toArray Q rest a' w') (hg : jd l ops o = true := by rfl) (hdst : o.dst = some d := by rfl) (hd : Nat.blt d n = true := by rfl) : wpList P ops.toArray Q (o :: rest) a w := qb hA hg hdst hd he hk
theorem sdm {x : Operand} {ty : TypeId} {pos : String} {after : Array Edge} {guard : Option (Nat × Bool)} (hA : Sl a n l) (hk : ∀ a', Sl a' n ((d, v) :: l) → wpList P ops.toArray Q rest a' w) (hx : ev l x = some v := by rfl) (hg : jd l ops ⟨some d, .move x, ty, pos, after, guard⟩ = true := by rfl) (hd : Nat.blt d n = true := by rfl) : wpList P ops.toArray Q (⟨some d, .move x, ty, pos, after, guard⟩ :: rest) a w := sdo hA (qg hx) hk hg rfl hd
theorem sda {x : Operand} {ty : TypeId} {pos : String} {after : Array Edge} {guard : Option (Nat × Bool)} (hA : Sl a n l) (hk : ∀ a', Sl a' n ((d, v) :: l) → wpList P ops.toArray Q rest a' w) (hx : ev l x = some v := by rfl) (hg : jd l ops ⟨some d, .assign x, ty, pos, after, guard⟩ = true := by rfl) (hd : Nat.blt d n = true := by rfl) : wpList P ops.toArray Q (⟨some d, .assign x, ty, pos, after, guard⟩ :: rest) a w := sdo hA (qe hx) hk hg rfl hd
theorem sdk {c x y : Operand} {b : Bool} {u u' : Value} {ty : TypeId} {pos : String} {after : Array Edge} {guard : Option (Nat × Bool)} (hA : Sl a n l) (hk : ∀ a', Sl a' n ((d, v) :: l) → wpList P ops.toArray Q rest a' w) (hc : ev l c = some (.bool b) := by rfl) (hx : ev l x = some u := by rfl) (hy : ev l y = some u' := by rfl) (hv : v = cond b u u' := by rfl) (hg : jd l ops ⟨some d, .pick c x y, ty, pos, after, guard⟩ = true := by rfl) (hd : Nat.blt d n = true := by rfl) : wpList P ops.toArray Q (⟨some d, .pick c x y, ty, pos, after, guard⟩ :: rest) a w := sdo hA (zm hc hx hy hv) hk hg rfl hd
abbrev pg (g : Nat) : Value := .pointer (some ⟨g, 0, none⟩)
theorem wsk {x y : Code} (h : ∀ K : Act → World → Prop, (∀ a w, y.wp P Q a w → K a w) → x.wp P (Exit.then K Q) a w) : (Code.seq x y).wp P Q a w := wp_seq_k h
theorem wrl {id : Nat} {l : List Oper} (h : wpList P l.toArray Q l a w) : (Code.region id l.toArray false).wp P Q a w := wp_region_lit h
theorem tf (b : Bool) : b = true ∨ b = false := Bool.eq_false_or_eq_true b
theorem ef {x : Operand} {f : FuncId} {args : List Operand} {ts : Array TypeId} {vs : List Value} {dst : Option Tmp} {ty : TypeId} {pos : String} {after : Array Edge} {guard : Option (Nat × Bool)} (hx : ev l x = some (.func (.func f) #[] #[])) (ha : evs l args = some vs) (hf : ∀ w, (invoke (.fn (.func f) #[]) vs.toArray).run P w = .ok (.enter f vs.toArray) w := by exact fun w => by kernel_rfl) : Enters P l ⟨dst, .call ⟨.value x, args.toArray, ts⟩, ty, pos, after, guard⟩ w f vs := qk hx ha hf
theorem sct {f : FuncId} {vs : List Value} (hA : Sl a n l) (he : Enters P l o w f vs) {R : Ending → World → Prop} (hc : Calls P f vs.toArray w R) (hk : ∀ e w', R e w' → ∃ v, e = .returned v ∧ ∀ a', Sl a' n ((d, v) :: l) → wpList P ops.toArray Q rest a' w') (hg : jd l ops o = true := by rfl) (hdst : o.dst = some d := by rfl) (hd : Nat.blt d n = true := by rfl) : wpList P ops.toArray Q (o :: rest) a w := qz hA hg hdst hd he hc hk
theorem sdc {b : BinOp} {t t' ty : TypeId} {x y : Operand} {u u' : Value} {c e : Bool} {pos : String} {after : Array Edge} {guard : Option (Nat × Bool)} (hA : Sl a n l) (hr : ∀ w, (do eqGuard b t x y u u'; binOp b t u u' : Sem Value).run P w = .ok (.bool c) w) (h : c = e) (hk : ∀ a', Sl a' n ((d, .bool e) :: l) → wpList P ops.toArray Q rest a' w) (hx : ev l x = some u := by rfl) (hy : ev l y = some u' := by rfl) (hg : jd l ops ⟨some d, .binOp b t x y t', ty, pos, after, guard⟩ = true := by rfl) (hd : Nat.blt d n = true := by rfl) : wpList P ops.toArray Q (⟨some d, .binOp b t x y t', ty, pos, after, guard⟩ :: rest) a w := sdo hA (qh hx hy (h ▸ hr)) hk hg rfl hd
variable {fn : Func} {Z : Ending → World → Prop} {r1 r2 r3 : ResultVar} {v1 v2 v3 : Value}
theorem en1 (hA : Sl a n l) (hrs : fn.results = #[r1]) (h1 : kg P l w r1 v1) (hz : Z (.returned v1) w) : bodyPost P fn Z .ret a w := je hA (rs := [r1]) hrs (.cons h1 .nil) rfl hz
theorem en2 (hA : Sl a n l) (hrs : fn.results = #[r1, r2]) (h1 : kg P l w r1 v1) (h2 : kg P l w r2 v2) (hz : Z (.returned (.tuple #[v1, v2])) w) : bodyPost P fn Z .ret a w := je hA (rs := [r1, r2]) hrs (.cons h1 (.cons h2 .nil)) rfl hz
theorem en3 (hA : Sl a n l) (hrs : fn.results = #[r1, r2, r3]) (h1 : kg P l w r1 v1) (h2 : kg P l w r2 v2) (h3 : kg P l w r3 v3) (hz : Z (.returned (.tuple #[v1, v2, v3])) w) : bodyPost P fn Z .ret a w := je hA (rs := [r1, r2, r3]) hrs (.cons h1 (.cons h2 (.cons h3 .nil))) rfl hz
end
section
variable {P : Program} {ops : List Oper} {Q : Exit → Act → World → Prop} {a : Act} {w w' : World} {n : Nat} {l : List (Nat × Value)} {o : Oper} {v : Value} {d : Nat} {S : World → Prop} {md : Region.Mode} {fuel : Nat} {listed : Array Bool}
theorem ct {c : Operand} {x y : Code} (hA : Sl a n l) (h : x.wp P Q a w) (hx : ev l c = some (.bool true) := by rfl) : (Code.cond c x y).wp P Q a w := wp_cond_true (hA.ev hx) h
theorem cf {c : Operand} {x y : Code} (hA : Sl a n l) (h : y.wp P Q a w) (hx : ev l c = some (.bool false) := by rfl) : (Code.cond c x y).wp P Q a w := wp_cond_false (hA.ev hx) h
theorem atk (hA : Sl a n l) (i : Nat) (hi : ops[i]? = some o) (hP : ∀ c a d v w, Q (.panic c) (Act.put a d v) w → Q (.panic c) a w) (hS : S w) (he : ∀ w, S w → Does P l o w v w) (hk : ∀ a', Sl a' n ((d, v) :: l) → wpAnyH P md ops.toArray Q S fuel (listed.setIfInBounds i true) a' w) (hg : jd l ops o = true := by rfl) (hdst : o.dst = some d := by rfl) (hd : Nat.blt d n = true := by rfl) (hs : Region.noSelect ops.toArray = true := by kernel_rfl) (hf : Region.free md ops.toArray listed i = true := by kernel_rfl) (hr : (Region.ready md ops.toArray listed).contains i = true := by kernel_rfl) : wpAnyH P md ops.toArray Q S (fuel + 1) listed a w := zr hA i hi hg hdst hd hP hS he hk hs hf hr
theorem amv {x : Operand} {ty : TypeId} {pos : String} {after : Array Edge} {guard : Option (Nat × Bool)} (hA : Sl a n l) (i : Nat) (hi : ops[i]? = some ⟨some d, .move x, ty, pos, after, guard⟩) (hP : ∀ c a d v w, Q (.panic c) (Act.put a d v) w → Q (.panic c) a w) (hS : S w) (hk : ∀ a', Sl a' n ((d, v) :: l) → wpAnyH P md ops.toArray Q S fuel (listed.setIfInBounds i true) a' w) (hx : ev l x = some v := by rfl) (hg : jd l ops ⟨some d, .move x, ty, pos, after, guard⟩ = true := by rfl) (hd : Nat.blt d n = true := by rfl) (hs : Region.noSelect ops.toArray = true := by kernel_rfl) (hf : Region.free md ops.toArray listed i = true := by kernel_rfl) (hr : (Region.ready md ops.toArray listed).contains i = true := by kernel_rfl) : wpAnyH P md ops.toArray Q S (fuel + 1) listed a w := zr hA i hi hg rfl hd hP hS (fun w _ => qg hx) hk hs hf hr
theorem dbK {b : BinOp} {t t' ty : TypeId} {x y : Operand} {u u' : Value} {dst : Option Tmp} {pos : String} {after : Array Edge} {guard : Option (Nat × Bool)} (hx : ev l x = some u := by rfl) (hy : ev l y = some u' := by rfl) (hr : ∀ w, (do eqGuard b t x y u u'; binOp b t u u' : Sem Value).run P w = .ok v w := by exact fun w => by kernel_rfl) : Does P l ⟨dst, .binOp b t x y t', ty, pos, after, guard⟩ w v w := qh hx hy hr
variable {fn : Func} {Z : Ending → World → Prop} {r1 : ResultVar} {v1 : Value} {t : Tmp}
theorem wr1 (hret : ∀ a w, bodyPost P fn Z .ret a w → Q .ret a w) (hA : Sl a n l) (hz : Z (.returned v1) w) (hrs : fn.results = #[.tmp t] := by rfl) (h1 : vp l t = some v1 := by rfl) : Code.ret.wp P Q a w := wp_ret (hret _ _ (je hA (rs := [.tmp t]) hrs (.cons (qj h1) .nil) rfl hz))
end
set_option maxRecDepth 1000000 in
theorem zae {w : World} {b1 b2 : Bool} {o1 o2 o3 o4 : Option Addr} {m1 m2 m3 m4 c1 c2 c3 c4 : Nat} (h : m3 ≤ 9223372036854775807) :
    Calls Tryz.prog 172 #[.agg #[.bool b1, .slice o1 m1 c1, .slice o2 m2 c2, .bool b2, .slice o3 m3 c3, .slice o4 m4 c4]] w fun e w' => e = .returned (.bool (decide (m3 = 0))) ∧ Below w.heap.size w w' := by
  have HAL : Hid (∀ o, Below w.heap.size w (w.alloc o)) := fun o => (Below.refl _ _).alloc (Nat.le_refl _) o
  by_cases hm : m3 = 0
  · subst hm
    go_enter Tryz.func172, Tryz.ntmps172
    go_wp2
    go_ret
    exact ⟨rfl, HAL.out _⟩
  · have e : decide (m3 = 0) = false := decide_eq_false hm
    rw [e]
    have hm1 : ((m3 : Int) == 0) = false := by simp; omega
    clear e
    go_enter Tryz.func172, Tryz.ntmps172
    go_wp2
    go_ret
    exact ⟨rfl, HAL.out _⟩
theorem xb {w w' : World} (h : w' = w) : Below w.heap.size w w' := h ▸ Below.refl _ _
structure Sc (w : World) (o : Option Addr) (c : Nat) (l : List Nat) : Prop where
 rd : Rd w o l
 nil : o = none → c = 0
 cap : l.length ≤ c
theorem Sc.below {w w' : World} {o : Option Addr} {c : Nat} {l : List Nat} (h : Sc w o c l) (hb : Below w.heap.size w w') : Sc w' o c l := ⟨h.rd.below hb, h.nil, h.cap⟩
theorem Sc.none (w : World) : Sc w none 0 [] := ⟨Rd.nil _ _, fun _ => rfl, Nat.le_refl _⟩
structure Q6 where
 b1 : Bool
 t1 : List Nat
 q1 : List Nat
 b2 : Bool
 t2 : List Nat
 q2 : List Nat
def yt (q : Q6) (o1 : Option Addr) (c1 : Nat) (o2 : Option Addr) (c2 : Nat) (o3 : Option Addr) (c3 : Nat) (o4 : Option Addr) (c4 : Nat) : Value :=
 .agg #[bV q.b1, .slice o1 q.t1.length c1, .slice o2 q.q1.length c2, bV q.b2, .slice o3 q.t2.length c3, .slice o4 q.q2.length c4]
structure Nm (w : World) (q : Q6) (o1 : Option Addr) (c1 : Nat) (o2 : Option Addr) (c2 : Nat) (o3 : Option Addr) (c3 : Nat) (o4 : Option Addr) (c4 : Nat) : Prop where
 s1 : Sc w o1 c1 q.t1
 s2 : Sc w o2 c2 q.q1
 s3 : Sc w o3 c3 q.t2
 s4 : Sc w o4 c4 q.q2
def Q6.zero : Q6 := ⟨false, [], [], false, [], []⟩
def Q6.whole (b : Bool) (x : Nat) : Q6 := ⟨b, words x, [1], false, [], [1]⟩
theorem xj {x : Nat} (h : (words x).length ≤ 512) : sound (words x) = true := (sound_iff _).2 ⟨h, words_top x⟩
structure LenQ (q : Q6) : Prop where
 l1 : q.t1.length ≤ 9223372036854775807
 l2 : q.q1.length ≤ 9223372036854775807
 l3 : q.t2.length ≤ 9223372036854775807
 l4 : q.q2.length ≤ 9223372036854775807
def jp (q : Q6) : Bool := qda q.b1 q.t1 q.q1 q.b2 q.t2 q.q2
def xq (q : Q6) : Bool := jp q && (decide (q.t2.length = 0) && decide (q.q1 = [1]))
theorem vk {w : World} {q : Q6} {o1 o2 o3 o4 : Option Addr} {c1 c2 c3 c4 : Nat} (h : Nm w q o1 c1 o2 c2 o3 c3 o4 c4) (hl : LenQ q) {r : Bool} (hr : jp q = r) :
  Calls Tryz.prog 128 #[yt q o1 c1 o2 c2 o3 c3 o4 c4] w fun e w' => e = .returned (bV r) ∧ Below w.heap.size w w' := by
 subst hr
 exact zad c1 c2 c3 c4 h.s1.rd h.s2.rd h.s3.rd h.s4.rd hl.l1 hl.l2 hl.l3 hl.l4 h.s1.nil h.s2.nil h.s3.nil h.s4.nil
theorem kq {w : World} {q : Q6} {o1 o2 o3 o4 : Option Addr} {c1 c2 c3 c4 : Nat} (hl : LenQ q) {r : Bool} (hr : decide (q.t2.length = 0) = r) :
  Calls Tryz.prog 172 #[yt q o1 c1 o2 c2 o3 c3 o4 c4] w fun e w' => e = .returned (bV r) ∧ Below w.heap.size w w' := by
 subst hr
 exact zae hl.l3
theorem ud {w : World} {ao : Option Addr} {l : List Nat} (ca : Nat) (ha : Rd w ao l) (hl : l.length ≤ 9223372036854775807) {r : Bool} (hr : decide (l = [1]) = r) :
  Calls Tryz.prog 173 #[.slice ao l.length ca] w fun e w' => e = .returned (bV r) ∧ w' = w := by
 subst hr
 exact qoe ca ha hl
theorem qjd {q : Q6} (hd1 : Dig q.t1) (hd4 : Dig q.q2) (h : xq q = true) : ∃ x, q = Q6.whole q.b1 x ∧ (words x).length ≤ 512 ∧ q.b1.toNat ≤ x := by
 unfold xq jp qda at h
 simp only [Bool.and_eq_true, decide_eq_true_eq] at h
 obtain ⟨⟨h1, h2⟩, h3, h4⟩ := h
 have h3' := List.length_eq_zero_iff.1 h3
 have hs1 : sound q.t1 = true := by
  apply Classical.byContradiction
  intro hn
  unfold ym qij at h1
  simp [hn] at h1
 obtain ⟨e1, l1⟩ := sound_words hd1 hs1
 have hq2 : q.q2 = [1] := by
  unfold ym qij at h2
  rw [h3'] at h2
  by_cases hs : sound q.q2 = true
  ·
   have hs0 : sound [] = true := by decide
   simp only [hs0, hs, Bool.and_self, if_true, val_nil, Nat.gcd_zero_left, Bool.and_eq_true, decide_eq_true_eq] at h2
   have := h2.2.2
   rw [← (sound_words hd4 hs).1] at this
   exact this
  ·
   simp [hs] at h2
 have hb2 : q.b2 = false := by
  unfold ym at h2
  rw [h3'] at h2
  cases hb : q.b2 with
  | false => rfl
  | true => rw [hb] at h2; simp at h2
 refine ⟨val q.t1, ?_, by rw [← e1]; exact l1, ?_⟩
 ·
  cases q
  simp only [Q6.whole] at *
  rw [← e1, h4, h3', hq2, hb2]
 ·
  cases hb : q.b1 with
  | false => simp
  | true =>
   unfold ym at h1
   rw [hb] at h1
   simp only [Bool.and_true, Bool.and_eq_true, Bool.not_eq_true', Bool.or_eq_false_iff, decide_eq_false_iff_not] at h1
   have hne := h1.1.2
   have : val q.t1 ≠ 0 := by
    intro e
    rw [e, words_zero] at e1
    rw [e1] at hne
    exact hne rfl
   simp
   omega
def rb (z : Int) : Bool := decide (z < 0)
def AnsZ (w : World) (z : Int) (e : Ending) (w' : World) : Prop := ∃ o c, e = .returned (.agg #[bV (rb z), .slice o (words z.natAbs).length c]) ∧ Sc w' o c (words z.natAbs) ∧ Below w.heap.size w w'
theorem AnsZ.sgn {w w' : World} {b b' : Bool} {n : Nat} {z : Int} {o : Option Addr} {c : Nat} (hz : sgn b n = z) (hb : rb (sgn b n) = b') (hs : Sc w' o c (words n)) (hbel : Below w.heap.size w w') : AnsZ w z (.returned (.agg #[bV b', .slice o (words n).length c])) w' := by
 subst hz hb
 refine ⟨o, c, ?_, ?_, hbel⟩
 ·
  rw [zdj]
 ·
  rw [zdj]; exact hs
theorem xy {b : Bool} {x y : Nat} (hx : (words x).length ≤ 512) (hy : (words y).length ≤ 512) : ym b (words x) (words y) = (!(decide ((words y).length = 0) || (decide ((words x).length = 0) && b)) && decide (words (Nat.gcd x y) = [1])) := by
 unfold ym qij
 simp only [xj hx, xj hy, val_words, Bool.and_self, if_true, decide_true, Bool.true_and]
set_option maxRecDepth 100000
theorem BiB_is1_161 : Is1 Tryz.prog 161 := ⟨⟨_, Tryz.underlying161, rfl⟩, by kernel_rfl⟩
theorem zfi {w : World} {ao bo : Option Addr} {l1 l2 : List Nat} (ca cb : Nat) (ha : Rd w ao l1) (hb : Rd w bo l2) (h1 : l1.length ≤ 9223372036854775807) (h2 : l2.length ≤ 9223372036854775807) : Calls Tryz.prog 144 #[.slice ao l1.length ca, .slice bo l2.length cb] w fun e w' => e = .returned (bV (decide (l1 = l2))) ∧ Below w.heap.size w w' := by
 have V : St w w [] [(bo, l2), (ao, l1)] [] := ((St.start w).addR ha).addR hb
 refine qx (l := [(0, .slice ao l1.length ca), (1, .slice bo l2.length cb)]) Tryz.func144 rfl Tryz.ntmps144 rfl rfl ?_
 intro Q hret hnorm hP a A
 refine wsk fun K1 hK1 => wrl (sda A λa A↦?_)
 refine qa (hK1 _ _ (wsk fun K2 hK2 => wsk fun K3 hK3 => wrl (sdm A λa A↦?_)))
 refine sdo A (qy Tryz.underlying22 rfl) λa A↦?_
 refine sdm A λa A↦?_
 refine sdo A (qy Tryz.underlying22 rfl) λa A↦?_
 rcases tf ((((l1.length : Nat) : Int) != ((l2.length : Nat) : Int))) with hb4 | hb4
 ·
  have hb4' := bne_iff_ne.1 hb4
  refine sdc A jm hb4 λa A↦?_
  refine qa (hK3 _ _ (ct A ?_))
  refine wsk fun K5 hK5 => wrl (sda A λa A↦?_)
  refine qa (hK5 _ _ (wr1 hret A ?_))
  exact ⟨by rw [decide_eq_false (fun e => by subst e; omega)], V.bel⟩
 ·
  have hb4' := bne_eq_false_iff_eq.1 hb4
  refine sdc A jm hb4 λa A↦?_
  refine qa (hK3 _ _ (cf A ?_))
  refine wp_skip (hK2 _ _ (wsk fun K6 hK6 => wsk fun K7 hK7 => wrl (sda A λa A↦?_)))
  refine qa (hK7 _ _ (wp_block (jc (fun m a w1 => ∃ (i : Nat), m = l1.length - i ∧ (i ≤ l1.length ∧ ∀ j, j < i → l1.getD j 0 = l2.getD j 0) ∧ Sl a 26 [(0, .slice ao l1.length ca), (1, .slice bo l2.length cb), (5, iV (((i : Nat) : Int))), (6, .slice ao l1.length ca), (7, iV (((l1.length : Nat) : Int))), (8, .slice bo l2.length cb), (9, iV (((l2.length : Nat) : Int))), (10, bV false)] ∧ St w w1 [] [(bo, l2), (ao, l1)] []) _ ⟨0, rfl, ⟨by omega, fun j hj => by omega⟩, A.keep _ (by repeat' constructor), V⟩ ?_)))
  clear V A
  rintro m a w8 ⟨i, rfl, hinv10, A, V⟩ K9 hK9
  have hle := hinv10.1
  refine wsk fun K11 hK11 => wsk fun K12 hK12 => wrl ?_
  iterate 2 refine sdm A λa A↦?_
  refine sdo A (qy Tryz.underlying22 rfl) λa A↦?_
  rcases tf (decide (((i : Nat) : Int) < ((l1.length : Nat) : Int))) with hb13 | hb13
  ·
   have hb13' := of_decide_eq_true hb13
   refine sdc A zh hb13 λa A↦?_
   refine qa (hK12 _ _ (ct A ?_))
   refine wp_skip (hK11 _ _ (wsk fun K14 hK14 => wp_block (wsk fun K15 hK15 => vd (S := fun w1 => St w w1 [] [(bo, l2), (ao, l1)] []) (by kernel_rfl) ?_)))
   replace V := V.drew
   refine atk A 0 rfl hP V (λ_ V↦qg rfl) λa A↦?_
   refine atk A 1 rfl hP V (λ_ V↦qg rfl) λa A↦?_
   have hi19 : i < l1.length := by first | omega | (simp only [List.length_set]; omega)
   obtain ⟨b16, f17, hso18⟩ := Rd.addr (V.rd 1 rfl) hi19
   refine atk (v := pA b16 (f17 + i)) A 2 rfl hP V (λ_ V↦zf (k := i) Tryz.underlying22 (by kernel_rfl) rfl rfl (by omega) hso18 hi19) λa A↦?_
   refine atk (v := .int .u32 (((l1.getD i 0 : Nat) : Int))) A 3 rfl hP V (λ_ V↦jf (V.rd 1 rfl) hso18 hi19 BiB_is1_161 rfl) λa A↦?_
   refine atk A 4 rfl hP V (λ_ V↦qg rfl) λa A↦?_
   refine atk A 5 rfl hP V (λ_ V↦qg rfl) λa A↦?_
   have hi23 : i < l2.length := by first | omega | (simp only [List.length_set]; omega)
   obtain ⟨b20, f21, hso22⟩ := Rd.addr (V.rd 0 rfl) hi23
   refine atk (v := pA b20 (f21 + i)) A 6 rfl hP V (λ_ V↦zf (k := i) Tryz.underlying22 (by kernel_rfl) rfl rfl (by omega) hso22 hi23) λa A↦?_
   refine atk (v := .int .u32 (((l2.getD i 0 : Nat) : Int))) A 7 rfl hP V (λ_ V↦jf (V.rd 0 rfl) hso22 hi23 BiB_is1_161 rfl) λa A↦?_
   rcases tf ((((l1.getD i 0 : Nat) : Int) != ((l2.getD i 0 : Nat) : Int))) with hb24 | hb24
   ·
    have hb24' := bne_iff_ne.1 hb24
    refine atk (v := bV true) A 8 rfl hP V (λ_ V↦qh rfl rfl (fun w => (jm w).trans (by rw [hb24]))) λa A↦?_
    refine xp (by kernel_rfl) ?_
    refine hK15 _ _ (ct A ?_)
    refine wsk fun K25 hK25 => wrl (sda A λa A↦?_)
    refine qa (hK25 _ _ (wr1 hret A ?_))
    exact ⟨by rw [decide_eq_false (fun e => by subst e; omega)], V.bel⟩
   ·
    have hb24' := bne_eq_false_iff_eq.1 hb24
    refine atk (v := bV false) A 8 rfl hP V (λ_ V↦qh rfl rfl (fun w => (jm w).trans (by rw [hb24]))) λa A↦?_
    refine xp (by kernel_rfl) ?_
    refine hK15 _ _ (cf A ?_)
    refine wp_skip (hK14 _ _ (wrl (sdm A λa A↦?_)))
    refine sdo (v := iV (((i + 1 : Nat) : Int))) A (qh rfl rfl (fun w => (kw (yk (by omega) (by omega)) w).trans (by rw [show (((i : Nat) : Int) + 1 : Int) = ((i + 1 : Nat) : Int) from by omega]))) λa A↦?_
    refine sda A λa A↦?_
    refine qa ?_
    refine hK9 _ _ _ (by omega) ⟨i + 1, rfl, ⟨by omega, fun j hj => by rcases Nat.lt_succ_iff_lt_or_eq.1 hj with h | h; exact hinv10.2 j h; subst h; omega⟩, A.keep _ (by repeat' constructor), V⟩
  ·
   have hb13' := of_decide_eq_false hb13
   refine sdc A zh hb13 λa A↦?_
   refine qa (hK12 _ _ (cf A ?_))
   refine wp_exit (hK6 _ _ (wsk fun K26 hK26 => wrl (sda A λa A↦?_)))
   refine qa (hK26 _ _ (wr1 hret A ?_))
   exact ⟨by rw [decide_eq_true (list_of_getD (by omega) (fun j hj => hinv10.2 j (by omega)))], V.bel⟩
section
variable {P : Program}
end
def ztj (u : Rat) : Prop := (words u.num.natAbs).length ≤ 512 ∧ (words u.den).length ≤ 512
instance (u : Rat) : Decidable (ztj u) := inferInstanceAs (Decidable (_ ∧ _))
section
variable {P : Program} {t : TypeId} {x y : Operand} {a b : ByteArray}
theorem quj (hm : a.size + b.size ≤ 9223372036854775807) : ∀ w, (do eqGuard .add t x y (.string a) (.string b); binOp .add t (.string a) (.string b) : Sem Value).run P w = .ok (.string (a ++ b)) w := fun w => by
 simp [go_sem]
 exact hm
theorem zn (hu : P.underlying t = some .string) : ∀ w, (do eqGuard .eql t x y (.string a) (.string b); binOp .eql t (.string a) (.string b) : Sem Value).run P w = .ok (bV (a.toList == b.toList)) w := fun w => by
 simp [go_sem, hu, run_underlying hu]
end
def qdb (l : List (Nat × Value)) (ops : List Oper) (o : Oper) : Bool :=
 match o.guard with
 | none => false
 | some (j, b) => match ops[j]? with
  | some oj => match oj.dst with
   | some d => match vp l d with
    | some (.bool _) => false
    | some _ => true
    | none => false
   | none => false
  | none => false
section
variable {P : Program} {ops : List Oper} {Q : Exit → Act → World → Prop} {a : Act} {w w' : World} {n : Nat} {l : List (Nat × Value)} {o : Oper} {v : Value} {rest : List Oper}
theorem Sl.unwantedU (h : Sl a n l) (hp : qdb l ops o = true) : Region.wanted o (yielded ops.toArray a.tmps) = false := by
 unfold Region.wanted
 unfold qdb at hp
 split at hp
 ·
  cases hp
 ·
  rename_i j b hg
  rw [hg]
  split at hp
  ·
   rename_i oj hj
   split at hp
   ·
    rename_i d hd
    split at hp
    ·
     cases hp
    ·
     rename_i v' hb hv
     have := h.holds d _ hv
     cases v' <;> first | (exact absurd rfl (hb _)) | simp [yielded, hj, hd, this]
    ·
     cases hp
   ·
    cases hp
  ·
   cases hp
theorem kz (A : Sl a n l) (hg : qdb l ops o = true) {d : Nat} (hdst : o.dst = some d) (hd : Nat.blt d n = true)
  (hk : ∀ a', Sl a' n ((d, undef) :: l) → wpList P ops.toArray Q rest a' w) : wpList P ops.toArray Q (o :: rest) a w := by
 unfold wpList
 rw [A.unwantedU hg, if_neg (by simp), hdst]
 exact hk _ (A.put hd undef)
end




theorem vx {w : World} {ao : Option Addr} {l : List Nat} (cap : Nat) (h : Rd w ao l) (hl : l.length ≤ 9223372036854775807) {r : Bool} (hr : sound l = r) :
  Calls Tryz.prog 177 #[.slice ao l.length cap] w fun e w' => e = .returned (bV r) ∧ w' = w := by
 subst hr
 exact rsound_any cap h hl
theorem vy {w : World} {ao bo : Option Addr} {l1 l2 : List Nat} (ca cb : Nat) (ha : Rd w ao l1) (hb : Rd w bo l2) (h1 : l1.length ≤ 9223372036854775807) (h2 : l2.length ≤ 9223372036854775807) {r : Bool} (hr : decide (l1 = l2) = r) :
  Calls Tryz.prog 144 #[.slice ao l1.length ca, .slice bo l2.length cb] w fun e w' => e = .returned (bV r) ∧ Below w.heap.size w w' := by
 subst hr
 exact zfi ca cb ha hb h1 h2
theorem qpf {b : Bool} {t q : List Nat} (h : (sound t && sound q) = false) : ym b t q = false := by
 unfold ym qij
 rw [if_neg (by rw [h]; simp)]
 simp
theorem BiC_is1_22 : Is1 Tryz.prog 22 := ⟨⟨_, Tryz.underlying22, rfl⟩, by kernel_rfl⟩
theorem BiC_is1_4 : Is1 Tryz.prog 4 := ⟨⟨_, Tryz.underlying4, rfl⟩, by kernel_rfl⟩
theorem BiC_fld_24_0 : FieldAt Tryz.prog 24 0 0 := ⟨_, _, Tryz.underlying24, rfl, rfl, by kernel_rfl⟩
theorem BiC_fld_24_1 : FieldAt Tryz.prog 24 1 1 := ⟨_, _, Tryz.underlying24, rfl, rfl, by kernel_rfl⟩
theorem BiC_fld_24_2 : FieldAt Tryz.prog 24 2 2 := ⟨_, _, Tryz.underlying24, rfl, rfl, by kernel_rfl⟩
theorem BiC_fld_26_0 : FieldAt Tryz.prog 26 0 0 := ⟨_, _, Tryz.underlying26, rfl, rfl, by kernel_rfl⟩
theorem BiC_fld_26_1 : FieldAt Tryz.prog 26 1 3 := ⟨_, _, Tryz.underlying26, rfl, rfl, by kernel_rfl⟩
theorem BiC_isS_24 : IsS Tryz.prog 24 3 := ⟨⟨_, Tryz.underlying24⟩, by kernel_rfl⟩
theorem BiC_isS_26 : IsS Tryz.prog 26 6 := ⟨⟨_, Tryz.underlying26⟩, by kernel_rfl⟩
theorem qnb {w : World} {b : Bool} {x y : Nat} {a1 a2 : Option Addr} {ac1 ac2 : Nat} (ha1 : Sc w a1 ac1 (words x)) (ha2 : Sc w a2 ac2 (words y)) (hx : (words x).length ≤ 512) (hy : (words y).length ≤ 512) {r : Bool} (hr : ym b (words x) (words y) = r) :
  Calls Tryz.prog 142 #[.agg #[bV b, .slice a1 (words x).length ac1, .slice a2 (words y).length ac2]] w fun e w' => e = .returned (bV r) ∧ Below w.heap.size w w' := by
 have hg9 : (words (Nat.gcd x y)).length ≤ 9223372036854775807 := by
  by_cases h : x = 0
  ·
   subst h; rw [Nat.gcd_zero_left]; omega
  ·
   have := words_mono (Nat.gcd_le_left y (Nat.pos_of_ne_zero h)); omega
 cases b
 ·
  have S : St w w [] [(a2, words y), (a1, words x)] [] := ((St.start w).addR ha1.rd).addR ha2.rd
  refine qx (l := [(0, .agg #[bV false, .slice a1 ((words x).length) ac1, .slice a2 ((words y).length) ac2])]) Tryz.func142 rfl Tryz.ntmps142 rfl rfl ?_
  intro Q hret hnorm hP a A
  refine wsk fun K1 hK1 => wrl (jq A S rfl rfl rfl pg (zd rfl rfl) rfl ?_)
  intro g2 w3 S a A
  refine sda A λa A↦?_
  refine qa (hK1 _ _ (wsk fun K4 hK4 => wsk fun K5 hK5 => wrl (sdo (v := pA g2 1) A (qf BiC_fld_24_1 rfl rfl) λa A↦?_)))
  refine sdo A (qn S BiC_is1_22 rfl 0 rfl rfl) λa A↦?_
  refine sct A (ef rfl rfl) (vx _ (S.rd 1 rfl) (by omega) (xj hx)) ?_
  rintro _ w7 ⟨rfl, hb6⟩
  replace hb6 := xb hb6
  replace S := S.call hb6
  refine ⟨_, rfl, ?_⟩
  intro a A
  refine sdo (v := bV false) A (ql rfl qp) λa A↦?_
  refine sdm A λa A↦?_
  refine sdo (v := pA g2 2) A (qf BiC_fld_24_2 rfl rfl) λa A↦?_
  refine sdo A (qn S BiC_is1_22 rfl 0 rfl rfl) λa A↦?_
  refine sct A (ef rfl rfl) (vx _ (S.rd 0 rfl) (by omega) (xj hy)) ?_
  rintro _ w9 ⟨rfl, hb8⟩
  replace hb8 := xb hb8
  replace S := S.call hb8
  refine ⟨_, rfl, ?_⟩
  intro a A
  refine sdo (v := bV false) A (ql rfl qp) λa A↦?_
  refine sdk (v := bV false) A λa A↦?_
  refine sdm A λa A↦?_
  refine sdo (v := pA g2 2) A (qf BiC_fld_24_2 rfl rfl) λa A↦?_
  refine sdo A (qn S BiC_is1_22 rfl 0 rfl rfl) λa A↦?_
  refine sdo A (qy Tryz.underlying22 rfl) λa A↦?_
  rcases tf (((((words y).length : Nat) : Int) == 0)) with hb10 | hb10
  ·
   have hb10' := eq_of_beq hb10
   refine sdc A qt hb10 λa A↦?_
   refine sdk (v := bV true) A λa A↦?_
   refine qa (hK5 _ _ (ct A ?_))
   refine wsk fun K11 hK11 => wrl (sda A λa A↦?_)
   refine qa (hK11 _ _ (wr1 hret A ?_))
   subst hr
   have ey : decide ((words y).length = 0) = true := decide_eq_true (by omega)
   exact ⟨by rw [xy hx hy, ey]; simp, S.bel⟩
  ·
   have hb10' := ne_of_beq_false hb10
   refine sdc A qt hb10 λa A↦?_
   refine sdk (v := bV false) A λa A↦?_
   refine qa (hK5 _ _ (cf A ?_))
   refine wp_skip (hK4 _ _ (wsk fun K12 hK12 => wsk fun K13 hK13 => wrl (sdo (v := pA g2 1) A (qf BiC_fld_24_1 rfl rfl) λa A↦?_)))
   refine sdo A (qn S BiC_is1_22 rfl 0 rfl rfl) λa A↦?_
   refine sdo A (qy Tryz.underlying22 rfl) λa A↦?_
   rcases tf (((((words x).length : Nat) : Int) == 0)) with hb14 | hb14
   ·
    have hb14' := eq_of_beq hb14
    refine sdc A qt hb14 λa A↦?_
    refine sdm A λa A↦?_
    refine sdo (v := pA g2 0) A (qf BiC_fld_24_0 rfl rfl) λa A↦?_
    refine sdo A (qn S BiC_is1_4 rfl 0 rfl rfl) λa A↦?_
    refine sdk (v := bV false) A λa A↦?_
    refine qa (hK13 _ _ (cf A ?_))
    refine wp_skip (hK12 _ _ (wsk fun K15 hK15 => wrl (sdo (v := pA g2 1) A (qf BiC_fld_24_1 rfl rfl) λa A↦?_)))
    refine sdo A (qn S BiC_is1_22 rfl 0 rfl rfl) λa A↦?_
    refine sdo (v := pA g2 2) A (qf BiC_fld_24_2 rfl rfl) λa A↦?_
    refine sdo A (qn S BiC_is1_22 rfl 0 rfl rfl) λa A↦?_
    refine sct A (ef rfl rfl) (ux ac1 ac2 (S.rd 1 rfl) (S.rd 0 rfl) (by omega) (by omega) ha1.cap ha2.cap ha1.nil ha2.nil) ?_
    rintro _ w20 ⟨ro16, rc17, rfl, ho18, hb19⟩
    replace S := S.call hb19
    replace S := S.addR ho18.rd
    refine ⟨_, rfl, ?_⟩
    intro a A
    refine qeb (us := [1]) (t := 161) (m := 1) A S rfl rfl rfl (zp rfl (by kernel_rfl)) (by simp [Dig]) ?_
    intro g21 w22 S a A
    rcases tf (decide (words (Nat.gcd x y) = [1])) with hb23 | hb23
    ·
     have hb23' := of_decide_eq_true hb23
     refine sct A (ef rfl rfl) (vy _ _ (S.rd 1 rfl) (S.rd 0 rfl) (by first | assumption | exact hg9 | decide) (by first | assumption | decide) hb23) ?_
     rintro _ w25 ⟨rfl, hb24⟩
     replace S := S.call hb24
     refine ⟨_, rfl, ?_⟩
     intro a A
     refine sda A λa A↦?_
     refine qa (hK15 _ _ (wr1 hret A ?_))
     subst hr
     have ey : decide ((words y).length = 0) = false := decide_eq_false (by omega)
     have ex : decide ((words x).length = 0) = true := decide_eq_true (by omega)
     exact ⟨by rw [xy hx hy, ey, ex, hb23]; simp, S.bel⟩
    ·
     have hb23' := of_decide_eq_false hb23
     refine sct A (ef rfl rfl) (vy _ _ (S.rd 1 rfl) (S.rd 0 rfl) (by first | assumption | exact hg9 | decide) (by first | assumption | decide) hb23) ?_
     rintro _ w27 ⟨rfl, hb26⟩
     replace S := S.call hb26
     refine ⟨_, rfl, ?_⟩
     intro a A
     refine sda A λa A↦?_
     refine qa (hK15 _ _ (wr1 hret A ?_))
     subst hr
     have ey : decide ((words y).length = 0) = false := decide_eq_false (by omega)
     have ex : decide ((words x).length = 0) = true := decide_eq_true (by omega)
     exact ⟨by rw [xy hx hy, ey, ex, hb23]; simp, S.bel⟩
   ·
    have hb14' := ne_of_beq_false hb14
    refine sdc A qt hb14 λa A↦?_
    refine sdm A λa A↦?_
    iterate 2 refine qm A rfl rfl rfl λa A↦?_
    refine sdk (v := bV false) A λa A↦?_
    refine qa (hK13 _ _ (cf A ?_))
    refine wp_skip (hK12 _ _ (wsk fun K28 hK28 => wrl (sdo (v := pA g2 1) A (qf BiC_fld_24_1 rfl rfl) λa A↦?_)))
    refine sdo A (qn S BiC_is1_22 rfl 0 rfl rfl) λa A↦?_
    refine sdo (v := pA g2 2) A (qf BiC_fld_24_2 rfl rfl) λa A↦?_
    refine sdo A (qn S BiC_is1_22 rfl 0 rfl rfl) λa A↦?_
    refine sct A (ef rfl rfl) (ux ac1 ac2 (S.rd 1 rfl) (S.rd 0 rfl) (by omega) (by omega) ha1.cap ha2.cap ha1.nil ha2.nil) ?_
    rintro _ w33 ⟨ro29, rc30, rfl, ho31, hb32⟩
    replace S := S.call hb32
    replace S := S.addR ho31.rd
    refine ⟨_, rfl, ?_⟩
    intro a A
    refine qeb (us := [1]) (t := 161) (m := 1) A S rfl rfl rfl (zp rfl (by kernel_rfl)) (by simp [Dig]) ?_
    intro g34 w35 S a A
    rcases tf (decide (words (Nat.gcd x y) = [1])) with hb36 | hb36
    ·
     have hb36' := of_decide_eq_true hb36
     refine sct A (ef rfl rfl) (vy _ _ (S.rd 1 rfl) (S.rd 0 rfl) (by first | assumption | exact hg9 | decide) (by first | assumption | decide) hb36) ?_
     rintro _ w38 ⟨rfl, hb37⟩
     replace S := S.call hb37
     refine ⟨_, rfl, ?_⟩
     intro a A
     refine sda A λa A↦?_
     refine qa (hK28 _ _ (wr1 hret A ?_))
     subst hr
     have ey : decide ((words y).length = 0) = false := decide_eq_false (by omega)
     have ex : decide ((words x).length = 0) = false := decide_eq_false (by omega)
     exact ⟨by rw [xy hx hy, ey, ex, hb36]; simp, S.bel⟩
    ·
     have hb36' := of_decide_eq_false hb36
     refine sct A (ef rfl rfl) (vy _ _ (S.rd 1 rfl) (S.rd 0 rfl) (by first | assumption | exact hg9 | decide) (by first | assumption | decide) hb36) ?_
     rintro _ w40 ⟨rfl, hb39⟩
     replace S := S.call hb39
     refine ⟨_, rfl, ?_⟩
     intro a A
     refine sda A λa A↦?_
     refine qa (hK28 _ _ (wr1 hret A ?_))
     subst hr
     have ey : decide ((words y).length = 0) = false := decide_eq_false (by omega)
     have ex : decide ((words x).length = 0) = false := decide_eq_false (by omega)
     exact ⟨by rw [xy hx hy, ey, ex, hb36]; simp, S.bel⟩
 ·
  have S : St w w [] [(a2, words y), (a1, words x)] [] := ((St.start w).addR ha1.rd).addR ha2.rd
  refine qx (l := [(0, .agg #[bV true, .slice a1 ((words x).length) ac1, .slice a2 ((words y).length) ac2])]) Tryz.func142 rfl Tryz.ntmps142 rfl rfl ?_
  intro Q hret hnorm hP a A
  refine wsk fun K1 hK1 => wrl (jq A S rfl rfl rfl pg (zd rfl rfl) rfl ?_)
  intro g2 w3 S a A
  refine sda A λa A↦?_
  refine qa (hK1 _ _ (wsk fun K4 hK4 => wsk fun K5 hK5 => wrl (sdo (v := pA g2 1) A (qf BiC_fld_24_1 rfl rfl) λa A↦?_)))
  refine sdo A (qn S BiC_is1_22 rfl 0 rfl rfl) λa A↦?_
  refine sct A (ef rfl rfl) (vx _ (S.rd 1 rfl) (by omega) (xj hx)) ?_
  rintro _ w7 ⟨rfl, hb6⟩
  replace hb6 := xb hb6
  replace S := S.call hb6
  refine ⟨_, rfl, ?_⟩
  intro a A
  refine sdo (v := bV false) A (ql rfl qp) λa A↦?_
  refine sdm A λa A↦?_
  refine sdo (v := pA g2 2) A (qf BiC_fld_24_2 rfl rfl) λa A↦?_
  refine sdo A (qn S BiC_is1_22 rfl 0 rfl rfl) λa A↦?_
  refine sct A (ef rfl rfl) (vx _ (S.rd 0 rfl) (by omega) (xj hy)) ?_
  rintro _ w9 ⟨rfl, hb8⟩
  replace hb8 := xb hb8
  replace S := S.call hb8
  refine ⟨_, rfl, ?_⟩
  intro a A
  refine sdo (v := bV false) A (ql rfl qp) λa A↦?_
  refine sdk (v := bV false) A λa A↦?_
  refine sdm A λa A↦?_
  refine sdo (v := pA g2 2) A (qf BiC_fld_24_2 rfl rfl) λa A↦?_
  refine sdo A (qn S BiC_is1_22 rfl 0 rfl rfl) λa A↦?_
  refine sdo A (qy Tryz.underlying22 rfl) λa A↦?_
  rcases tf (((((words y).length : Nat) : Int) == 0)) with hb10 | hb10
  ·
   have hb10' := eq_of_beq hb10
   refine sdc A qt hb10 λa A↦?_
   refine sdk (v := bV true) A λa A↦?_
   refine qa (hK5 _ _ (ct A ?_))
   refine wsk fun K11 hK11 => wrl (sda A λa A↦?_)
   refine qa (hK11 _ _ (wr1 hret A ?_))
   subst hr
   have ey : decide ((words y).length = 0) = true := decide_eq_true (by omega)
   exact ⟨by rw [xy hx hy, ey]; simp, S.bel⟩
  ·
   have hb10' := ne_of_beq_false hb10
   refine sdc A qt hb10 λa A↦?_
   refine sdk (v := bV false) A λa A↦?_
   refine qa (hK5 _ _ (cf A ?_))
   refine wp_skip (hK4 _ _ (wsk fun K12 hK12 => wsk fun K13 hK13 => wrl (sdo (v := pA g2 1) A (qf BiC_fld_24_1 rfl rfl) λa A↦?_)))
   refine sdo A (qn S BiC_is1_22 rfl 0 rfl rfl) λa A↦?_
   refine sdo A (qy Tryz.underlying22 rfl) λa A↦?_
   rcases tf (((((words x).length : Nat) : Int) == 0)) with hb14 | hb14
   ·
    have hb14' := eq_of_beq hb14
    refine sdc A qt hb14 λa A↦?_
    refine sdm A λa A↦?_
    refine sdo (v := pA g2 0) A (qf BiC_fld_24_0 rfl rfl) λa A↦?_
    refine sdo A (qn S BiC_is1_4 rfl 0 rfl rfl) λa A↦?_
    refine sdk (v := bV true) A λa A↦?_
    refine qa (hK13 _ _ (ct A ?_))
    refine wsk fun K15 hK15 => wrl (sda A λa A↦?_)
    refine qa (hK15 _ _ (wr1 hret A ?_))
    subst hr
    have ey : decide ((words y).length = 0) = false := decide_eq_false (by omega)
    have ex : decide ((words x).length = 0) = true := decide_eq_true (by omega)
    exact ⟨by rw [xy hx hy, ey, ex]; simp, S.bel⟩
   ·
    have hb14' := ne_of_beq_false hb14
    refine sdc A qt hb14 λa A↦?_
    refine sdm A λa A↦?_
    iterate 2 refine qm A rfl rfl rfl λa A↦?_
    refine sdk (v := bV false) A λa A↦?_
    refine qa (hK13 _ _ (cf A ?_))
    refine wp_skip (hK12 _ _ (wsk fun K16 hK16 => wrl (sdo (v := pA g2 1) A (qf BiC_fld_24_1 rfl rfl) λa A↦?_)))
    refine sdo A (qn S BiC_is1_22 rfl 0 rfl rfl) λa A↦?_
    refine sdo (v := pA g2 2) A (qf BiC_fld_24_2 rfl rfl) λa A↦?_
    refine sdo A (qn S BiC_is1_22 rfl 0 rfl rfl) λa A↦?_
    refine sct A (ef rfl rfl) (ux ac1 ac2 (S.rd 1 rfl) (S.rd 0 rfl) (by omega) (by omega) ha1.cap ha2.cap ha1.nil ha2.nil) ?_
    rintro _ w21 ⟨ro17, rc18, rfl, ho19, hb20⟩
    replace S := S.call hb20
    replace S := S.addR ho19.rd
    refine ⟨_, rfl, ?_⟩
    intro a A
    refine qeb (us := [1]) (t := 161) (m := 1) A S rfl rfl rfl (zp rfl (by kernel_rfl)) (by simp [Dig]) ?_
    intro g22 w23 S a A
    rcases tf (decide (words (Nat.gcd x y) = [1])) with hb24 | hb24
    ·
     have hb24' := of_decide_eq_true hb24
     refine sct A (ef rfl rfl) (vy _ _ (S.rd 1 rfl) (S.rd 0 rfl) (by first | assumption | exact hg9 | decide) (by first | assumption | decide) hb24) ?_
     rintro _ w26 ⟨rfl, hb25⟩
     replace S := S.call hb25
     refine ⟨_, rfl, ?_⟩
     intro a A
     refine sda A λa A↦?_
     refine qa (hK16 _ _ (wr1 hret A ?_))
     subst hr
     have ey : decide ((words y).length = 0) = false := decide_eq_false (by omega)
     have ex : decide ((words x).length = 0) = false := decide_eq_false (by omega)
     exact ⟨by rw [xy hx hy, ey, ex, hb24]; simp, S.bel⟩
    ·
     have hb24' := of_decide_eq_false hb24
     refine sct A (ef rfl rfl) (vy _ _ (S.rd 1 rfl) (S.rd 0 rfl) (by first | assumption | exact hg9 | decide) (by first | assumption | decide) hb24) ?_
     rintro _ w28 ⟨rfl, hb27⟩
     replace S := S.call hb27
     refine ⟨_, rfl, ?_⟩
     intro a A
     refine sda A λa A↦?_
     refine qa (hK16 _ _ (wr1 hret A ?_))
     subst hr
     have ey : decide ((words y).length = 0) = false := decide_eq_false (by omega)
     have ex : decide ((words x).length = 0) = false := decide_eq_false (by omega)
     exact ⟨by rw [xy hx hy, ey, ex, hb24]; simp, S.bel⟩
theorem qnc {w : World} {b : Bool} {t q : List Nat} {a1 a2 : Option Addr} {ac1 ac2 : Nat} (ha1 : Sc w a1 ac1 t) (ha2 : Sc w a2 ac2 q) (l1 : t.length ≤ 9223372036854775807) (l2 : q.length ≤ 9223372036854775807) (ht : sound t = false) :
  Calls Tryz.prog 142 #[.agg #[bV b, .slice a1 t.length ac1, .slice a2 q.length ac2]] w fun e w' => e = .returned (bV false) ∧ Below w.heap.size w w' := by
 have S : St w w [] [(a2, q), (a1, t)] [] := ((St.start w).addR ha1.rd).addR ha2.rd
 refine qx (l := [(0, .agg #[bV b, .slice a1 t.length ac1, .slice a2 q.length ac2])]) Tryz.func142 rfl Tryz.ntmps142 rfl rfl ?_
 intro Q hret hnorm hP a A
 refine wsk fun K1 hK1 => wrl (jq A S rfl rfl rfl pg (zd rfl rfl) rfl ?_)
 intro g2 w3 S a A
 refine sda A λa A↦?_
 refine qa (hK1 _ _ (wsk fun K4 hK4 => wsk fun K5 hK5 => wrl (sdo (v := pA g2 1) A (qf BiC_fld_24_1 rfl rfl) λa A↦?_)))
 refine sdo A (qn S BiC_is1_22 rfl 0 rfl rfl) λa A↦?_
 refine sct A (ef rfl rfl) (vx _ (S.rd 1 rfl) l1 ht) ?_
 rintro _ w7 ⟨rfl, hb6⟩
 replace hb6 := xb hb6
 replace S := S.call hb6
 refine ⟨_, rfl, ?_⟩
 intro a A
 refine sdo (v := bV true) A (ql rfl qp) λa A↦?_
 refine sdm A λa A↦?_
 iterate 4 refine qm A rfl rfl rfl λa A↦?_
 refine sdk (v := bV true) A λa A↦?_
 refine sdm A λa A↦?_
 iterate 4 refine qm A rfl rfl rfl λa A↦?_
 refine sdk (v := bV true) A λa A↦?_
 refine qa (hK5 _ _ (ct A ?_))
 refine wsk fun K8 hK8 => wrl (sda A λa A↦?_)
 refine qa (hK8 _ _ (wr1 hret A ?_))
 exact ⟨rfl, S.bel⟩
theorem qnd {w : World} {b : Bool} {t q : List Nat} {a1 a2 : Option Addr} {ac1 ac2 : Nat} (ha1 : Sc w a1 ac1 t) (ha2 : Sc w a2 ac2 q) (l1 : t.length ≤ 9223372036854775807) (l2 : q.length ≤ 9223372036854775807) (ht : sound t = true) (hq : sound q = false) :
  Calls Tryz.prog 142 #[.agg #[bV b, .slice a1 t.length ac1, .slice a2 q.length ac2]] w fun e w' => e = .returned (bV false) ∧ Below w.heap.size w w' := by
 have S : St w w [] [(a2, q), (a1, t)] [] := ((St.start w).addR ha1.rd).addR ha2.rd
 refine qx (l := [(0, .agg #[bV b, .slice a1 t.length ac1, .slice a2 q.length ac2])]) Tryz.func142 rfl Tryz.ntmps142 rfl rfl ?_
 intro Q hret hnorm hP a A
 refine wsk fun K1 hK1 => wrl (jq A S rfl rfl rfl pg (zd rfl rfl) rfl ?_)
 intro g2 w3 S a A
 refine sda A λa A↦?_
 refine qa (hK1 _ _ (wsk fun K4 hK4 => wsk fun K5 hK5 => wrl (sdo (v := pA g2 1) A (qf BiC_fld_24_1 rfl rfl) λa A↦?_)))
 refine sdo A (qn S BiC_is1_22 rfl 0 rfl rfl) λa A↦?_
 refine sct A (ef rfl rfl) (vx _ (S.rd 1 rfl) l1 ht) ?_
 rintro _ w7 ⟨rfl, hb6⟩
 replace hb6 := xb hb6
 replace S := S.call hb6
 refine ⟨_, rfl, ?_⟩
 intro a A
 refine sdo (v := bV false) A (ql rfl qp) λa A↦?_
 refine sdm A λa A↦?_
 refine sdo (v := pA g2 2) A (qf BiC_fld_24_2 rfl rfl) λa A↦?_
 refine sdo A (qn S BiC_is1_22 rfl 0 rfl rfl) λa A↦?_
 refine sct A (ef rfl rfl) (vx _ (S.rd 0 rfl) l2 hq) ?_
 rintro _ w9 ⟨rfl, hb8⟩
 replace hb8 := xb hb8
 replace S := S.call hb8
 refine ⟨_, rfl, ?_⟩
 intro a A
 refine sdo (v := bV true) A (ql rfl qp) λa A↦?_
 refine sdk (v := bV true) A λa A↦?_
 refine sdm A λa A↦?_
 iterate 4 refine qm A rfl rfl rfl λa A↦?_
 refine sdk (v := bV true) A λa A↦?_
 refine qa (hK5 _ _ (ct A ?_))
 refine wsk fun K10 hK10 => wrl (sda A λa A↦?_)
 refine qa (hK10 _ _ (wr1 hret A ?_))
 exact ⟨rfl, S.bel⟩
theorem yu {w : World} {b : Bool} {t q : List Nat} {a1 a2 : Option Addr} {ac1 ac2 : Nat} (ha1 : Sc w a1 ac1 t) (ha2 : Sc w a2 ac2 q) (l1 : t.length ≤ 9223372036854775807) (l2 : q.length ≤ 9223372036854775807) {r : Bool} (hr : ym b t q = r) :
  Calls Tryz.prog 142 #[.agg #[bV b, .slice a1 t.length ac1, .slice a2 q.length ac2]] w fun e w' => e = .returned (bV r) ∧ Below w.heap.size w w' := by
 cases ht : sound t with
 | false =>
  rw [qpf (by rw [ht]; rfl)] at hr
  subst hr
  exact qnc ha1 ha2 l1 l2 ht
 | true =>
  cases hq : sound q with
  | false =>
   rw [qpf (by rw [ht, hq]; rfl)] at hr
   subst hr
   exact qnd ha1 ha2 l1 l2 ht hq
  | true =>
   obtain ⟨e1, k1⟩ := sound_words ha1.rd.dig ht
   obtain ⟨e2, k2⟩ := sound_words ha2.rd.dig hq
   generalize val t = x at e1
   generalize val q = y at e2
   subst e1 e2
   exact qnb ha1 ha2 k1 k2 hr
theorem jy {w : World} {q : Q6} {a1 a2 a3 a4 : Option Addr} {ac1 ac2 ac3 ac4 : Nat} (ha : Nm w q a1 ac1 a2 ac2 a3 ac3 a4 ac4) (hl : LenQ q) {r : Bool} (hr : jp q = r) : Calls Tryz.prog 100 #[yt q a1 ac1 a2 ac2 a3 ac3 a4 ac4] w fun e w' => e = .returned (bV r) ∧ Below w.heap.size w w' := by
 have S : St w w [] [(a4, q.q2), (a3, q.t2), (a2, q.q1), (a1, q.t1)] [] := ((((St.start w).addR ha.s1.rd).addR ha.s2.rd).addR ha.s3.rd).addR ha.s4.rd
 refine qx (l := [(0, .agg #[bV q.b1, .slice a1 q.t1.length ac1, .slice a2 q.q1.length ac2, bV q.b2, .slice a3 q.t2.length ac3, .slice a4 q.q2.length ac4])]) Tryz.func100 rfl Tryz.ntmps100 rfl rfl ?_
 intro Q hret hnorm hP a A
 refine wsk fun K1 hK1 => wrl (jq A S rfl rfl rfl pg (zd rfl rfl) rfl ?_)
 intro g2 w3 S a A
 refine sda A λa A↦?_
 refine qa (hK1 _ _ (wsk fun K4 hK4 => wrl (sdo (v := pA g2 0) A (qf BiC_fld_26_0 rfl rfl) λa A↦?_)))
 refine sdo A (zj S BiC_isS_24 rfl 0 rfl (cs := [bV q.b1, .slice a1 q.t1.length ac1, .slice a2 q.q1.length ac2]) rfl rfl) λa A↦?_
 rcases tf (ym q.b1 q.t1 q.q1) with hb5 | hb5
 ·
  refine sct A (ef rfl rfl) (yu ⟨(S.rd 3 rfl), ha.s1.nil, ha.s1.cap⟩ ⟨(S.rd 2 rfl), ha.s2.nil, ha.s2.cap⟩ hl.l1 hl.l2 hb5) ?_
  rintro _ w7 ⟨rfl, hb6⟩
  replace S := S.call hb6
  refine ⟨_, rfl, ?_⟩
  intro a A
  refine sdm A λa A↦?_
  refine sdo (v := pA g2 3) A (qf BiC_fld_26_1 rfl rfl) λa A↦?_
  refine sdo A (zj S BiC_isS_24 rfl 0 rfl (cs := [bV q.b2, .slice a3 q.t2.length ac3, .slice a4 q.q2.length ac4]) rfl rfl) λa A↦?_
  rcases tf (ym q.b2 q.t2 q.q2) with hb8 | hb8
  ·
   refine sct A (ef rfl rfl) (yu ⟨(S.rd 1 rfl), ha.s3.nil, ha.s3.cap⟩ ⟨(S.rd 0 rfl), ha.s4.nil, ha.s4.cap⟩ hl.l3 hl.l4 hb8) ?_
   rintro _ w10 ⟨rfl, hb9⟩
   replace S := S.call hb9
   refine ⟨_, rfl, ?_⟩
   intro a A
   refine sdk (v := bV true) A λa A↦?_
   refine sda A λa A↦?_
   refine qa (hK4 _ _ (wr1 hret A ?_))
   subst hr
   exact ⟨by unfold jp qda; rw [hb5, hb8]; try rfl, S.bel⟩
  ·
   refine sct A (ef rfl rfl) (yu ⟨(S.rd 1 rfl), ha.s3.nil, ha.s3.cap⟩ ⟨(S.rd 0 rfl), ha.s4.nil, ha.s4.cap⟩ hl.l3 hl.l4 hb8) ?_
   rintro _ w12 ⟨rfl, hb11⟩
   replace S := S.call hb11
   refine ⟨_, rfl, ?_⟩
   intro a A
   refine sdk (v := bV false) A λa A↦?_
   refine sda A λa A↦?_
   refine qa (hK4 _ _ (wr1 hret A ?_))
   subst hr
   exact ⟨by unfold jp qda; rw [hb5, hb8]; try rfl, S.bel⟩
 ·
  refine sct A (ef rfl rfl) (yu ⟨(S.rd 3 rfl), ha.s1.nil, ha.s1.cap⟩ ⟨(S.rd 2 rfl), ha.s2.nil, ha.s2.cap⟩ hl.l1 hl.l2 hb5) ?_
  rintro _ w14 ⟨rfl, hb13⟩
  replace S := S.call hb13
  refine ⟨_, rfl, ?_⟩
  intro a A
  refine sdm A λa A↦?_
  iterate 3 refine qm A rfl rfl rfl λa A↦?_
  refine sdk (v := bV false) A λa A↦?_
  refine sda A λa A↦?_
  refine qa (hK4 _ _ (wr1 hret A ?_))
  subst hr
  exact ⟨by unfold jp qda; rw [hb5]; try rfl, S.bel⟩
theorem qka {w : World} {q : Q6} {a1 a2 a3 a4 : Option Addr} {ac1 ac2 ac3 ac4 : Nat} (ha : Nm w q a1 ac1 a2 ac2 a3 ac3 a4 ac4) (hl : LenQ q) {r : Bool} (hr : decide (q.t2.length = 0) = r) : Calls Tryz.prog 143 #[yt q a1 ac1 a2 ac2 a3 ac3 a4 ac4] w fun e w' => e = .returned (bV r) ∧ Below w.heap.size w w' := by
 have S : St w w [] [(a4, q.q2), (a3, q.t2), (a2, q.q1), (a1, q.t1)] [] := ((((St.start w).addR ha.s1.rd).addR ha.s2.rd).addR ha.s3.rd).addR ha.s4.rd
 refine qx (l := [(0, .agg #[bV q.b1, .slice a1 q.t1.length ac1, .slice a2 q.q1.length ac2, bV q.b2, .slice a3 q.t2.length ac3, .slice a4 q.q2.length ac4])]) Tryz.func143 rfl Tryz.ntmps143 rfl rfl ?_
 intro Q hret hnorm hP a A
 refine wsk fun K1 hK1 => wrl (jq A S rfl rfl rfl pg (zd rfl rfl) rfl ?_)
 intro g2 w3 S a A
 refine sda A λa A↦?_
 refine qa (hK1 _ _ (wsk fun K4 hK4 => wrl (sdo (v := pA g2 3) A (qf BiC_fld_26_1 rfl rfl) λa A↦?_)))
 refine sdo (v := pA g2 4) A (qf BiC_fld_24_1 rfl rfl) λa A↦?_
 refine sdo A (qn S BiC_is1_22 rfl 0 rfl rfl) λa A↦?_
 refine sdo A (qy Tryz.underlying22 rfl) λa A↦?_
 rcases tf ((((q.t2.length : Nat) : Int) == 0)) with hb5 | hb5
 ·
  have hb5' := eq_of_beq hb5
  refine sdc A qt hb5 λa A↦?_
  refine sda A λa A↦?_
  refine qa (hK4 _ _ (wr1 hret A ?_))
  subst hr
  exact ⟨by rw [show decide (q.t2.length = 0) = true from decide_eq_true (by omega)], S.bel⟩
 ·
  have hb5' := ne_of_beq_false hb5
  refine sdc A qt hb5 λa A↦?_
  refine sda A λa A↦?_
  refine qa (hK4 _ _ (wr1 hret A ?_))
  subst hr
  exact ⟨by rw [show decide (q.t2.length = 0) = false from decide_eq_false (by omega)], S.bel⟩
theorem xz {w : World} {q : Q6} {a1 a2 a3 a4 : Option Addr} {ac1 ac2 ac3 ac4 : Nat} (ha : Nm w q a1 ac1 a2 ac2 a3 ac3 a4 ac4) (hl : LenQ q) {r : Bool} (hr : xq q = r) : Calls Tryz.prog 101 #[yt q a1 ac1 a2 ac2 a3 ac3 a4 ac4] w fun e w' => e = .returned (bV r) ∧ Below w.heap.size w w' := by
 have S : St w w [] [(a4, q.q2), (a3, q.t2), (a2, q.q1), (a1, q.t1)] [] := ((((St.start w).addR ha.s1.rd).addR ha.s2.rd).addR ha.s3.rd).addR ha.s4.rd
 refine qx (l := [(0, .agg #[bV q.b1, .slice a1 q.t1.length ac1, .slice a2 q.q1.length ac2, bV q.b2, .slice a3 q.t2.length ac3, .slice a4 q.q2.length ac4])]) Tryz.func101 rfl Tryz.ntmps101 rfl rfl ?_
 intro Q hret hnorm hP a A
 refine wsk fun K1 hK1 => wrl (jq A S rfl rfl rfl pg (zd rfl rfl) rfl ?_)
 intro g2 w3 S a A
 refine sda A λa A↦?_
 refine qa (hK1 _ _ (wsk fun K4 hK4 => wrl (sdo A (zj S BiC_isS_26 rfl 0 rfl (cs := [bV q.b1, .slice a1 q.t1.length ac1, .slice a2 q.q1.length ac2, bV q.b2, .slice a3 q.t2.length ac3, .slice a4 q.q2.length ac4]) rfl rfl) λa A↦?_)))
 rcases tf (jp q) with hb5 | hb5
 ·
  refine sct A (ef rfl rfl) (jy (show Nm _ _ a1 ac1 a2 ac2 a3 ac3 a4 ac4 from ⟨⟨(S.rd 3 rfl), ha.s1.nil, ha.s1.cap⟩, ⟨(S.rd 2 rfl), ha.s2.nil, ha.s2.cap⟩, ⟨(S.rd 1 rfl), ha.s3.nil, ha.s3.cap⟩, ⟨(S.rd 0 rfl), ha.s4.nil, ha.s4.cap⟩⟩) hl hb5) ?_
  rintro _ w7 ⟨rfl, hb6⟩
  replace S := S.call hb6
  refine ⟨_, rfl, ?_⟩
  intro a A
  refine sdm A λa A↦?_
  refine sdo A (zj S BiC_isS_26 rfl 0 rfl (cs := [bV q.b1, .slice a1 q.t1.length ac1, .slice a2 q.q1.length ac2, bV q.b2, .slice a3 q.t2.length ac3, .slice a4 q.q2.length ac4]) rfl rfl) λa A↦?_
  rcases tf (decide (q.t2.length = 0)) with hb8 | hb8
  ·
   have hb8' := of_decide_eq_true hb8
   refine sct A (ef rfl rfl) (qka (show Nm _ _ a1 ac1 a2 ac2 a3 ac3 a4 ac4 from ⟨⟨(S.rd 3 rfl), ha.s1.nil, ha.s1.cap⟩, ⟨(S.rd 2 rfl), ha.s2.nil, ha.s2.cap⟩, ⟨(S.rd 1 rfl), ha.s3.nil, ha.s3.cap⟩, ⟨(S.rd 0 rfl), ha.s4.nil, ha.s4.cap⟩⟩) hl hb8) ?_
   rintro _ w10 ⟨rfl, hb9⟩
   replace S := S.call hb9
   refine ⟨_, rfl, ?_⟩
   intro a A
   refine sdk (v := bV true) A λa A↦?_
   refine sdm A λa A↦?_
   refine sdo (v := pA g2 0) A (qf BiC_fld_26_0 rfl rfl) λa A↦?_
   refine sdo (v := pA g2 2) A (qf BiC_fld_24_2 rfl rfl) λa A↦?_
   refine sdo A (qn S BiC_is1_22 rfl 0 rfl rfl) λa A↦?_
   refine qeb (us := [1]) (t := 161) (m := 1) A S rfl rfl rfl (zp rfl (by kernel_rfl)) (by simp [Dig]) ?_
   intro g11 w12 S a A
   rcases tf (decide (q.q1 = [1])) with hb13 | hb13
   ·
    have hb13' := of_decide_eq_true hb13
    refine sct A (ef rfl rfl) (vy _ _ (S.rd 3 rfl) (S.rd 0 rfl) hl.l2 (by decide) hb13) ?_
    rintro _ w15 ⟨rfl, hb14⟩
    replace S := S.call hb14
    refine ⟨_, rfl, ?_⟩
    intro a A
    refine sdk (v := bV true) A λa A↦?_
    refine sda A λa A↦?_
    refine qa (hK4 _ _ (wr1 hret A ?_))
    subst hr
    exact ⟨by unfold xq; rw [hb5, hb8, hb13]; try rfl, S.bel⟩
   ·
    have hb13' := of_decide_eq_false hb13
    refine sct A (ef rfl rfl) (vy _ _ (S.rd 3 rfl) (S.rd 0 rfl) hl.l2 (by decide) hb13) ?_
    rintro _ w17 ⟨rfl, hb16⟩
    replace S := S.call hb16
    refine ⟨_, rfl, ?_⟩
    intro a A
    refine sdk (v := bV false) A λa A↦?_
    refine sda A λa A↦?_
    refine qa (hK4 _ _ (wr1 hret A ?_))
    subst hr
    exact ⟨by unfold xq; rw [hb5, hb8, hb13]; try rfl, S.bel⟩
  ·
   have hb8' := of_decide_eq_false hb8
   refine sct A (ef rfl rfl) (qka (show Nm _ _ a1 ac1 a2 ac2 a3 ac3 a4 ac4 from ⟨⟨(S.rd 3 rfl), ha.s1.nil, ha.s1.cap⟩, ⟨(S.rd 2 rfl), ha.s2.nil, ha.s2.cap⟩, ⟨(S.rd 1 rfl), ha.s3.nil, ha.s3.cap⟩, ⟨(S.rd 0 rfl), ha.s4.nil, ha.s4.cap⟩⟩) hl hb8) ?_
   rintro _ w19 ⟨rfl, hb18⟩
   replace S := S.call hb18
   refine ⟨_, rfl, ?_⟩
   intro a A
   refine sdk (v := bV false) A λa A↦?_
   refine sdm A λa A↦?_
   iterate 5 refine qm A rfl rfl rfl λa A↦?_
   refine sdk (v := bV false) A λa A↦?_
   refine sda A λa A↦?_
   refine qa (hK4 _ _ (wr1 hret A ?_))
   subst hr
   exact ⟨by unfold xq; rw [hb5, hb8]; try rfl, S.bel⟩
 ·
  refine sct A (ef rfl rfl) (jy (show Nm _ _ a1 ac1 a2 ac2 a3 ac3 a4 ac4 from ⟨⟨(S.rd 3 rfl), ha.s1.nil, ha.s1.cap⟩, ⟨(S.rd 2 rfl), ha.s2.nil, ha.s2.cap⟩, ⟨(S.rd 1 rfl), ha.s3.nil, ha.s3.cap⟩, ⟨(S.rd 0 rfl), ha.s4.nil, ha.s4.cap⟩⟩) hl hb5) ?_
  rintro _ w21 ⟨rfl, hb20⟩
  replace S := S.call hb20
  refine ⟨_, rfl, ?_⟩
  intro a A
  refine sdm A λa A↦?_
  iterate 2 refine qm A rfl rfl rfl λa A↦?_
  refine sdk (v := bV false) A λa A↦?_
  refine sdm A λa A↦?_
  iterate 5 refine qm A rfl rfl rfl λa A↦?_
  refine sdk (v := bV false) A λa A↦?_
  refine sda A λa A↦?_
  refine qa (hK4 _ _ (wr1 hret A ?_))
  subst hr
  exact ⟨by unfold xq; rw [hb5]; try rfl, S.bel⟩

def LenR (k : Nat) (r : Rat) : Prop := (words r.num.natAbs).length ≤ k ∧ (words r.den).length ≤ k
theorem LenR.mono {k m : Nat} {r : Rat} (h : LenR k r) (hk : k ≤ m) : LenR m r := ⟨Nat.le_trans h.1 hk, Nat.le_trans h.2 hk⟩
def qkb (b : Bool) (x : Nat) : Int × Int := if x ≤ 9223372036854775807 + b.toNat then (sgn b x, 0) else (0, 4)
def zu (q : Q6) : Int × Int := if jp q = true then (if xq q = true then qkb q.b1 (val q.t1) else (0, 10)) else (0, 2)
theorem qdf {q : Q6} (h : jp q = false) : zu q = (0, 2) := if_neg (by rw [h]; decide)
theorem qha {q : Q6} (h : jp q = true) (h1 : xq q = false) : zu q = (0, 10) := by
 unfold zu
 rw [if_pos h, if_neg (by rw [h1]; decide)]
theorem qwa {q : Q6} (h : xq q = true) : jp q = true := by
 unfold xq at h
 rw [Bool.and_eq_true] at h
 exact h.1
theorem qej {b : Bool} {x : Nat} (h : xq (Q6.whole b x) = true) : zu (Q6.whole b x) = qkb b x := by
 unfold zu
 rw [if_pos (qwa h), if_pos h]
 show qkb b (val (words x)) = _
 rw [val_words]
theorem uy {x : Nat} (h0 : x ≠ 0) (h : x < 4294967296) : words x = [x] := by
 rw [words_pos (by omega), show x / 4294967296 = 0 from by omega, words_zero, Nat.mod_eq_of_lt h]
theorem qfa {x : Nat} (h0 : 4294967296 ≤ x) (h : x < 18446744073709551616) : words x = [x % 4294967296, x / 4294967296] := by
 rw [words_pos (by omega), uy (by omega) (by omega)]
theorem qbh {x y : Nat} (hx : (words x).length ≤ 512) (hy : (words y).length ≤ 512) : cmpS (words x) (words y) = cmpN x y := by
 unfold cmpS
 simp only [xj hx, xj hy, val_words, Bool.and_self, if_true]
theorem zjf (x y : Nat) (hx : x < 9223372036854775808) (hy : y < 9223372036854775808) : bits .or .i64 (x : Int) (y : Int) = ((x ||| y : Nat) : Int) := by
 have h1 : x ||| y < 2 ^ 63 := Nat.or_lt_two_pow (n := 63) hx hy
 have h2 : (2 : Nat) ^ 63 = 9223372036854775808 := rfl
 have e : (BitVec.ofInt IntKind.i64.bits (x : Int) ||| BitVec.ofInt IntKind.i64.bits (y : Int)).toNat = x ||| y := by
  rw [BitVec.ofInt_natCast, BitVec.ofInt_natCast, BitVec.toNat_or, BitVec.toNat_ofNat, BitVec.toNat_ofNat]
  show x % 18446744073709551616 ||| y % 18446744073709551616 = _
  rw [Nat.mod_eq_of_lt (by omega), Nat.mod_eq_of_lt (by omega)]
 show IntKind.i64.wrap ((BitVec.ofInt IntKind.i64.bits (x : Int) ||| BitVec.ofInt IntKind.i64.bits (y : Int)).toNat : Int) = _
 rw [e]
 exact in_i64 (by omega) (by omega)
theorem qib {d : Nat} (h : d < 9223372036854775808) : bits .or .i64 0 ((d : Nat) : Int) = ((d : Nat) : Int) := by
 have := zjf 0 d (by decide) h
 rw [Nat.zero_or] at this
 exact this
theorem znd {d0 d1 : Nat} (h0 : d0 < 4294967296) (h1 : d1 < 2147483648) : bits .or .i64 ((d0 : Nat) : Int) ((d1 * 4294967296 : Nat) : Int) = ((d0 + d1 * 4294967296 : Nat) : Int) := by
 rw [zjf d0 (d1 * 4294967296) (by omega) (by omega)]
 have e : d0 ||| d1 * 4294967296 = d1 * 4294967296 + d0 := by
  have := Nat.two_pow_add_eq_or_of_lt (i := 32) (b := d0) h0 d1
  rw [show (2 : Nat) ^ 32 = 4294967296 from rfl] at this
  rw [Nat.or_comm, Nat.mul_comm, ← this]
 rw [e, Nat.add_comm]
theorem qfb {d : Nat} (h : d < 9223372036854775808) : IntKind.i64.wrap (((d : Nat) : Int) * 2 ^ 0) = ((d : Nat) : Int) := by
 rw [Int.pow_zero, Int.mul_one]
 exact in_i64 (by omega) (by omega)
theorem zgf {d : Nat} (h : d < 2147483648) : IntKind.i64.wrap (((d : Nat) : Int) * 2 ^ 32) = ((d * 4294967296 : Nat) : Int) := by
 rw [show ((2 : Int) ^ 32) = 4294967296 from rfl]
 rw [in_i64 (by omega) (by omega)]
 omega
theorem zef {d y : Nat} (h : d < 2147483648) (hy : d * 4294967296 = y) : IntKind.i64.wrap (((d : Nat) : Int) * 2 ^ 32) = ((y : Nat) : Int) := hy ▸ zgf h
theorem zra {d0 d1 y x : Nat} (h0 : d0 < 4294967296) (h1 : d1 < 2147483648) (hy : d1 * 4294967296 = y) (hx : d0 + y = x) : bits .or .i64 ((d0 : Nat) : Int) ((y : Nat) : Int) = ((x : Nat) : Int) := by
 subst hy hx
 exact znd h0 h1
theorem qbi {d : Nat} (h : d < 4294967296) : IntKind.i64.wrap ((d : Nat) : Int) = ((d : Nat) : Int) := in_i64 (by omega) (by omega)
theorem yf {d : Nat} (h : d < 4294967296) : IntKind.u64.wrap ((d : Nat) : Int) = ((d : Nat) : Int) := in_u64 (by omega) (by omega)












section
variable {P : Program} {l : List (Nat × Value)} {dst : Option Tmp} {ty t : TypeId} {pos : String} {after : Array Edge} {guard : Option (Nat × Bool)} {w : World} {x y : Operand}
end

section
variable {fop : Nat → Nat → Nat} {fb : Bool → Bool → Bool} {b1 b2 : Bool} {y1 y2 : Nat}
end
section
variable {P : Program} {t : TypeId} {a b : Operand} {x y : Nat}
end









section
variable {P : Program} {t : TypeId} {a b : Operand}
end
theorem SmA_is1_161 : Is1 Tryz.prog 161 := ⟨⟨_, Tryz.underlying161, rfl⟩, by kernel_rfl⟩
theorem SmA_is1_22 : Is1 Tryz.prog 22 := ⟨⟨_, Tryz.underlying22, rfl⟩, by kernel_rfl⟩
theorem SmA_is1_4 : Is1 Tryz.prog 4 := ⟨⟨_, Tryz.underlying4, rfl⟩, by kernel_rfl⟩
theorem SmA_fld_24_0 : FieldAt Tryz.prog 24 0 0 := ⟨_, _, Tryz.underlying24, rfl, rfl, by kernel_rfl⟩
theorem SmA_fld_24_1 : FieldAt Tryz.prog 24 1 1 := ⟨_, _, Tryz.underlying24, rfl, rfl, by kernel_rfl⟩
theorem SmA_fld_24_2 : FieldAt Tryz.prog 24 2 2 := ⟨_, _, Tryz.underlying24, rfl, rfl, by kernel_rfl⟩
theorem SmA_fld_26_0 : FieldAt Tryz.prog 26 0 0 := ⟨_, _, Tryz.underlying26, rfl, rfl, by kernel_rfl⟩
theorem SmA_isS_24 : IsS Tryz.prog 24 3 := ⟨⟨_, Tryz.underlying24⟩, by kernel_rfl⟩
theorem SmA_isS_26 : IsS Tryz.prog 26 6 := ⟨⟨_, Tryz.underlying26⟩, by kernel_rfl⟩
theorem qwd {w : World} {a1 a2 : Option Addr} {ac1 ac2 m2 : Nat}  (ha : Rd w a1 []) : Calls Tryz.prog 176 #[.agg #[bV false, .slice a1 0 ac1, .slice a2 m2 ac2]] w fun e w' => e = .returned (iV (sgn false (0))) ∧ Below w.heap.size w w' := by
 have V : St w w [] [(a1, [])] [] := (St.start w).addR ha
 refine qx (l := [(0, .agg #[bV false, .slice a1 0 ac1, .slice a2 m2 ac2])]) Tryz.func176 rfl Tryz.ntmps176 rfl rfl ?_
 intro Q hret hnorm hP a A
 refine wsk fun K1 hK1 => wrl (jq A V rfl rfl rfl pg (zd rfl rfl) rfl ?_)
 intro g2 w3 V a A
 refine sda A λa A↦?_
 refine qa (hK1 _ _ (wsk fun K4 hK4 => wrl (sda A λa A↦?_)))
 refine qa (hK4 _ _ (wsk fun K5 hK5 => wsk fun K6 hK6 => wrl (sdo (v := pA g2 1) A (qf SmA_fld_24_1 rfl rfl) λa A↦?_)))
 refine sdo A (qn V SmA_is1_22 rfl 0 rfl rfl) λa A↦?_
 refine sdo A (qy Tryz.underlying22 rfl) λa A↦?_
 refine sdm A λa A↦?_
 refine qa (hK6 _ _ (wp_block (wp_loop_rounds 12 ?_)))
 refine zt fun K7 hK7 => ?_
 refine wsk fun K8 hK8 => wrl (sdo (v := bV false) A dbK λa A↦?_)
 refine qa (hK8 _ _ (wsk fun K9 hK9 => wp_cond_false (A.ev rfl) ?_))
 refine wp_exit (hK5 _ _ (wsk fun K10 hK10 => wsk fun K11 hK11 => wrl (sdo (v := pA g2 0) A (qf SmA_fld_24_0 rfl rfl) λa A↦?_)))
 refine sdo A (qn V SmA_is1_4 rfl 0 rfl rfl) λa A↦?_
 refine qa (hK11 _ _ (cf A ?_))
 refine wp_skip (hK10 _ _ (wsk fun K12 hK12 => wrl (sdm A λa A↦?_)))
 refine sda A λa A↦?_
 refine qa (hK12 _ _ (wr1 hret A ?_))
 exact ⟨by first | rfl | (simp only [sgn]; rfl) | decide, V.bel⟩
theorem qwe {w : World} {a1 a2 : Option Addr} {ac1 ac2 m2 : Nat}  (ha : Rd w a1 []) : Calls Tryz.prog 176 #[.agg #[bV true, .slice a1 0 ac1, .slice a2 m2 ac2]] w fun e w' => e = .returned (iV (sgn true (0))) ∧ Below w.heap.size w w' := by
 have V : St w w [] [(a1, [])] [] := (St.start w).addR ha
 refine qx (l := [(0, .agg #[bV true, .slice a1 0 ac1, .slice a2 m2 ac2])]) Tryz.func176 rfl Tryz.ntmps176 rfl rfl ?_
 intro Q hret hnorm hP a A
 refine wsk fun K1 hK1 => wrl (jq A V rfl rfl rfl pg (zd rfl rfl) rfl ?_)
 intro g2 w3 V a A
 refine sda A λa A↦?_
 refine qa (hK1 _ _ (wsk fun K4 hK4 => wrl (sda A λa A↦?_)))
 refine qa (hK4 _ _ (wsk fun K5 hK5 => wsk fun K6 hK6 => wrl (sdo (v := pA g2 1) A (qf SmA_fld_24_1 rfl rfl) λa A↦?_)))
 refine sdo A (qn V SmA_is1_22 rfl 0 rfl rfl) λa A↦?_
 refine sdo A (qy Tryz.underlying22 rfl) λa A↦?_
 refine sdm A λa A↦?_
 refine qa (hK6 _ _ (wp_block (wp_loop_rounds 12 ?_)))
 refine zt fun K7 hK7 => ?_
 refine wsk fun K8 hK8 => wrl (sdo (v := bV false) A dbK λa A↦?_)
 refine qa (hK8 _ _ (wsk fun K9 hK9 => wp_cond_false (A.ev rfl) ?_))
 refine wp_exit (hK5 _ _ (wsk fun K10 hK10 => wsk fun K11 hK11 => wrl (sdo (v := pA g2 0) A (qf SmA_fld_24_0 rfl rfl) λa A↦?_)))
 refine sdo A (qn V SmA_is1_4 rfl 0 rfl rfl) λa A↦?_
 refine qa (hK11 _ _ (ct A ?_))
 refine wsk fun K12 hK12 => wrl (sdm A λa A↦?_)
 refine sdo (v := iV 0) A (ql rfl (ar_neg (by decide))) λa A↦?_
 refine sda A λa A↦?_
 refine qa (hK12 _ _ (wr1 hret A ?_))
 exact ⟨by first | rfl | (simp only [sgn]; rfl) | decide, V.bel⟩
theorem qwf {w : World} {a1 a2 : Option Addr} {ac1 ac2 m2 : Nat} {d0 : Nat} (h0 : d0 < 4294967296) (ha : Rd w a1 [d0]) : Calls Tryz.prog 176 #[.agg #[bV false, .slice a1 1 ac1, .slice a2 m2 ac2]] w fun e w' => e = .returned (iV (sgn false (d0))) ∧ Below w.heap.size w w' := by
 have V : St w w [] [(a1, [d0])] [] := (St.start w).addR ha
 refine qx (l := [(0, .agg #[bV false, .slice a1 1 ac1, .slice a2 m2 ac2])]) Tryz.func176 rfl Tryz.ntmps176 rfl rfl ?_
 intro Q hret hnorm hP a A
 refine wsk fun K1 hK1 => wrl (jq A V rfl rfl rfl pg (zd rfl rfl) rfl ?_)
 intro g2 w3 V a A
 refine sda A λa A↦?_
 refine qa (hK1 _ _ (wsk fun K4 hK4 => wrl (sda A λa A↦?_)))
 refine qa (hK4 _ _ (wsk fun K5 hK5 => wsk fun K6 hK6 => wrl (sdo (v := pA g2 1) A (qf SmA_fld_24_1 rfl rfl) λa A↦?_)))
 refine sdo A (qn V SmA_is1_22 rfl 0 rfl rfl) λa A↦?_
 refine sdo A (qy Tryz.underlying22 rfl) λa A↦?_
 refine sdm A λa A↦?_
 refine qa (hK6 _ _ (wp_block (wp_loop_rounds 12 ?_)))
 refine zt fun K7 hK7 => ?_
 refine wsk fun K8 hK8 => wrl (sdo (v := bV true) A dbK λa A↦?_)
 refine qa (hK8 _ _ (wsk fun K9 hK9 => wp_cond_true (A.ev rfl) ?_))
 refine wp_skip (hK9 _ _ (wsk fun K10 hK10 => wp_block (wsk fun K11 hK11 => wrl (sdm A λa A↦?_))))
 have hi15 : 0 < ([d0]).length := by first | (simp; done) | omega
 obtain ⟨b12, f13, hso14⟩ := Rd.addr (V.rd 0 rfl) hi15
 refine sdo (v := pA b12 (f13 + 0)) A (zf (k := 0) Tryz.underlying22 (by kernel_rfl) rfl rfl (by omega) hso14 (by omega)) λa A↦?_
 refine sdo (v := .int .u32 (((([d0]).getD 0 0 : Nat) : Int))) A (jf (V.rd 0 rfl) hso14 hi15 SmA_is1_161 rfl) λa A↦?_
 iterate 2 refine sda A λa A↦?_
 refine qa (hK11 _ _ (wrl ?_))
 iterate 2 refine sdm A λa A↦?_
 refine sdo (v := iV (((d0 : Nat) : Int))) A (zk rfl (ar_conv Tryz.underlying161 Tryz.underlying3 (show IntKind.i64.wrap ((d0 : Nat) : Int) = ((d0 : Nat) : Int) from qbi (by omega)))) λa A↦?_
 refine sdm A λa A↦?_
 refine sdo (v := iV 0) A dbK λa A↦?_
 refine sdo (v := iV (((d0 : Nat) : Int))) A (qh rfl rfl (ar_shl (n := 0) rfl rfl (qfb (by omega)))) λa A↦?_
 refine sdo (v := iV (((d0 : Nat) : Int))) A (qh rfl rfl (ar_or (qib (by omega)))) λa A↦?_
 refine sda A λa A↦?_
 refine qa (hK10 _ _ (wrl (sdo (v := iV 1) A dbK λa A↦?_)))
 refine sdm A λa A↦?_
 refine qa (hK7 _ _ (zt fun K16 hK16 => ?_))
 refine wsk fun K17 hK17 => wrl (sdo (v := bV false) A dbK λa A↦?_)
 refine qa (hK17 _ _ (wsk fun K18 hK18 => wp_cond_false (A.ev rfl) ?_))
 refine wp_exit (hK5 _ _ (wsk fun K19 hK19 => wsk fun K20 hK20 => wrl (sdo (v := pA g2 0) A (qf SmA_fld_24_0 rfl rfl) λa A↦?_)))
 refine sdo A (qn V SmA_is1_4 rfl 0 rfl rfl) λa A↦?_
 refine qa (hK20 _ _ (cf A ?_))
 refine wp_skip (hK19 _ _ (wsk fun K21 hK21 => wrl (sdm A λa A↦?_)))
 refine sda A λa A↦?_
 refine qa (hK21 _ _ (wr1 hret A ?_))
 exact ⟨by first | rfl | (simp only [sgn]; rfl) | decide, V.bel⟩
theorem qwg {w : World} {a1 a2 : Option Addr} {ac1 ac2 m2 : Nat} {d0 : Nat} (h0 : d0 < 4294967296) (ha : Rd w a1 [d0]) : Calls Tryz.prog 176 #[.agg #[bV true, .slice a1 1 ac1, .slice a2 m2 ac2]] w fun e w' => e = .returned (iV (sgn true (d0))) ∧ Below w.heap.size w w' := by
 have V : St w w [] [(a1, [d0])] [] := (St.start w).addR ha
 refine qx (l := [(0, .agg #[bV true, .slice a1 1 ac1, .slice a2 m2 ac2])]) Tryz.func176 rfl Tryz.ntmps176 rfl rfl ?_
 intro Q hret hnorm hP a A
 refine wsk fun K1 hK1 => wrl (jq A V rfl rfl rfl pg (zd rfl rfl) rfl ?_)
 intro g2 w3 V a A
 refine sda A λa A↦?_
 refine qa (hK1 _ _ (wsk fun K4 hK4 => wrl (sda A λa A↦?_)))
 refine qa (hK4 _ _ (wsk fun K5 hK5 => wsk fun K6 hK6 => wrl (sdo (v := pA g2 1) A (qf SmA_fld_24_1 rfl rfl) λa A↦?_)))
 refine sdo A (qn V SmA_is1_22 rfl 0 rfl rfl) λa A↦?_
 refine sdo A (qy Tryz.underlying22 rfl) λa A↦?_
 refine sdm A λa A↦?_
 refine qa (hK6 _ _ (wp_block (wp_loop_rounds 12 ?_)))
 refine zt fun K7 hK7 => ?_
 refine wsk fun K8 hK8 => wrl (sdo (v := bV true) A dbK λa A↦?_)
 refine qa (hK8 _ _ (wsk fun K9 hK9 => wp_cond_true (A.ev rfl) ?_))
 refine wp_skip (hK9 _ _ (wsk fun K10 hK10 => wp_block (wsk fun K11 hK11 => wrl (sdm A λa A↦?_))))
 have hi15 : 0 < ([d0]).length := by first | (simp; done) | omega
 obtain ⟨b12, f13, hso14⟩ := Rd.addr (V.rd 0 rfl) hi15
 refine sdo (v := pA b12 (f13 + 0)) A (zf (k := 0) Tryz.underlying22 (by kernel_rfl) rfl rfl (by omega) hso14 (by omega)) λa A↦?_
 refine sdo (v := .int .u32 (((([d0]).getD 0 0 : Nat) : Int))) A (jf (V.rd 0 rfl) hso14 hi15 SmA_is1_161 rfl) λa A↦?_
 iterate 2 refine sda A λa A↦?_
 refine qa (hK11 _ _ (wrl ?_))
 iterate 2 refine sdm A λa A↦?_
 refine sdo (v := iV (((d0 : Nat) : Int))) A (zk rfl (ar_conv Tryz.underlying161 Tryz.underlying3 (show IntKind.i64.wrap ((d0 : Nat) : Int) = ((d0 : Nat) : Int) from qbi (by omega)))) λa A↦?_
 refine sdm A λa A↦?_
 refine sdo (v := iV 0) A dbK λa A↦?_
 refine sdo (v := iV (((d0 : Nat) : Int))) A (qh rfl rfl (ar_shl (n := 0) rfl rfl (qfb (by omega)))) λa A↦?_
 refine sdo (v := iV (((d0 : Nat) : Int))) A (qh rfl rfl (ar_or (qib (by omega)))) λa A↦?_
 refine sda A λa A↦?_
 refine qa (hK10 _ _ (wrl (sdo (v := iV 1) A dbK λa A↦?_)))
 refine sdm A λa A↦?_
 refine qa (hK7 _ _ (zt fun K16 hK16 => ?_))
 refine wsk fun K17 hK17 => wrl (sdo (v := bV false) A dbK λa A↦?_)
 refine qa (hK17 _ _ (wsk fun K18 hK18 => wp_cond_false (A.ev rfl) ?_))
 refine wp_exit (hK5 _ _ (wsk fun K19 hK19 => wsk fun K20 hK20 => wrl (sdo (v := pA g2 0) A (qf SmA_fld_24_0 rfl rfl) λa A↦?_)))
 refine sdo A (qn V SmA_is1_4 rfl 0 rfl rfl) λa A↦?_
 refine qa (hK20 _ _ (ct A ?_))
 refine wsk fun K21 hK21 => wrl (sdm A λa A↦?_)
 refine sdo (v := iV (-(((d0 : Nat) : Int)))) A (ql rfl (zid (yk (by omega) (by omega)))) λa A↦?_
 refine sda A λa A↦?_
 refine qa (hK21 _ _ (wr1 hret A ?_))
 exact ⟨by first | rfl | (simp only [sgn]; rfl) | decide, V.bel⟩
theorem qwh {w : World} {a1 a2 : Option Addr} {ac1 ac2 m2 : Nat} {d0 d1 y x : Nat} (h0 : d0 < 4294967296) (h1 : d1 < 2147483648) (hy : d1 * 4294967296 = y) (hx : d0 + y = x) (hx9 : x ≤ 9223372036854775807) (ha : Rd w a1 [d0, d1]) : Calls Tryz.prog 176 #[.agg #[bV false, .slice a1 2 ac1, .slice a2 m2 ac2]] w fun e w' => e = .returned (iV (sgn false (x))) ∧ Below w.heap.size w w' := by
 have V : St w w [] [(a1, [d0, d1])] [] := (St.start w).addR ha
 refine qx (l := [(0, .agg #[bV false, .slice a1 2 ac1, .slice a2 m2 ac2])]) Tryz.func176 rfl Tryz.ntmps176 rfl rfl ?_
 intro Q hret hnorm hP a A
 refine wsk fun K1 hK1 => wrl (jq A V rfl rfl rfl pg (zd rfl rfl) rfl ?_)
 intro g2 w3 V a A
 refine sda A λa A↦?_
 refine qa (hK1 _ _ (wsk fun K4 hK4 => wrl (sda A λa A↦?_)))
 refine qa (hK4 _ _ (wsk fun K5 hK5 => wsk fun K6 hK6 => wrl (sdo (v := pA g2 1) A (qf SmA_fld_24_1 rfl rfl) λa A↦?_)))
 refine sdo A (qn V SmA_is1_22 rfl 0 rfl rfl) λa A↦?_
 refine sdo A (qy Tryz.underlying22 rfl) λa A↦?_
 refine sdm A λa A↦?_
 refine qa (hK6 _ _ (wp_block (wp_loop_rounds 12 ?_)))
 refine zt fun K7 hK7 => ?_
 refine wsk fun K8 hK8 => wrl (sdo (v := bV true) A dbK λa A↦?_)
 refine qa (hK8 _ _ (wsk fun K9 hK9 => wp_cond_true (A.ev rfl) ?_))
 refine wp_skip (hK9 _ _ (wsk fun K10 hK10 => wp_block (wsk fun K11 hK11 => wrl (sdm A λa A↦?_))))
 have hi15 : 0 < ([d0, d1]).length := by first | (simp; done) | omega
 obtain ⟨b12, f13, hso14⟩ := Rd.addr (V.rd 0 rfl) hi15
 refine sdo (v := pA b12 (f13 + 0)) A (zf (k := 0) Tryz.underlying22 (by kernel_rfl) rfl rfl (by omega) hso14 (by omega)) λa A↦?_
 refine sdo (v := .int .u32 (((([d0, d1]).getD 0 0 : Nat) : Int))) A (jf (V.rd 0 rfl) hso14 hi15 SmA_is1_161 rfl) λa A↦?_
 iterate 2 refine sda A λa A↦?_
 refine qa (hK11 _ _ (wrl ?_))
 iterate 2 refine sdm A λa A↦?_
 refine sdo (v := iV (((d0 : Nat) : Int))) A (zk rfl (ar_conv Tryz.underlying161 Tryz.underlying3 (show IntKind.i64.wrap ((d0 : Nat) : Int) = ((d0 : Nat) : Int) from qbi (by omega)))) λa A↦?_
 refine sdm A λa A↦?_
 refine sdo (v := iV 0) A dbK λa A↦?_
 refine sdo (v := iV (((d0 : Nat) : Int))) A (qh rfl rfl (ar_shl (n := 0) rfl rfl (qfb (by omega)))) λa A↦?_
 refine sdo (v := iV (((d0 : Nat) : Int))) A (qh rfl rfl (ar_or (qib (by omega)))) λa A↦?_
 refine sda A λa A↦?_
 refine qa (hK10 _ _ (wrl (sdo (v := iV 1) A dbK λa A↦?_)))
 refine sdm A λa A↦?_
 refine qa (hK7 _ _ (zt fun K16 hK16 => ?_))
 refine wsk fun K17 hK17 => wrl (sdo (v := bV true) A dbK λa A↦?_)
 refine qa (hK17 _ _ (wsk fun K18 hK18 => wp_cond_true (A.ev rfl) ?_))
 refine wp_skip (hK18 _ _ (wsk fun K19 hK19 => wp_block (wsk fun K20 hK20 => wrl (sdm A λa A↦?_))))
 have hi24 : 1 < ([d0, d1]).length := by first | (simp; done) | omega
 obtain ⟨b21, f22, hso23⟩ := Rd.addr (V.rd 0 rfl) hi24
 refine sdo (v := pA b21 (f22 + 1)) A (zf (k := 1) Tryz.underlying22 (by kernel_rfl) rfl rfl (by omega) hso23 (by omega)) λa A↦?_
 refine sdo (v := .int .u32 (((([d0, d1]).getD 1 0 : Nat) : Int))) A (jf (V.rd 0 rfl) hso23 hi24 SmA_is1_161 rfl) λa A↦?_
 iterate 2 refine sda A λa A↦?_
 refine qa (hK20 _ _ (wrl ?_))
 iterate 2 refine sdm A λa A↦?_
 refine sdo (v := iV (((d1 : Nat) : Int))) A (zk rfl (ar_conv Tryz.underlying161 Tryz.underlying3 (show IntKind.i64.wrap ((d1 : Nat) : Int) = ((d1 : Nat) : Int) from qbi (by omega)))) λa A↦?_
 refine sdm A λa A↦?_
 refine sdo (v := iV 32) A dbK λa A↦?_
 refine sdo (v := iV (((y : Nat) : Int))) A (qh rfl rfl (ar_shl (n := 32) rfl rfl (zef (by omega) hy))) λa A↦?_
 refine sdo (v := iV (((x : Nat) : Int))) A (qh rfl rfl (ar_or (zra (by omega) (by omega) hy hx))) λa A↦?_
 refine sda A λa A↦?_
 refine qa (hK19 _ _ (wrl (sdo (v := iV 2) A dbK λa A↦?_)))
 refine sdm A λa A↦?_
 refine qa (hK16 _ _ (zt fun K25 hK25 => ?_))
 refine wsk fun K26 hK26 => wrl (sdo (v := bV false) A dbK λa A↦?_)
 refine qa (hK26 _ _ (wsk fun K27 hK27 => wp_cond_false (A.ev rfl) ?_))
 refine wp_exit (hK5 _ _ (wsk fun K28 hK28 => wsk fun K29 hK29 => wrl (sdo (v := pA g2 0) A (qf SmA_fld_24_0 rfl rfl) λa A↦?_)))
 refine sdo A (qn V SmA_is1_4 rfl 0 rfl rfl) λa A↦?_
 refine qa (hK29 _ _ (cf A ?_))
 refine wp_skip (hK28 _ _ (wsk fun K30 hK30 => wrl (sdm A λa A↦?_)))
 refine sda A λa A↦?_
 refine qa (hK30 _ _ (wr1 hret A ?_))
 exact ⟨by first | rfl | (simp only [sgn]; rfl) | decide, V.bel⟩
theorem qwi {w : World} {a1 a2 : Option Addr} {ac1 ac2 m2 : Nat} {d0 d1 y x : Nat} (h0 : d0 < 4294967296) (h1 : d1 < 2147483648) (hy : d1 * 4294967296 = y) (hx : d0 + y = x) (hx9 : x ≤ 9223372036854775807) (ha : Rd w a1 [d0, d1]) : Calls Tryz.prog 176 #[.agg #[bV true, .slice a1 2 ac1, .slice a2 m2 ac2]] w fun e w' => e = .returned (iV (sgn true (x))) ∧ Below w.heap.size w w' := by
 have V : St w w [] [(a1, [d0, d1])] [] := (St.start w).addR ha
 refine qx (l := [(0, .agg #[bV true, .slice a1 2 ac1, .slice a2 m2 ac2])]) Tryz.func176 rfl Tryz.ntmps176 rfl rfl ?_
 intro Q hret hnorm hP a A
 refine wsk fun K1 hK1 => wrl (jq A V rfl rfl rfl pg (zd rfl rfl) rfl ?_)
 intro g2 w3 V a A
 refine sda A λa A↦?_
 refine qa (hK1 _ _ (wsk fun K4 hK4 => wrl (sda A λa A↦?_)))
 refine qa (hK4 _ _ (wsk fun K5 hK5 => wsk fun K6 hK6 => wrl (sdo (v := pA g2 1) A (qf SmA_fld_24_1 rfl rfl) λa A↦?_)))
 refine sdo A (qn V SmA_is1_22 rfl 0 rfl rfl) λa A↦?_
 refine sdo A (qy Tryz.underlying22 rfl) λa A↦?_
 refine sdm A λa A↦?_
 refine qa (hK6 _ _ (wp_block (wp_loop_rounds 12 ?_)))
 refine zt fun K7 hK7 => ?_
 refine wsk fun K8 hK8 => wrl (sdo (v := bV true) A dbK λa A↦?_)
 refine qa (hK8 _ _ (wsk fun K9 hK9 => wp_cond_true (A.ev rfl) ?_))
 refine wp_skip (hK9 _ _ (wsk fun K10 hK10 => wp_block (wsk fun K11 hK11 => wrl (sdm A λa A↦?_))))
 have hi15 : 0 < ([d0, d1]).length := by first | (simp; done) | omega
 obtain ⟨b12, f13, hso14⟩ := Rd.addr (V.rd 0 rfl) hi15
 refine sdo (v := pA b12 (f13 + 0)) A (zf (k := 0) Tryz.underlying22 (by kernel_rfl) rfl rfl (by omega) hso14 (by omega)) λa A↦?_
 refine sdo (v := .int .u32 (((([d0, d1]).getD 0 0 : Nat) : Int))) A (jf (V.rd 0 rfl) hso14 hi15 SmA_is1_161 rfl) λa A↦?_
 iterate 2 refine sda A λa A↦?_
 refine qa (hK11 _ _ (wrl ?_))
 iterate 2 refine sdm A λa A↦?_
 refine sdo (v := iV (((d0 : Nat) : Int))) A (zk rfl (ar_conv Tryz.underlying161 Tryz.underlying3 (show IntKind.i64.wrap ((d0 : Nat) : Int) = ((d0 : Nat) : Int) from qbi (by omega)))) λa A↦?_
 refine sdm A λa A↦?_
 refine sdo (v := iV 0) A dbK λa A↦?_
 refine sdo (v := iV (((d0 : Nat) : Int))) A (qh rfl rfl (ar_shl (n := 0) rfl rfl (qfb (by omega)))) λa A↦?_
 refine sdo (v := iV (((d0 : Nat) : Int))) A (qh rfl rfl (ar_or (qib (by omega)))) λa A↦?_
 refine sda A λa A↦?_
 refine qa (hK10 _ _ (wrl (sdo (v := iV 1) A dbK λa A↦?_)))
 refine sdm A λa A↦?_
 refine qa (hK7 _ _ (zt fun K16 hK16 => ?_))
 refine wsk fun K17 hK17 => wrl (sdo (v := bV true) A dbK λa A↦?_)
 refine qa (hK17 _ _ (wsk fun K18 hK18 => wp_cond_true (A.ev rfl) ?_))
 refine wp_skip (hK18 _ _ (wsk fun K19 hK19 => wp_block (wsk fun K20 hK20 => wrl (sdm A λa A↦?_))))
 have hi24 : 1 < ([d0, d1]).length := by first | (simp; done) | omega
 obtain ⟨b21, f22, hso23⟩ := Rd.addr (V.rd 0 rfl) hi24
 refine sdo (v := pA b21 (f22 + 1)) A (zf (k := 1) Tryz.underlying22 (by kernel_rfl) rfl rfl (by omega) hso23 (by omega)) λa A↦?_
 refine sdo (v := .int .u32 (((([d0, d1]).getD 1 0 : Nat) : Int))) A (jf (V.rd 0 rfl) hso23 hi24 SmA_is1_161 rfl) λa A↦?_
 iterate 2 refine sda A λa A↦?_
 refine qa (hK20 _ _ (wrl ?_))
 iterate 2 refine sdm A λa A↦?_
 refine sdo (v := iV (((d1 : Nat) : Int))) A (zk rfl (ar_conv Tryz.underlying161 Tryz.underlying3 (show IntKind.i64.wrap ((d1 : Nat) : Int) = ((d1 : Nat) : Int) from qbi (by omega)))) λa A↦?_
 refine sdm A λa A↦?_
 refine sdo (v := iV 32) A dbK λa A↦?_
 refine sdo (v := iV (((y : Nat) : Int))) A (qh rfl rfl (ar_shl (n := 32) rfl rfl (zef (by omega) hy))) λa A↦?_
 refine sdo (v := iV (((x : Nat) : Int))) A (qh rfl rfl (ar_or (zra (by omega) (by omega) hy hx))) λa A↦?_
 refine sda A λa A↦?_
 refine qa (hK19 _ _ (wrl (sdo (v := iV 2) A dbK λa A↦?_)))
 refine sdm A λa A↦?_
 refine qa (hK16 _ _ (zt fun K25 hK25 => ?_))
 refine wsk fun K26 hK26 => wrl (sdo (v := bV false) A dbK λa A↦?_)
 refine qa (hK26 _ _ (wsk fun K27 hK27 => wp_cond_false (A.ev rfl) ?_))
 refine wp_exit (hK5 _ _ (wsk fun K28 hK28 => wsk fun K29 hK29 => wrl (sdo (v := pA g2 0) A (qf SmA_fld_24_0 rfl rfl) λa A↦?_)))
 refine sdo A (qn V SmA_is1_4 rfl 0 rfl rfl) λa A↦?_
 refine qa (hK29 _ _ (ct A ?_))
 refine wsk fun K30 hK30 => wrl (sdm A λa A↦?_)
 refine sdo (v := iV (-(((x : Nat) : Int)))) A (ql rfl (zid (yk (by omega) (by omega)))) λa A↦?_
 refine sda A λa A↦?_
 refine qa (hK30 _ _ (wr1 hret A ?_))
 exact ⟨by first | rfl | (simp only [sgn]; rfl) | decide, V.bel⟩
theorem qwj {w : World} {a1 a2 : Option Addr} {ac1 ac2 m2 : Nat}  (ha : Rd w a1 [0, 2147483648]) : Calls Tryz.prog 176 #[.agg #[bV true, .slice a1 2 ac1, .slice a2 m2 ac2]] w fun e w' => e = .returned (iV (sgn true (9223372036854775808))) ∧ Below w.heap.size w w' := by
 have V : St w w [] [(a1, [0, 2147483648])] [] := (St.start w).addR ha
 refine qx (l := [(0, .agg #[bV true, .slice a1 2 ac1, .slice a2 m2 ac2])]) Tryz.func176 rfl Tryz.ntmps176 rfl rfl ?_
 intro Q hret hnorm hP a A
 refine wsk fun K1 hK1 => wrl (jq A V rfl rfl rfl pg (zd rfl rfl) rfl ?_)
 intro g2 w3 V a A
 refine sda A λa A↦?_
 refine qa (hK1 _ _ (wsk fun K4 hK4 => wrl (sda A λa A↦?_)))
 refine qa (hK4 _ _ (wsk fun K5 hK5 => wsk fun K6 hK6 => wrl (sdo (v := pA g2 1) A (qf SmA_fld_24_1 rfl rfl) λa A↦?_)))
 refine sdo A (qn V SmA_is1_22 rfl 0 rfl rfl) λa A↦?_
 refine sdo A (qy Tryz.underlying22 rfl) λa A↦?_
 refine sdm A λa A↦?_
 refine qa (hK6 _ _ (wp_block (wp_loop_rounds 12 ?_)))
 refine zt fun K7 hK7 => ?_
 refine wsk fun K8 hK8 => wrl (sdo (v := bV true) A dbK λa A↦?_)
 refine qa (hK8 _ _ (wsk fun K9 hK9 => wp_cond_true (A.ev rfl) ?_))
 refine wp_skip (hK9 _ _ (wsk fun K10 hK10 => wp_block (wsk fun K11 hK11 => wrl (sdm A λa A↦?_))))
 have hi15 : 0 < ([0, 2147483648]).length := by first | (simp; done) | omega
 obtain ⟨b12, f13, hso14⟩ := Rd.addr (V.rd 0 rfl) hi15
 refine sdo (v := pA b12 (f13 + 0)) A (zf (k := 0) Tryz.underlying22 (by kernel_rfl) rfl rfl (by omega) hso14 (by omega)) λa A↦?_
 refine sdo (v := .int .u32 (((([0, 2147483648]).getD 0 0 : Nat) : Int))) A (jf (V.rd 0 rfl) hso14 hi15 SmA_is1_161 rfl) λa A↦?_
 iterate 2 refine sda A λa A↦?_
 refine qa (hK11 _ _ (wrl ?_))
 iterate 2 refine sdm A λa A↦?_
 refine sdo (v := iV 0) A (zk rfl (ar_conv Tryz.underlying161 Tryz.underlying3 (show IntKind.i64.wrap ((0 : Nat) : Int) = 0 from by decide))) λa A↦?_
 refine sdm A λa A↦?_
 refine sdo (v := iV 0) A dbK λa A↦?_
 refine sdo (v := iV 0) A (qh rfl rfl (ar_shl (n := 0) rfl rfl (by decide))) λa A↦?_
 refine sdo (v := iV 0) A (qh rfl rfl (ar_or (by decide))) λa A↦?_
 refine sda A λa A↦?_
 refine qa (hK10 _ _ (wrl (sdo (v := iV 1) A dbK λa A↦?_)))
 refine sdm A λa A↦?_
 refine qa (hK7 _ _ (zt fun K16 hK16 => ?_))
 refine wsk fun K17 hK17 => wrl (sdo (v := bV true) A dbK λa A↦?_)
 refine qa (hK17 _ _ (wsk fun K18 hK18 => wp_cond_true (A.ev rfl) ?_))
 refine wp_skip (hK18 _ _ (wsk fun K19 hK19 => wp_block (wsk fun K20 hK20 => wrl (sdm A λa A↦?_))))
 have hi24 : 1 < ([0, 2147483648]).length := by first | (simp; done) | omega
 obtain ⟨b21, f22, hso23⟩ := Rd.addr (V.rd 0 rfl) hi24
 refine sdo (v := pA b21 (f22 + 1)) A (zf (k := 1) Tryz.underlying22 (by kernel_rfl) rfl rfl (by omega) hso23 (by omega)) λa A↦?_
 refine sdo (v := .int .u32 (((([0, 2147483648]).getD 1 0 : Nat) : Int))) A (jf (V.rd 0 rfl) hso23 hi24 SmA_is1_161 rfl) λa A↦?_
 iterate 2 refine sda A λa A↦?_
 refine qa (hK20 _ _ (wrl ?_))
 iterate 2 refine sdm A λa A↦?_
 refine sdo (v := iV 2147483648) A (zk rfl (ar_conv Tryz.underlying161 Tryz.underlying3 (show IntKind.i64.wrap ((2147483648 : Nat) : Int) = 2147483648 from by decide))) λa A↦?_
 refine sdm A λa A↦?_
 refine sdo (v := iV 32) A dbK λa A↦?_
 refine sdo (v := iV (-9223372036854775808)) A (qh rfl rfl (ar_shl (n := 32) rfl rfl (by decide))) λa A↦?_
 refine sdo (v := iV (-9223372036854775808)) A (qh rfl rfl (ar_or (by decide))) λa A↦?_
 refine sda A λa A↦?_
 refine qa (hK19 _ _ (wrl (sdo (v := iV 2) A dbK λa A↦?_)))
 refine sdm A λa A↦?_
 refine qa (hK16 _ _ (zt fun K25 hK25 => ?_))
 refine wsk fun K26 hK26 => wrl (sdo (v := bV false) A dbK λa A↦?_)
 refine qa (hK26 _ _ (wsk fun K27 hK27 => wp_cond_false (A.ev rfl) ?_))
 refine wp_exit (hK5 _ _ (wsk fun K28 hK28 => wsk fun K29 hK29 => wrl (sdo (v := pA g2 0) A (qf SmA_fld_24_0 rfl rfl) λa A↦?_)))
 refine sdo A (qn V SmA_is1_4 rfl 0 rfl rfl) λa A↦?_
 refine qa (hK29 _ _ (ct A ?_))
 refine wsk fun K30 hK30 => wrl (sdm A λa A↦?_)
 refine sdo (v := iV (-9223372036854775808)) A (ql rfl (ar_neg (by decide))) λa A↦?_
 refine sda A λa A↦?_
 refine qa (hK30 _ _ (wr1 hret A ?_))
 exact ⟨by first | rfl | (simp only [sgn]; rfl) | decide, V.bel⟩
theorem qpi {w : World} {b : Bool} {x : Nat} {a1 a2 : Option Addr} {ac1 ac2 m2 : Nat} (ha : Rd w a1 (words x)) (hx : x ≤ 9223372036854775807 + b.toNat) : Calls Tryz.prog 176 #[.agg #[bV b, .slice a1 (words x).length ac1, .slice a2 m2 ac2]] w fun e w' => e = .returned (iV (sgn b x)) ∧ Below w.heap.size w w' := by
 by_cases k0 : x = 0
 ·
  subst k0
  rw [words_zero] at *
  cases b
  ·
   exact qwd ha
  ·
   exact qwe ha
 by_cases k1 : x < 4294967296
 ·
  rw [uy k0 k1] at *
  cases b
  ·
   exact qwf k1 ha
  ·
   exact qwg k1 ha
 have hb : b.toNat ≤ 1 := by cases b <;> decide
 rw [qfa (by omega) (by omega)] at *
 by_cases k2 : x = 9223372036854775808
 ·
  subst k2
  cases b
  ·
   simp at hx
  ·
   exact qwj ha
 have hx9 : x ≤ 9223372036854775807 := by omega
 cases b
 ·
  exact qwh (d0 := x % 4294967296) (d1 := x / 4294967296) (by omega) (by omega) rfl (by omega) hx9 ha
 ·
  exact qwi (d0 := x % 4294967296) (d1 := x / 4294967296) (by omega) (by omega) rfl (by omega) hx9 ha
theorem qxa {w : World} {q : Q6} {a1 a2 a3 a4 : Option Addr} {ac1 ac2 ac3 ac4 : Nat} (ha : Nm w q a1 ac1 a2 ac2 a3 ac3 a4 ac4) (hl : LenQ q) (h1 : jp q = false) : Calls Tryz.prog 138 #[yt q a1 ac1 a2 ac2 a3 ac3 a4 ac4] w fun e w' => e = .returned (.tuple #[iV 0, iV 2]) ∧ Below w.heap.size w w' := by
 have V : St w w [] [(a4, q.q2), (a3, q.t2), (a2, q.q1), (a1, q.t1)] [] := ((((St.start w).addR ha.s1.rd).addR ha.s2.rd).addR ha.s3.rd).addR ha.s4.rd
 refine qx (l := [(0, .agg #[bV q.b1, .slice a1 q.t1.length ac1, .slice a2 q.q1.length ac2, bV q.b2, .slice a3 q.t2.length ac3, .slice a4 q.q2.length ac4])]) Tryz.func138 rfl Tryz.ntmps138 rfl rfl ?_
 intro Q hret hnorm hP a A
 refine wsk fun K1 hK1 => wrl (jq A V rfl rfl rfl pg (zd rfl rfl) rfl ?_)
 intro g2 w3 V a A
 iterate 2 refine sda A λa A↦?_
 refine qa (hK1 _ _ (wsk fun K4 hK4 => wsk fun K5 hK5 => wrl (sdo A (zj V SmA_isS_26 rfl 0 rfl (cs := [bV q.b1, .slice a1 q.t1.length ac1, .slice a2 q.q1.length ac2, bV q.b2, .slice a3 q.t2.length ac3, .slice a4 q.q2.length ac4]) rfl rfl) λa A↦?_)))
 refine sct A (ef rfl rfl) (vk (show Nm _ _ a1 ac1 a2 ac2 a3 ac3 a4 ac4 from ⟨⟨(V.rd 3 rfl), ha.s1.nil, ha.s1.cap⟩, ⟨(V.rd 2 rfl), ha.s2.nil, ha.s2.cap⟩, ⟨(V.rd 1 rfl), ha.s3.nil, ha.s3.cap⟩, ⟨(V.rd 0 rfl), ha.s4.nil, ha.s4.cap⟩⟩) hl h1) ?_
 rintro _ w7 ⟨rfl, hb6⟩
 replace V := V.call hb6
 refine ⟨_, rfl, ?_⟩
 intro a A
 refine sdo (v := bV true) A (ql rfl qp) λa A↦?_
 refine qa (hK5 _ _ (ct A ?_))
 refine wsk fun K8 hK8 => wrl ?_
 iterate 2 refine sda A λa A↦?_
 refine qa (hK8 _ _ (wp_ret (hret _ _ (en2 A rfl (qj rfl) (qj rfl) ?_))))
 exact ⟨rfl, V.bel⟩
theorem qxb {w : World} {q : Q6} {a1 a2 a3 a4 : Option Addr} {ac1 ac2 ac3 ac4 : Nat} (ha : Nm w q a1 ac1 a2 ac2 a3 ac3 a4 ac4) (hl : LenQ q) (h1 : jp q = true) (h2 : decide (q.t2.length = 0) = false) : Calls Tryz.prog 138 #[yt q a1 ac1 a2 ac2 a3 ac3 a4 ac4] w fun e w' => e = .returned (.tuple #[iV 0, iV 10]) ∧ Below w.heap.size w w' := by
 have V : St w w [] [(a4, q.q2), (a3, q.t2), (a2, q.q1), (a1, q.t1)] [] := ((((St.start w).addR ha.s1.rd).addR ha.s2.rd).addR ha.s3.rd).addR ha.s4.rd
 refine qx (l := [(0, .agg #[bV q.b1, .slice a1 q.t1.length ac1, .slice a2 q.q1.length ac2, bV q.b2, .slice a3 q.t2.length ac3, .slice a4 q.q2.length ac4])]) Tryz.func138 rfl Tryz.ntmps138 rfl rfl ?_
 intro Q hret hnorm hP a A
 refine wsk fun K1 hK1 => wrl (jq A V rfl rfl rfl pg (zd rfl rfl) rfl ?_)
 intro g2 w3 V a A
 iterate 2 refine sda A λa A↦?_
 refine qa (hK1 _ _ (wsk fun K4 hK4 => wsk fun K5 hK5 => wrl (sdo A (zj V SmA_isS_26 rfl 0 rfl (cs := [bV q.b1, .slice a1 q.t1.length ac1, .slice a2 q.q1.length ac2, bV q.b2, .slice a3 q.t2.length ac3, .slice a4 q.q2.length ac4]) rfl rfl) λa A↦?_)))
 refine sct A (ef rfl rfl) (vk (show Nm _ _ a1 ac1 a2 ac2 a3 ac3 a4 ac4 from ⟨⟨(V.rd 3 rfl), ha.s1.nil, ha.s1.cap⟩, ⟨(V.rd 2 rfl), ha.s2.nil, ha.s2.cap⟩, ⟨(V.rd 1 rfl), ha.s3.nil, ha.s3.cap⟩, ⟨(V.rd 0 rfl), ha.s4.nil, ha.s4.cap⟩⟩) hl h1) ?_
 rintro _ w7 ⟨rfl, hb6⟩
 replace V := V.call hb6
 refine ⟨_, rfl, ?_⟩
 intro a A
 refine sdo (v := bV false) A (ql rfl qp) λa A↦?_
 refine qa (hK5 _ _ (cf A ?_))
 refine wp_skip (hK4 _ _ (wsk fun K8 hK8 => wsk fun K9 hK9 => wrl (sdo A (zj V SmA_isS_26 rfl 0 rfl (cs := [bV q.b1, .slice a1 q.t1.length ac1, .slice a2 q.q1.length ac2, bV q.b2, .slice a3 q.t2.length ac3, .slice a4 q.q2.length ac4]) rfl rfl) λa A↦?_)))
 refine sct A (ef rfl rfl) (kq hl h2) ?_
 rintro _ w11 ⟨rfl, hb10⟩
 replace V := V.call hb10
 refine ⟨_, rfl, ?_⟩
 intro a A
 refine sdo (v := bV true) A (ql rfl qp) λa A↦?_
 refine sdm A λa A↦?_
 iterate 5 refine qm A rfl rfl rfl λa A↦?_
 refine sdk (v := bV true) A λa A↦?_
 refine qa (hK9 _ _ (ct A ?_))
 refine wsk fun K12 hK12 => wrl ?_
 iterate 2 refine sda A λa A↦?_
 refine qa (hK12 _ _ (wp_ret (hret _ _ (en2 A rfl (qj rfl) (qj rfl) ?_))))
 exact ⟨rfl, V.bel⟩
theorem qxc {w : World} {q : Q6} {a1 a2 a3 a4 : Option Addr} {ac1 ac2 ac3 ac4 : Nat} (ha : Nm w q a1 ac1 a2 ac2 a3 ac3 a4 ac4) (hl : LenQ q) (h1 : jp q = true) (h2 : decide (q.t2.length = 0) = true) (h3 : decide (q.q1 = [1]) = false) : Calls Tryz.prog 138 #[yt q a1 ac1 a2 ac2 a3 ac3 a4 ac4] w fun e w' => e = .returned (.tuple #[iV 0, iV 10]) ∧ Below w.heap.size w w' := by
 have V : St w w [] [(a4, q.q2), (a3, q.t2), (a2, q.q1), (a1, q.t1)] [] := ((((St.start w).addR ha.s1.rd).addR ha.s2.rd).addR ha.s3.rd).addR ha.s4.rd
 refine qx (l := [(0, .agg #[bV q.b1, .slice a1 q.t1.length ac1, .slice a2 q.q1.length ac2, bV q.b2, .slice a3 q.t2.length ac3, .slice a4 q.q2.length ac4])]) Tryz.func138 rfl Tryz.ntmps138 rfl rfl ?_
 intro Q hret hnorm hP a A
 refine wsk fun K1 hK1 => wrl (jq A V rfl rfl rfl pg (zd rfl rfl) rfl ?_)
 intro g2 w3 V a A
 iterate 2 refine sda A λa A↦?_
 refine qa (hK1 _ _ (wsk fun K4 hK4 => wsk fun K5 hK5 => wrl (sdo A (zj V SmA_isS_26 rfl 0 rfl (cs := [bV q.b1, .slice a1 q.t1.length ac1, .slice a2 q.q1.length ac2, bV q.b2, .slice a3 q.t2.length ac3, .slice a4 q.q2.length ac4]) rfl rfl) λa A↦?_)))
 refine sct A (ef rfl rfl) (vk (show Nm _ _ a1 ac1 a2 ac2 a3 ac3 a4 ac4 from ⟨⟨(V.rd 3 rfl), ha.s1.nil, ha.s1.cap⟩, ⟨(V.rd 2 rfl), ha.s2.nil, ha.s2.cap⟩, ⟨(V.rd 1 rfl), ha.s3.nil, ha.s3.cap⟩, ⟨(V.rd 0 rfl), ha.s4.nil, ha.s4.cap⟩⟩) hl h1) ?_
 rintro _ w7 ⟨rfl, hb6⟩
 replace V := V.call hb6
 refine ⟨_, rfl, ?_⟩
 intro a A
 refine sdo (v := bV false) A (ql rfl qp) λa A↦?_
 refine qa (hK5 _ _ (cf A ?_))
 refine wp_skip (hK4 _ _ (wsk fun K8 hK8 => wsk fun K9 hK9 => wrl (sdo A (zj V SmA_isS_26 rfl 0 rfl (cs := [bV q.b1, .slice a1 q.t1.length ac1, .slice a2 q.q1.length ac2, bV q.b2, .slice a3 q.t2.length ac3, .slice a4 q.q2.length ac4]) rfl rfl) λa A↦?_)))
 refine sct A (ef rfl rfl) (kq hl h2) ?_
 rintro _ w11 ⟨rfl, hb10⟩
 replace V := V.call hb10
 refine ⟨_, rfl, ?_⟩
 intro a A
 refine sdo (v := bV false) A (ql rfl qp) λa A↦?_
 refine sdm A λa A↦?_
 refine sdo (v := pA g2 0) A (qf SmA_fld_26_0 rfl rfl) λa A↦?_
 refine sdo (v := pA g2 2) A (qf SmA_fld_24_2 rfl rfl) λa A↦?_
 refine sdo A (qn V SmA_is1_22 rfl 0 rfl rfl) λa A↦?_
 refine sct A (ef rfl rfl) (ud _ (V.rd 2 rfl) hl.l2 h3) ?_
 rintro _ w13 ⟨rfl, hb12⟩
 replace hb12 := xb hb12
 replace V := V.call hb12
 refine ⟨_, rfl, ?_⟩
 intro a A
 refine sdo (v := bV true) A (ql rfl qp) λa A↦?_
 refine sdk (v := bV true) A λa A↦?_
 refine qa (hK9 _ _ (ct A ?_))
 refine wsk fun K14 hK14 => wrl ?_
 iterate 2 refine sda A λa A↦?_
 refine qa (hK14 _ _ (wp_ret (hret _ _ (en2 A rfl (qj rfl) (qj rfl) ?_))))
 exact ⟨rfl, V.bel⟩
theorem qxd {w : World} {x : Nat} {a1 a2 a3 a4 : Option Addr} {ac1 ac2 ac3 ac4 : Nat} (ha : Nm w (Q6.whole false x) a1 ac1 a2 ac2 a3 ac3 a4 ac4) (hl : LenQ (Q6.whole false x)) (hs : jp (Q6.whole false x) = true) (hx : (words x).length ≤ 512) (hg : (words 9223372036854775807).length ≤ 512) (hc : ¬ x ≤ 9223372036854775807) : Calls Tryz.prog 138 #[yt (Q6.whole false x) a1 ac1 a2 ac2 a3 ac3 a4 ac4] w fun e w' => e = .returned (.tuple #[iV 0, iV 4]) ∧ Below w.heap.size w w' := by
 have V : St w w [] [(a4, [1]), (a3, []), (a2, [1]), (a1, words x)] [] := ((((St.start w).addR ha.s1.rd).addR ha.s2.rd).addR ha.s3.rd).addR ha.s4.rd
 refine qx (l := [(0, .agg #[bV false, .slice a1 ((words x).length) ac1, .slice a2 1 ac2, bV false, .slice a3 0 ac3, .slice a4 1 ac4])]) Tryz.func138 rfl Tryz.ntmps138 rfl rfl ?_
 intro Q hret hnorm hP a A
 refine wsk fun K1 hK1 => wrl (jq A V rfl rfl rfl pg (zd rfl rfl) rfl ?_)
 intro g2 w3 V a A
 iterate 2 refine sda A λa A↦?_
 refine qa (hK1 _ _ (wsk fun K4 hK4 => wsk fun K5 hK5 => wrl (sdo A (zj V SmA_isS_26 rfl 0 rfl (cs := [bV false, .slice a1 ((words x).length) ac1, .slice a2 1 ac2, bV false, .slice a3 0 ac3, .slice a4 1 ac4]) rfl rfl) λa A↦?_)))
 refine sct A (ef rfl rfl) (vk (show Nm _ _ a1 ac1 a2 ac2 a3 ac3 a4 ac4 from ⟨⟨(V.rd 3 rfl), ha.s1.nil, ha.s1.cap⟩, ⟨(V.rd 2 rfl), ha.s2.nil, ha.s2.cap⟩, ⟨(V.rd 1 rfl), ha.s3.nil, ha.s3.cap⟩, ⟨(V.rd 0 rfl), ha.s4.nil, ha.s4.cap⟩⟩) hl hs) ?_
 rintro _ w7 ⟨rfl, hb6⟩
 replace V := V.call hb6
 refine ⟨_, rfl, ?_⟩
 intro a A
 refine sdo (v := bV false) A (ql rfl qp) λa A↦?_
 refine qa (hK5 _ _ (cf A ?_))
 refine wp_skip (hK4 _ _ (wsk fun K8 hK8 => wsk fun K9 hK9 => wrl (sdo A (zj V SmA_isS_26 rfl 0 rfl (cs := [bV false, .slice a1 ((words x).length) ac1, .slice a2 1 ac2, bV false, .slice a3 0 ac3, .slice a4 1 ac4]) rfl rfl) λa A↦?_)))
 refine sct A (ef rfl rfl) (kq (q := Q6.whole false x) hl rfl) ?_
 rintro _ w11 ⟨rfl, hb10⟩
 replace V := V.call hb10
 refine ⟨_, rfl, ?_⟩
 intro a A
 refine sdo (v := bV false) A (ql rfl qp) λa A↦?_
 refine sdm A λa A↦?_
 refine sdo (v := pA g2 0) A (qf SmA_fld_26_0 rfl rfl) λa A↦?_
 refine sdo (v := pA g2 2) A (qf SmA_fld_24_2 rfl rfl) λa A↦?_
 refine sdo A (qn V SmA_is1_22 rfl 0 rfl rfl) λa A↦?_
 refine sct A (ef rfl rfl) (ud _ (V.rd 2 rfl) (by decide) rfl) ?_
 rintro _ w13 ⟨rfl, hb12⟩
 replace hb12 := xb hb12
 replace V := V.call hb12
 refine ⟨_, rfl, ?_⟩
 intro a A
 refine sdo (v := bV false) A (ql rfl qp) λa A↦?_
 refine sdk (v := bV false) A λa A↦?_
 refine qa (hK9 _ _ (cf A ?_))
 refine wp_skip (hK8 _ _ (wsk fun K14 hK14 => wrl (sda A λa A↦?_)))
 refine qa (hK14 _ _ (wsk fun K15 hK15 => wsk fun K16 hK16 => wrl (sdo (v := pA g2 0) A (qf SmA_fld_26_0 rfl rfl) λa A↦?_)))
 refine sdo (v := pA g2 0) A (qf SmA_fld_24_0 rfl rfl) λa A↦?_
 refine sdo A (qn V SmA_is1_4 rfl 0 rfl rfl) λa A↦?_
 refine qa (hK16 _ _ (cf A ?_))
 refine wp_skip (hK15 _ _ (wsk fun K17 hK17 => wsk fun K18 hK18 => vd (S := fun w1 => St w w1 [(g2, [bV false, .slice a1 ((words x).length) ac1, .slice a2 1 ac2, bV false, .slice a3 0 ac3, .slice a4 1 ac4])] [(a4, [1]), (a3, []), (a2, [1]), (a1, words x)] []) (by kernel_rfl) ?_))
 replace V := V.drew
 refine atk (v := pA g2 0) A 0 rfl hP V (λ_ V↦qf SmA_fld_26_0 rfl rfl) λa A↦?_
 refine atk (v := pA g2 1) A 1 rfl hP V (λ_ V↦qf SmA_fld_24_1 rfl rfl) λa A↦?_
 refine atk A 2 rfl hP V (λ_ V↦qn V SmA_is1_22 rfl 0 rfl rfl) λa A↦?_
 refine atk A 3 rfl hP V (λ_ V↦qg rfl) λa A↦?_
 refine xn (by kernel_rfl) (vb A 4 rfl rfl rfl rfl (qk  rfl rfl (fun w => by kernel_rfl)) (of_any 9223372036854775807 _ (by decide)) ?_)
 rintro _ w23 ⟨ro19, rc20, rfl, ho21, hb22⟩
 replace V := V.call hb22
 replace V := V.addR ho21.rd
 refine ⟨_, rfl, (V.partD (.refl _) 1 rfl (.refl _)), ?_⟩
 intro a A
 refine xn (by kernel_rfl) (vb A 5 rfl rfl rfl rfl (qk  rfl rfl (fun w => by kernel_rfl)) ((qbh hx hg ▸ cmp_any _ _ (V.rd 4 rfl) (V.rd 0 rfl) (by omega) (by omega))) ?_)
 rintro _ w25 ⟨rfl, hb24⟩
 replace V := V.call hb24
 refine ⟨_, rfl, (V.partD (.refl _) 1 rfl (.refl _)), ?_⟩
 intro a A
 refine atk (v := bV true) A 6 rfl hP (V.partD (.refl _) 1 rfl (.refl _)) (λ_ V↦qh rfl rfl (fun w => (ji w).trans (by rw [show (decide (0 < cmpN x 9223372036854775807)) = true from (decide_eq_true (by unfold cmpN; split <;> (try split) <;> omega))]))) λa A↦?_
 refine xp (by kernel_rfl) ?_
 refine hK18 _ _ (ct A ?_)
 refine wsk fun K26 hK26 => wrl ?_
 iterate 2 refine sda A λa A↦?_
 refine qa (hK26 _ _ (wp_ret (hret _ _ (en2 A rfl (qj rfl) (qj rfl) ?_))))
 exact ⟨rfl, V.bel⟩
theorem qxe {w : World} {x : Nat} {a1 a2 a3 a4 : Option Addr} {ac1 ac2 ac3 ac4 : Nat} (ha : Nm w (Q6.whole false x) a1 ac1 a2 ac2 a3 ac3 a4 ac4) (hl : LenQ (Q6.whole false x)) (hs : jp (Q6.whole false x) = true) (hx : (words x).length ≤ 512) (hg : (words 9223372036854775807).length ≤ 512) (hc : x ≤ 9223372036854775807) : Calls Tryz.prog 138 #[yt (Q6.whole false x) a1 ac1 a2 ac2 a3 ac3 a4 ac4] w fun e w' => e = .returned (.tuple #[iV (sgn false x), iV 0]) ∧ Below w.heap.size w w' := by
 have V : St w w [] [(a4, [1]), (a3, []), (a2, [1]), (a1, words x)] [] := ((((St.start w).addR ha.s1.rd).addR ha.s2.rd).addR ha.s3.rd).addR ha.s4.rd
 refine qx (l := [(0, .agg #[bV false, .slice a1 ((words x).length) ac1, .slice a2 1 ac2, bV false, .slice a3 0 ac3, .slice a4 1 ac4])]) Tryz.func138 rfl Tryz.ntmps138 rfl rfl ?_
 intro Q hret hnorm hP a A
 refine wsk fun K1 hK1 => wrl (jq A V rfl rfl rfl pg (zd rfl rfl) rfl ?_)
 intro g2 w3 V a A
 iterate 2 refine sda A λa A↦?_
 refine qa (hK1 _ _ (wsk fun K4 hK4 => wsk fun K5 hK5 => wrl (sdo A (zj V SmA_isS_26 rfl 0 rfl (cs := [bV false, .slice a1 ((words x).length) ac1, .slice a2 1 ac2, bV false, .slice a3 0 ac3, .slice a4 1 ac4]) rfl rfl) λa A↦?_)))
 refine sct A (ef rfl rfl) (vk (show Nm _ _ a1 ac1 a2 ac2 a3 ac3 a4 ac4 from ⟨⟨(V.rd 3 rfl), ha.s1.nil, ha.s1.cap⟩, ⟨(V.rd 2 rfl), ha.s2.nil, ha.s2.cap⟩, ⟨(V.rd 1 rfl), ha.s3.nil, ha.s3.cap⟩, ⟨(V.rd 0 rfl), ha.s4.nil, ha.s4.cap⟩⟩) hl hs) ?_
 rintro _ w7 ⟨rfl, hb6⟩
 replace V := V.call hb6
 refine ⟨_, rfl, ?_⟩
 intro a A
 refine sdo (v := bV false) A (ql rfl qp) λa A↦?_
 refine qa (hK5 _ _ (cf A ?_))
 refine wp_skip (hK4 _ _ (wsk fun K8 hK8 => wsk fun K9 hK9 => wrl (sdo A (zj V SmA_isS_26 rfl 0 rfl (cs := [bV false, .slice a1 ((words x).length) ac1, .slice a2 1 ac2, bV false, .slice a3 0 ac3, .slice a4 1 ac4]) rfl rfl) λa A↦?_)))
 refine sct A (ef rfl rfl) (kq (q := Q6.whole false x) hl rfl) ?_
 rintro _ w11 ⟨rfl, hb10⟩
 replace V := V.call hb10
 refine ⟨_, rfl, ?_⟩
 intro a A
 refine sdo (v := bV false) A (ql rfl qp) λa A↦?_
 refine sdm A λa A↦?_
 refine sdo (v := pA g2 0) A (qf SmA_fld_26_0 rfl rfl) λa A↦?_
 refine sdo (v := pA g2 2) A (qf SmA_fld_24_2 rfl rfl) λa A↦?_
 refine sdo A (qn V SmA_is1_22 rfl 0 rfl rfl) λa A↦?_
 refine sct A (ef rfl rfl) (ud _ (V.rd 2 rfl) (by decide) rfl) ?_
 rintro _ w13 ⟨rfl, hb12⟩
 replace hb12 := xb hb12
 replace V := V.call hb12
 refine ⟨_, rfl, ?_⟩
 intro a A
 refine sdo (v := bV false) A (ql rfl qp) λa A↦?_
 refine sdk (v := bV false) A λa A↦?_
 refine qa (hK9 _ _ (cf A ?_))
 refine wp_skip (hK8 _ _ (wsk fun K14 hK14 => wrl (sda A λa A↦?_)))
 refine qa (hK14 _ _ (wsk fun K15 hK15 => wsk fun K16 hK16 => wrl (sdo (v := pA g2 0) A (qf SmA_fld_26_0 rfl rfl) λa A↦?_)))
 refine sdo (v := pA g2 0) A (qf SmA_fld_24_0 rfl rfl) λa A↦?_
 refine sdo A (qn V SmA_is1_4 rfl 0 rfl rfl) λa A↦?_
 refine qa (hK16 _ _ (cf A ?_))
 refine wp_skip (hK15 _ _ (wsk fun K17 hK17 => wsk fun K18 hK18 => vd (S := fun w1 => St w w1 [(g2, [bV false, .slice a1 ((words x).length) ac1, .slice a2 1 ac2, bV false, .slice a3 0 ac3, .slice a4 1 ac4])] [(a4, [1]), (a3, []), (a2, [1]), (a1, words x)] []) (by kernel_rfl) ?_))
 replace V := V.drew
 refine atk (v := pA g2 0) A 0 rfl hP V (λ_ V↦qf SmA_fld_26_0 rfl rfl) λa A↦?_
 refine atk (v := pA g2 1) A 1 rfl hP V (λ_ V↦qf SmA_fld_24_1 rfl rfl) λa A↦?_
 refine atk A 2 rfl hP V (λ_ V↦qn V SmA_is1_22 rfl 0 rfl rfl) λa A↦?_
 refine atk A 3 rfl hP V (λ_ V↦qg rfl) λa A↦?_
 refine xn (by kernel_rfl) (vb A 4 rfl rfl rfl rfl (qk  rfl rfl (fun w => by kernel_rfl)) (of_any 9223372036854775807 _ (by decide)) ?_)
 rintro _ w23 ⟨ro19, rc20, rfl, ho21, hb22⟩
 replace V := V.call hb22
 replace V := V.addR ho21.rd
 refine ⟨_, rfl, (V.partD (.refl _) 1 rfl (.refl _)), ?_⟩
 intro a A
 refine xn (by kernel_rfl) (vb A 5 rfl rfl rfl rfl (qk  rfl rfl (fun w => by kernel_rfl)) ((qbh hx hg ▸ cmp_any _ _ (V.rd 4 rfl) (V.rd 0 rfl) (by omega) (by omega))) ?_)
 rintro _ w25 ⟨rfl, hb24⟩
 replace V := V.call hb24
 refine ⟨_, rfl, (V.partD (.refl _) 1 rfl (.refl _)), ?_⟩
 intro a A
 refine atk (v := bV false) A 6 rfl hP (V.partD (.refl _) 1 rfl (.refl _)) (λ_ V↦qh rfl rfl (fun w => (ji w).trans (by rw [show (decide (0 < cmpN x 9223372036854775807)) = false from (decide_eq_false (by unfold cmpN; split <;> (try split) <;> omega))]))) λa A↦?_
 refine xp (by kernel_rfl) ?_
 refine hK18 _ _ (cf A ?_)
 refine wp_skip (hK17 _ _ (wsk fun K26 hK26 => wrl (sdo (v := pA g2 0) A (qf SmA_fld_26_0 rfl rfl) λa A↦?_)))
 refine sdo A (zj V SmA_isS_24 rfl 0 rfl (cs := [bV false, .slice a1 ((words x).length) ac1, .slice a2 1 ac2]) rfl rfl) λa A↦?_
 refine sct A (ef rfl rfl) (qpi (b := false) (x := x) (V.rd 4 rfl) (by simp; omega)) ?_
 rintro _ w28 ⟨rfl, hb27⟩
 replace V := V.call hb27
 refine ⟨_, rfl, ?_⟩
 intro a A
 iterate 2 refine sda A λa A↦?_
 refine qa (hK26 _ _ (wp_ret (hret _ _ (en2 A rfl (qj rfl) (qj rfl) ?_))))
 exact ⟨rfl, V.bel⟩
theorem qxf {w : World} {x : Nat} {a1 a2 a3 a4 : Option Addr} {ac1 ac2 ac3 ac4 : Nat} (ha : Nm w (Q6.whole true x) a1 ac1 a2 ac2 a3 ac3 a4 ac4) (hl : LenQ (Q6.whole true x)) (hs : jp (Q6.whole true x) = true) (hx : (words x).length ≤ 512) (hg : (words 9223372036854775808).length ≤ 512) (hc : ¬ x ≤ 9223372036854775808) : Calls Tryz.prog 138 #[yt (Q6.whole true x) a1 ac1 a2 ac2 a3 ac3 a4 ac4] w fun e w' => e = .returned (.tuple #[iV 0, iV 4]) ∧ Below w.heap.size w w' := by
 have V : St w w [] [(a4, [1]), (a3, []), (a2, [1]), (a1, words x)] [] := ((((St.start w).addR ha.s1.rd).addR ha.s2.rd).addR ha.s3.rd).addR ha.s4.rd
 refine qx (l := [(0, .agg #[bV true, .slice a1 ((words x).length) ac1, .slice a2 1 ac2, bV false, .slice a3 0 ac3, .slice a4 1 ac4])]) Tryz.func138 rfl Tryz.ntmps138 rfl rfl ?_
 intro Q hret hnorm hP a A
 refine wsk fun K1 hK1 => wrl (jq A V rfl rfl rfl pg (zd rfl rfl) rfl ?_)
 intro g2 w3 V a A
 iterate 2 refine sda A λa A↦?_
 refine qa (hK1 _ _ (wsk fun K4 hK4 => wsk fun K5 hK5 => wrl (sdo A (zj V SmA_isS_26 rfl 0 rfl (cs := [bV true, .slice a1 ((words x).length) ac1, .slice a2 1 ac2, bV false, .slice a3 0 ac3, .slice a4 1 ac4]) rfl rfl) λa A↦?_)))
 refine sct A (ef rfl rfl) (vk (show Nm _ _ a1 ac1 a2 ac2 a3 ac3 a4 ac4 from ⟨⟨(V.rd 3 rfl), ha.s1.nil, ha.s1.cap⟩, ⟨(V.rd 2 rfl), ha.s2.nil, ha.s2.cap⟩, ⟨(V.rd 1 rfl), ha.s3.nil, ha.s3.cap⟩, ⟨(V.rd 0 rfl), ha.s4.nil, ha.s4.cap⟩⟩) hl hs) ?_
 rintro _ w7 ⟨rfl, hb6⟩
 replace V := V.call hb6
 refine ⟨_, rfl, ?_⟩
 intro a A
 refine sdo (v := bV false) A (ql rfl qp) λa A↦?_
 refine qa (hK5 _ _ (cf A ?_))
 refine wp_skip (hK4 _ _ (wsk fun K8 hK8 => wsk fun K9 hK9 => wrl (sdo A (zj V SmA_isS_26 rfl 0 rfl (cs := [bV true, .slice a1 ((words x).length) ac1, .slice a2 1 ac2, bV false, .slice a3 0 ac3, .slice a4 1 ac4]) rfl rfl) λa A↦?_)))
 refine sct A (ef rfl rfl) (kq (q := Q6.whole true x) hl rfl) ?_
 rintro _ w11 ⟨rfl, hb10⟩
 replace V := V.call hb10
 refine ⟨_, rfl, ?_⟩
 intro a A
 refine sdo (v := bV false) A (ql rfl qp) λa A↦?_
 refine sdm A λa A↦?_
 refine sdo (v := pA g2 0) A (qf SmA_fld_26_0 rfl rfl) λa A↦?_
 refine sdo (v := pA g2 2) A (qf SmA_fld_24_2 rfl rfl) λa A↦?_
 refine sdo A (qn V SmA_is1_22 rfl 0 rfl rfl) λa A↦?_
 refine sct A (ef rfl rfl) (ud _ (V.rd 2 rfl) (by decide) rfl) ?_
 rintro _ w13 ⟨rfl, hb12⟩
 replace hb12 := xb hb12
 replace V := V.call hb12
 refine ⟨_, rfl, ?_⟩
 intro a A
 refine sdo (v := bV false) A (ql rfl qp) λa A↦?_
 refine sdk (v := bV false) A λa A↦?_
 refine qa (hK9 _ _ (cf A ?_))
 refine wp_skip (hK8 _ _ (wsk fun K14 hK14 => wrl (sda A λa A↦?_)))
 refine qa (hK14 _ _ (wsk fun K15 hK15 => wsk fun K16 hK16 => wrl (sdo (v := pA g2 0) A (qf SmA_fld_26_0 rfl rfl) λa A↦?_)))
 refine sdo (v := pA g2 0) A (qf SmA_fld_24_0 rfl rfl) λa A↦?_
 refine sdo A (qn V SmA_is1_4 rfl 0 rfl rfl) λa A↦?_
 refine qa (hK16 _ _ (ct A ?_))
 refine wrl (sdm A λa A↦?_)
 refine sdo (v := .int .u64 9223372036854775808) A (qh rfl rfl (ar_add (by decide))) λa A↦?_
 refine sda A λa A↦?_
 refine qa (hK15 _ _ (wsk fun K17 hK17 => wsk fun K18 hK18 => vd (S := fun w1 => St w w1 [(g2, [bV true, .slice a1 ((words x).length) ac1, .slice a2 1 ac2, bV false, .slice a3 0 ac3, .slice a4 1 ac4])] [(a4, [1]), (a3, []), (a2, [1]), (a1, words x)] []) (by kernel_rfl) ?_))
 replace V := V.drew
 refine atk (v := pA g2 0) A 0 rfl hP V (λ_ V↦qf SmA_fld_26_0 rfl rfl) λa A↦?_
 refine atk (v := pA g2 1) A 1 rfl hP V (λ_ V↦qf SmA_fld_24_1 rfl rfl) λa A↦?_
 refine atk A 2 rfl hP V (λ_ V↦qn V SmA_is1_22 rfl 0 rfl rfl) λa A↦?_
 refine atk A 3 rfl hP V (λ_ V↦qg rfl) λa A↦?_
 refine xn (by kernel_rfl) (vb A 4 rfl rfl rfl rfl (qk  rfl rfl (fun w => by kernel_rfl)) (of_any 9223372036854775808 _ (by decide)) ?_)
 rintro _ w23 ⟨ro19, rc20, rfl, ho21, hb22⟩
 replace V := V.call hb22
 replace V := V.addR ho21.rd
 refine ⟨_, rfl, (V.partD (.refl _) 1 rfl (.refl _)), ?_⟩
 intro a A
 refine xn (by kernel_rfl) (vb A 5 rfl rfl rfl rfl (qk  rfl rfl (fun w => by kernel_rfl)) ((qbh hx hg ▸ cmp_any _ _ (V.rd 4 rfl) (V.rd 0 rfl) (by omega) (by omega))) ?_)
 rintro _ w25 ⟨rfl, hb24⟩
 replace V := V.call hb24
 refine ⟨_, rfl, (V.partD (.refl _) 1 rfl (.refl _)), ?_⟩
 intro a A
 refine atk (v := bV true) A 6 rfl hP (V.partD (.refl _) 1 rfl (.refl _)) (λ_ V↦qh rfl rfl (fun w => (ji w).trans (by rw [show (decide (0 < cmpN x 9223372036854775808)) = true from (decide_eq_true (by unfold cmpN; split <;> (try split) <;> omega))]))) λa A↦?_
 refine xp (by kernel_rfl) ?_
 refine hK18 _ _ (ct A ?_)
 refine wsk fun K26 hK26 => wrl ?_
 iterate 2 refine sda A λa A↦?_
 refine qa (hK26 _ _ (wp_ret (hret _ _ (en2 A rfl (qj rfl) (qj rfl) ?_))))
 exact ⟨rfl, V.bel⟩
theorem qxg {w : World} {x : Nat} {a1 a2 a3 a4 : Option Addr} {ac1 ac2 ac3 ac4 : Nat} (ha : Nm w (Q6.whole true x) a1 ac1 a2 ac2 a3 ac3 a4 ac4) (hl : LenQ (Q6.whole true x)) (hs : jp (Q6.whole true x) = true) (hx : (words x).length ≤ 512) (hg : (words 9223372036854775808).length ≤ 512) (hc : x ≤ 9223372036854775808) : Calls Tryz.prog 138 #[yt (Q6.whole true x) a1 ac1 a2 ac2 a3 ac3 a4 ac4] w fun e w' => e = .returned (.tuple #[iV (sgn true x), iV 0]) ∧ Below w.heap.size w w' := by
 have V : St w w [] [(a4, [1]), (a3, []), (a2, [1]), (a1, words x)] [] := ((((St.start w).addR ha.s1.rd).addR ha.s2.rd).addR ha.s3.rd).addR ha.s4.rd
 refine qx (l := [(0, .agg #[bV true, .slice a1 ((words x).length) ac1, .slice a2 1 ac2, bV false, .slice a3 0 ac3, .slice a4 1 ac4])]) Tryz.func138 rfl Tryz.ntmps138 rfl rfl ?_
 intro Q hret hnorm hP a A
 refine wsk fun K1 hK1 => wrl (jq A V rfl rfl rfl pg (zd rfl rfl) rfl ?_)
 intro g2 w3 V a A
 iterate 2 refine sda A λa A↦?_
 refine qa (hK1 _ _ (wsk fun K4 hK4 => wsk fun K5 hK5 => wrl (sdo A (zj V SmA_isS_26 rfl 0 rfl (cs := [bV true, .slice a1 ((words x).length) ac1, .slice a2 1 ac2, bV false, .slice a3 0 ac3, .slice a4 1 ac4]) rfl rfl) λa A↦?_)))
 refine sct A (ef rfl rfl) (vk (show Nm _ _ a1 ac1 a2 ac2 a3 ac3 a4 ac4 from ⟨⟨(V.rd 3 rfl), ha.s1.nil, ha.s1.cap⟩, ⟨(V.rd 2 rfl), ha.s2.nil, ha.s2.cap⟩, ⟨(V.rd 1 rfl), ha.s3.nil, ha.s3.cap⟩, ⟨(V.rd 0 rfl), ha.s4.nil, ha.s4.cap⟩⟩) hl hs) ?_
 rintro _ w7 ⟨rfl, hb6⟩
 replace V := V.call hb6
 refine ⟨_, rfl, ?_⟩
 intro a A
 refine sdo (v := bV false) A (ql rfl qp) λa A↦?_
 refine qa (hK5 _ _ (cf A ?_))
 refine wp_skip (hK4 _ _ (wsk fun K8 hK8 => wsk fun K9 hK9 => wrl (sdo A (zj V SmA_isS_26 rfl 0 rfl (cs := [bV true, .slice a1 ((words x).length) ac1, .slice a2 1 ac2, bV false, .slice a3 0 ac3, .slice a4 1 ac4]) rfl rfl) λa A↦?_)))
 refine sct A (ef rfl rfl) (kq (q := Q6.whole true x) hl rfl) ?_
 rintro _ w11 ⟨rfl, hb10⟩
 replace V := V.call hb10
 refine ⟨_, rfl, ?_⟩
 intro a A
 refine sdo (v := bV false) A (ql rfl qp) λa A↦?_
 refine sdm A λa A↦?_
 refine sdo (v := pA g2 0) A (qf SmA_fld_26_0 rfl rfl) λa A↦?_
 refine sdo (v := pA g2 2) A (qf SmA_fld_24_2 rfl rfl) λa A↦?_
 refine sdo A (qn V SmA_is1_22 rfl 0 rfl rfl) λa A↦?_
 refine sct A (ef rfl rfl) (ud _ (V.rd 2 rfl) (by decide) rfl) ?_
 rintro _ w13 ⟨rfl, hb12⟩
 replace hb12 := xb hb12
 replace V := V.call hb12
 refine ⟨_, rfl, ?_⟩
 intro a A
 refine sdo (v := bV false) A (ql rfl qp) λa A↦?_
 refine sdk (v := bV false) A λa A↦?_
 refine qa (hK9 _ _ (cf A ?_))
 refine wp_skip (hK8 _ _ (wsk fun K14 hK14 => wrl (sda A λa A↦?_)))
 refine qa (hK14 _ _ (wsk fun K15 hK15 => wsk fun K16 hK16 => wrl (sdo (v := pA g2 0) A (qf SmA_fld_26_0 rfl rfl) λa A↦?_)))
 refine sdo (v := pA g2 0) A (qf SmA_fld_24_0 rfl rfl) λa A↦?_
 refine sdo A (qn V SmA_is1_4 rfl 0 rfl rfl) λa A↦?_
 refine qa (hK16 _ _ (ct A ?_))
 refine wrl (sdm A λa A↦?_)
 refine sdo (v := .int .u64 9223372036854775808) A (qh rfl rfl (ar_add (by decide))) λa A↦?_
 refine sda A λa A↦?_
 refine qa (hK15 _ _ (wsk fun K17 hK17 => wsk fun K18 hK18 => vd (S := fun w1 => St w w1 [(g2, [bV true, .slice a1 ((words x).length) ac1, .slice a2 1 ac2, bV false, .slice a3 0 ac3, .slice a4 1 ac4])] [(a4, [1]), (a3, []), (a2, [1]), (a1, words x)] []) (by kernel_rfl) ?_))
 replace V := V.drew
 refine atk (v := pA g2 0) A 0 rfl hP V (λ_ V↦qf SmA_fld_26_0 rfl rfl) λa A↦?_
 refine atk (v := pA g2 1) A 1 rfl hP V (λ_ V↦qf SmA_fld_24_1 rfl rfl) λa A↦?_
 refine atk A 2 rfl hP V (λ_ V↦qn V SmA_is1_22 rfl 0 rfl rfl) λa A↦?_
 refine atk A 3 rfl hP V (λ_ V↦qg rfl) λa A↦?_
 refine xn (by kernel_rfl) (vb A 4 rfl rfl rfl rfl (qk  rfl rfl (fun w => by kernel_rfl)) (of_any 9223372036854775808 _ (by decide)) ?_)
 rintro _ w23 ⟨ro19, rc20, rfl, ho21, hb22⟩
 replace V := V.call hb22
 replace V := V.addR ho21.rd
 refine ⟨_, rfl, (V.partD (.refl _) 1 rfl (.refl _)), ?_⟩
 intro a A
 refine xn (by kernel_rfl) (vb A 5 rfl rfl rfl rfl (qk  rfl rfl (fun w => by kernel_rfl)) ((qbh hx hg ▸ cmp_any _ _ (V.rd 4 rfl) (V.rd 0 rfl) (by omega) (by omega))) ?_)
 rintro _ w25 ⟨rfl, hb24⟩
 replace V := V.call hb24
 refine ⟨_, rfl, (V.partD (.refl _) 1 rfl (.refl _)), ?_⟩
 intro a A
 refine atk (v := bV false) A 6 rfl hP (V.partD (.refl _) 1 rfl (.refl _)) (λ_ V↦qh rfl rfl (fun w => (ji w).trans (by rw [show (decide (0 < cmpN x 9223372036854775808)) = false from (decide_eq_false (by unfold cmpN; split <;> (try split) <;> omega))]))) λa A↦?_
 refine xp (by kernel_rfl) ?_
 refine hK18 _ _ (cf A ?_)
 refine wp_skip (hK17 _ _ (wsk fun K26 hK26 => wrl (sdo (v := pA g2 0) A (qf SmA_fld_26_0 rfl rfl) λa A↦?_)))
 refine sdo A (zj V SmA_isS_24 rfl 0 rfl (cs := [bV true, .slice a1 ((words x).length) ac1, .slice a2 1 ac2]) rfl rfl) λa A↦?_
 refine sct A (ef rfl rfl) (qpi (b := true) (x := x) (V.rd 4 rfl) (by simp; omega)) ?_
 rintro _ w28 ⟨rfl, hb27⟩
 replace V := V.call hb27
 refine ⟨_, rfl, ?_⟩
 intro a A
 iterate 2 refine sda A λa A↦?_
 refine qa (hK26 _ _ (wp_ret (hret _ _ (en2 A rfl (qj rfl) (qj rfl) ?_))))
 exact ⟨rfl, V.bel⟩
theorem qsh {n : Nat} (h : n < 18446744073709551616) : (words n).length ≤ 512 := Nat.le_trans (words_length_le (k := 2) (by rw [show pw 2 = 18446744073709551616 from rfl]; exact h)) (by decide)
theorem zbg {w : World} {q : Q6} {a1 a2 a3 a4 : Option Addr} {ac1 ac2 ac3 ac4 : Nat} (ha : Nm w q a1 ac1 a2 ac2 a3 ac3 a4 ac4) (hl : LenQ q) : Calls Tryz.prog 138 #[yt q a1 ac1 a2 ac2 a3 ac3 a4 ac4] w fun e w' => e = .returned (.tuple #[iV (zu q).1, iV (zu q).2]) ∧ Below w.heap.size w w' := by
 cases h1 : jp q with
 | false =>
  rw [qdf h1]
  exact qxa ha hl h1
 | true =>
  cases hw : xq q with
  | false =>
   rw [qha h1 hw]
   cases h2 : decide (q.t2.length = 0) with
   | false => exact qxb ha hl h1 h2
   | true =>
    cases h3 : decide (q.q1 = [1]) with
    | false => exact qxc ha hl h1 h2 h3
    | true =>
     unfold xq at hw
     rw [h1, h2, h3] at hw
     cases hw
  | true =>
   obtain ⟨x, e, hx, hb⟩ := qjd ha.s1.rd.dig ha.s4.rd.dig hw
   generalize q.b1 = b at e hb
   subst e
   rw [qej hw]
   unfold qkb
   cases b
   ·
    by_cases hc : x ≤ 9223372036854775807
    ·
     rw [if_pos (by simp; omega)]
     exact qxe ha hl h1 hx (qsh (by decide)) hc
    ·
     rw [if_neg (by simp; omega)]
     exact qxd ha hl h1 hx (qsh (by decide)) hc
   ·
    by_cases hc : x ≤ 9223372036854775808
    ·
     rw [if_pos (by simp; omega)]
     exact qxg ha hl h1 hx (qsh (by decide)) hc
    ·
     rw [if_neg (by simp; omega)]
     exact qxf ha hl h1 hx (qsh (by decide)) hc
theorem SmB_is1_161 : Is1 Tryz.prog 161 := ⟨⟨_, Tryz.underlying161, rfl⟩, by kernel_rfl⟩
theorem SmB_is1_22 : Is1 Tryz.prog 22 := ⟨⟨_, Tryz.underlying22, rfl⟩, by kernel_rfl⟩
theorem SmB_is1_4 : Is1 Tryz.prog 4 := ⟨⟨_, Tryz.underlying4, rfl⟩, by kernel_rfl⟩
theorem SmB_fld_24_0 : FieldAt Tryz.prog 24 0 0 := ⟨_, _, Tryz.underlying24, rfl, rfl, by kernel_rfl⟩
theorem SmB_fld_24_1 : FieldAt Tryz.prog 24 1 1 := ⟨_, _, Tryz.underlying24, rfl, rfl, by kernel_rfl⟩
theorem SmB_fld_26_0 : FieldAt Tryz.prog 26 0 0 := ⟨_, _, Tryz.underlying26, rfl, rfl, by kernel_rfl⟩
theorem SmB_isS_26 : IsS Tryz.prog 26 6 := ⟨⟨_, Tryz.underlying26⟩, by kernel_rfl⟩
theorem qtd {w : World} {q : Q6} {a1 a2 a3 a4 : Option Addr} {ac1 ac2 ac3 ac4 : Nat} (ha : Nm w q a1 ac1 a2 ac2 a3 ac3 a4 ac4) (hl : LenQ q) (h1 : jp q = false) : Calls Tryz.prog 60 #[yt q a1 ac1 a2 ac2 a3 ac3 a4 ac4] w fun e w' => e = .returned (.tuple #[iV 0, iV 2]) ∧ Below w.heap.size w w' := by
 have S : St w w [] [(a4, q.q2), (a3, q.t2), (a2, q.q1), (a1, q.t1)] [] := ((((St.start w).addR ha.s1.rd).addR ha.s2.rd).addR ha.s3.rd).addR ha.s4.rd
 refine qx (l := [(0, .agg #[bV q.b1, .slice a1 q.t1.length ac1, .slice a2 q.q1.length ac2, bV q.b2, .slice a3 q.t2.length ac3, .slice a4 q.q2.length ac4])]) Tryz.func60 rfl Tryz.ntmps60 rfl rfl ?_
 intro Q hret hnorm hP a A
 refine wsk fun K1 hK1 => wrl (jq A S rfl rfl rfl pg (zd rfl rfl) rfl ?_)
 intro g2 w3 S a A
 iterate 2 refine sda A λa A↦?_
 refine qa (hK1 _ _ (wsk fun K4 hK4 => wsk fun K5 hK5 => wrl (sdo A (zj S SmB_isS_26 rfl 0 rfl (cs := [bV q.b1, .slice a1 q.t1.length ac1, .slice a2 q.q1.length ac2, bV q.b2, .slice a3 q.t2.length ac3, .slice a4 q.q2.length ac4]) rfl rfl) λa A↦?_)))
 refine sct A (ef rfl rfl) (jy (show Nm _ _ a1 ac1 a2 ac2 a3 ac3 a4 ac4 from ⟨⟨(S.rd 3 rfl), ha.s1.nil, ha.s1.cap⟩, ⟨(S.rd 2 rfl), ha.s2.nil, ha.s2.cap⟩, ⟨(S.rd 1 rfl), ha.s3.nil, ha.s3.cap⟩, ⟨(S.rd 0 rfl), ha.s4.nil, ha.s4.cap⟩⟩) hl h1) ?_
 rintro _ w7 ⟨rfl, hb6⟩
 replace S := S.call hb6
 refine ⟨_, rfl, ?_⟩
 intro a A
 refine sdo (v := bV true) A (ql rfl qp) λa A↦?_
 refine qa (hK5 _ _ (ct A ?_))
 refine wsk fun K8 hK8 => wrl ?_
 iterate 2 refine sda A λa A↦?_
 refine qa (hK8 _ _ (wp_ret (hret _ _ (en2 A rfl (qj rfl) (qj rfl) ?_))))
 exact ⟨rfl, S.bel⟩
theorem qte {w : World} {q : Q6} {a1 a2 a3 a4 : Option Addr} {ac1 ac2 ac3 ac4 : Nat} (ha : Nm w q a1 ac1 a2 ac2 a3 ac3 a4 ac4) (hl : LenQ q) (h1 : jp q = true) (h2 : xq q = false) : Calls Tryz.prog 60 #[yt q a1 ac1 a2 ac2 a3 ac3 a4 ac4] w fun e w' => e = .returned (.tuple #[iV 0, iV 10]) ∧ Below w.heap.size w w' := by
 have S : St w w [] [(a4, q.q2), (a3, q.t2), (a2, q.q1), (a1, q.t1)] [] := ((((St.start w).addR ha.s1.rd).addR ha.s2.rd).addR ha.s3.rd).addR ha.s4.rd
 refine qx (l := [(0, .agg #[bV q.b1, .slice a1 q.t1.length ac1, .slice a2 q.q1.length ac2, bV q.b2, .slice a3 q.t2.length ac3, .slice a4 q.q2.length ac4])]) Tryz.func60 rfl Tryz.ntmps60 rfl rfl ?_
 intro Q hret hnorm hP a A
 refine wsk fun K1 hK1 => wrl (jq A S rfl rfl rfl pg (zd rfl rfl) rfl ?_)
 intro g2 w3 S a A
 iterate 2 refine sda A λa A↦?_
 refine qa (hK1 _ _ (wsk fun K4 hK4 => wsk fun K5 hK5 => wrl (sdo A (zj S SmB_isS_26 rfl 0 rfl (cs := [bV q.b1, .slice a1 q.t1.length ac1, .slice a2 q.q1.length ac2, bV q.b2, .slice a3 q.t2.length ac3, .slice a4 q.q2.length ac4]) rfl rfl) λa A↦?_)))
 refine sct A (ef rfl rfl) (jy (show Nm _ _ a1 ac1 a2 ac2 a3 ac3 a4 ac4 from ⟨⟨(S.rd 3 rfl), ha.s1.nil, ha.s1.cap⟩, ⟨(S.rd 2 rfl), ha.s2.nil, ha.s2.cap⟩, ⟨(S.rd 1 rfl), ha.s3.nil, ha.s3.cap⟩, ⟨(S.rd 0 rfl), ha.s4.nil, ha.s4.cap⟩⟩) hl h1) ?_
 rintro _ w7 ⟨rfl, hb6⟩
 replace S := S.call hb6
 refine ⟨_, rfl, ?_⟩
 intro a A
 refine sdo (v := bV false) A (ql rfl qp) λa A↦?_
 refine qa (hK5 _ _ (cf A ?_))
 refine wp_skip (hK4 _ _ (wsk fun K8 hK8 => wsk fun K9 hK9 => wrl (sdo A (zj S SmB_isS_26 rfl 0 rfl (cs := [bV q.b1, .slice a1 q.t1.length ac1, .slice a2 q.q1.length ac2, bV q.b2, .slice a3 q.t2.length ac3, .slice a4 q.q2.length ac4]) rfl rfl) λa A↦?_)))
 refine sct A (ef rfl rfl) (xz (show Nm _ _ a1 ac1 a2 ac2 a3 ac3 a4 ac4 from ⟨⟨(S.rd 3 rfl), ha.s1.nil, ha.s1.cap⟩, ⟨(S.rd 2 rfl), ha.s2.nil, ha.s2.cap⟩, ⟨(S.rd 1 rfl), ha.s3.nil, ha.s3.cap⟩, ⟨(S.rd 0 rfl), ha.s4.nil, ha.s4.cap⟩⟩) hl h2) ?_
 rintro _ w11 ⟨rfl, hb10⟩
 replace S := S.call hb10
 refine ⟨_, rfl, ?_⟩
 intro a A
 refine sdo (v := bV true) A (ql rfl qp) λa A↦?_
 refine qa (hK9 _ _ (ct A ?_))
 refine wsk fun K12 hK12 => wrl ?_
 iterate 2 refine sda A λa A↦?_
 refine qa (hK12 _ _ (wp_ret (hret _ _ (en2 A rfl (qj rfl) (qj rfl) ?_))))
 exact ⟨rfl, S.bel⟩
theorem qnf {w : World}  {a1 a2 a3 a4 : Option Addr} {ac1 ac2 ac3 ac4 : Nat} (ha : Nm w ((⟨false, [], [1], false, [], [1]⟩ : Q6)) a1 ac1 a2 ac2 a3 ac3 a4 ac4) (hs : jp (⟨false, [], [1], false, [], [1]⟩ : Q6) = true) (hw : xq (⟨false, [], [1], false, [], [1]⟩ : Q6) = true) (hk : (words (0)) = []) (hz : bl (0) ≤ 64) (hc : 0 ≤ 9223372036854775807) : Calls Tryz.prog 60 #[yt (⟨false, [], [1], false, [], [1]⟩ : Q6) a1 ac1 a2 ac2 a3 ac3 a4 ac4] w fun e w' => e = .returned (.tuple #[iV (sgn false (0)), iV 0]) ∧ Below w.heap.size w w' := by
 have S : St w w [] [(a4, [1]), (a3, []), (a2, [1]), (a1, [])] [] := ((((St.start w).addR ha.s1.rd).addR ha.s2.rd).addR ha.s3.rd).addR ha.s4.rd
 refine qx (l := [(0, .agg #[bV false, .slice a1 0 ac1, .slice a2 1 ac2, bV false, .slice a3 0 ac3, .slice a4 1 ac4])]) Tryz.func60 rfl Tryz.ntmps60 rfl rfl ?_
 intro Q hret hnorm hP a A
 refine wsk fun K1 hK1 => wrl (jq A S rfl rfl rfl pg (zd rfl rfl) rfl ?_)
 intro g2 w3 S a A
 iterate 2 refine sda A λa A↦?_
 refine qa (hK1 _ _ (wsk fun K4 hK4 => wsk fun K5 hK5 => wrl (sdo A (zj S SmB_isS_26 rfl 0 rfl (cs := [bV false, .slice a1 0 ac1, .slice a2 1 ac2, bV false, .slice a3 0 ac3, .slice a4 1 ac4]) rfl rfl) λa A↦?_)))
 refine sct A (ef rfl rfl) (jy (show Nm _ _ a1 ac1 a2 ac2 a3 ac3 a4 ac4 from ⟨⟨(S.rd 3 rfl), ha.s1.nil, ha.s1.cap⟩, ⟨(S.rd 2 rfl), ha.s2.nil, ha.s2.cap⟩, ⟨(S.rd 1 rfl), ha.s3.nil, ha.s3.cap⟩, ⟨(S.rd 0 rfl), ha.s4.nil, ha.s4.cap⟩⟩) ⟨Nat.le_of_ble_eq_true rfl, Nat.le_of_ble_eq_true rfl, Nat.le_of_ble_eq_true rfl, Nat.le_of_ble_eq_true rfl⟩ hs) ?_
 rintro _ w7 ⟨rfl, hb6⟩
 replace S := S.call hb6
 refine ⟨_, rfl, ?_⟩
 intro a A
 refine sdo (v := bV false) A (ql rfl qp) λa A↦?_
 refine qa (hK5 _ _ (cf A ?_))
 refine wp_skip (hK4 _ _ (wsk fun K8 hK8 => wsk fun K9 hK9 => wrl (sdo A (zj S SmB_isS_26 rfl 0 rfl (cs := [bV false, .slice a1 0 ac1, .slice a2 1 ac2, bV false, .slice a3 0 ac3, .slice a4 1 ac4]) rfl rfl) λa A↦?_)))
 refine sct A (ef rfl rfl) (xz (show Nm _ _ a1 ac1 a2 ac2 a3 ac3 a4 ac4 from ⟨⟨(S.rd 3 rfl), ha.s1.nil, ha.s1.cap⟩, ⟨(S.rd 2 rfl), ha.s2.nil, ha.s2.cap⟩, ⟨(S.rd 1 rfl), ha.s3.nil, ha.s3.cap⟩, ⟨(S.rd 0 rfl), ha.s4.nil, ha.s4.cap⟩⟩) ⟨Nat.le_of_ble_eq_true rfl, Nat.le_of_ble_eq_true rfl, Nat.le_of_ble_eq_true rfl, Nat.le_of_ble_eq_true rfl⟩ hw) ?_
 rintro _ w11 ⟨rfl, hb10⟩
 replace S := S.call hb10
 refine ⟨_, rfl, ?_⟩
 intro a A
 refine sdo (v := bV false) A (ql rfl qp) λa A↦?_
 refine qa (hK9 _ _ (cf A ?_))
 refine wp_skip (hK8 _ _ (wsk fun K12 hK12 => wsk fun K13 hK13 => wrl (sdo (v := pA g2 0) A (qf SmB_fld_26_0 rfl rfl) λa A↦?_)))
 refine sdo (v := pA g2 1) A (qf SmB_fld_24_1 rfl rfl) λa A↦?_
 refine sdo A (qn S SmB_is1_22 rfl 0 rfl rfl) λa A↦?_
 refine sct A (ef rfl rfl) ((show Calls Tryz.prog 102 #[.slice a1 0 ac1] _ (fun e w' => e = .returned (iV ((bl (0) : Nat) : Int)) ∧ w' = _) from (by have h9 := size_any (x := 0) ac1 (show Rd _ a1 (words (0)) from (by rw [hk]; exact (S.rd 3 rfl))) (by rw [hk]; exact Nat.le_of_ble_eq_true rfl); rw [hk] at h9; exact h9))) ?_
 rintro _ w15 ⟨rfl, hb14⟩
 replace hb14 := xb hb14
 replace S := S.call hb14
 refine ⟨_, rfl, ?_⟩
 intro a A
 refine sdo (v := bV false) A (qh rfl rfl (fun w => (ji w).trans (by rw [show (decide (64 < ((bl (0) : Nat) : Int))) = false from (decide_eq_false (by omega))]))) λa A↦?_
 refine qa (hK13 _ _ (cf A ?_))
 refine wp_skip (hK12 _ _ (wsk fun K16 hK16 => wrl (sda A λa A↦?_)))
 refine qa (hK16 _ _ (wsk fun K17 hK17 => wsk fun K18 hK18 => wrl (sdo (v := pA g2 0) A (qf SmB_fld_26_0 rfl rfl) λa A↦?_)))
 refine sdo (v := pA g2 1) A (qf SmB_fld_24_1 rfl rfl) λa A↦?_
 refine sdo A (qn S SmB_is1_22 rfl 0 rfl rfl) λa A↦?_
 refine sdo A (qy Tryz.underlying22 rfl) λa A↦?_
 refine sdo (v := iV (-1)) A dbK λa A↦?_
 refine sda A λa A↦?_
 refine qa (hK18 _ _ (wp_block (wp_loop_rounds 12 ?_)))
 refine zt fun K19 hK19 => ?_
 refine wsk fun K20 hK20 => wsk fun K21 hK21 => wrl (sdm A λa A↦?_)
 refine sdo (v := bV false) A dbK λa A↦?_
 refine qa (hK21 _ _ (cf A ?_))
 refine wp_exit (hK17 _ _ (wsk fun K22 hK22 => wsk fun K23 hK23 => wrl (sdo (v := pA g2 0) A (qf SmB_fld_26_0 rfl rfl) λa A↦?_)))
 refine sdo (v := pA g2 0) A (qf SmB_fld_24_0 rfl rfl) λa A↦?_
 refine sdo A (qn S SmB_is1_4 rfl 0 rfl rfl) λa A↦?_
 refine qa (hK23 _ _ (cf A ?_))
 refine wp_skip (hK22 _ _ (wsk fun K24 hK24 => wsk fun K25 hK25 => wrl (sdm A λa A↦?_)))
 refine sdo (v := bV false) A dbK λa A↦?_
 refine qa (hK25 _ _ (cf A ?_))
 refine wp_skip (hK24 _ _ (wsk fun K26 hK26 => wrl (sdm A λa A↦?_)))
 refine sdo (v := iV 0) A (zk rfl (ar_conv Tryz.underlying160 Tryz.underlying3 (in_i64 (by omega) (by omega)))) λa A↦?_
 iterate 2 refine sda A λa A↦?_
 refine qa (hK26 _ _ (wp_ret (hret _ _ (en2 A rfl (qj rfl) (qj rfl) ?_))))
 exact ⟨by rw [show 0 = sgn false (0) from by simp only [sgn]; first | rfl | omega | (simp; omega)], S.bel⟩
theorem qng {w : World} {d0 : Nat} (h0 : d0 < 4294967296) {a1 a2 a3 a4 : Option Addr} {ac1 ac2 ac3 ac4 : Nat} (ha : Nm w ((⟨false, [d0], [1], false, [], [1]⟩ : Q6)) a1 ac1 a2 ac2 a3 ac3 a4 ac4) (hs : jp (⟨false, [d0], [1], false, [], [1]⟩ : Q6) = true) (hw : xq (⟨false, [d0], [1], false, [], [1]⟩ : Q6) = true) (hk : (words (d0)) = [d0]) (hz : bl (d0) ≤ 64) (hc : d0 ≤ 9223372036854775807) : Calls Tryz.prog 60 #[yt (⟨false, [d0], [1], false, [], [1]⟩ : Q6) a1 ac1 a2 ac2 a3 ac3 a4 ac4] w fun e w' => e = .returned (.tuple #[iV (sgn false (d0)), iV 0]) ∧ Below w.heap.size w w' := by
 have S : St w w [] [(a4, [1]), (a3, []), (a2, [1]), (a1, [d0])] [] := ((((St.start w).addR ha.s1.rd).addR ha.s2.rd).addR ha.s3.rd).addR ha.s4.rd
 refine qx (l := [(0, .agg #[bV false, .slice a1 1 ac1, .slice a2 1 ac2, bV false, .slice a3 0 ac3, .slice a4 1 ac4])]) Tryz.func60 rfl Tryz.ntmps60 rfl rfl ?_
 intro Q hret hnorm hP a A
 refine wsk fun K1 hK1 => wrl (jq A S rfl rfl rfl pg (zd rfl rfl) rfl ?_)
 intro g2 w3 S a A
 iterate 2 refine sda A λa A↦?_
 refine qa (hK1 _ _ (wsk fun K4 hK4 => wsk fun K5 hK5 => wrl (sdo A (zj S SmB_isS_26 rfl 0 rfl (cs := [bV false, .slice a1 1 ac1, .slice a2 1 ac2, bV false, .slice a3 0 ac3, .slice a4 1 ac4]) rfl rfl) λa A↦?_)))
 refine sct A (ef rfl rfl) (jy (show Nm _ _ a1 ac1 a2 ac2 a3 ac3 a4 ac4 from ⟨⟨(S.rd 3 rfl), ha.s1.nil, ha.s1.cap⟩, ⟨(S.rd 2 rfl), ha.s2.nil, ha.s2.cap⟩, ⟨(S.rd 1 rfl), ha.s3.nil, ha.s3.cap⟩, ⟨(S.rd 0 rfl), ha.s4.nil, ha.s4.cap⟩⟩) ⟨Nat.le_of_ble_eq_true rfl, Nat.le_of_ble_eq_true rfl, Nat.le_of_ble_eq_true rfl, Nat.le_of_ble_eq_true rfl⟩ hs) ?_
 rintro _ w7 ⟨rfl, hb6⟩
 replace S := S.call hb6
 refine ⟨_, rfl, ?_⟩
 intro a A
 refine sdo (v := bV false) A (ql rfl qp) λa A↦?_
 refine qa (hK5 _ _ (cf A ?_))
 refine wp_skip (hK4 _ _ (wsk fun K8 hK8 => wsk fun K9 hK9 => wrl (sdo A (zj S SmB_isS_26 rfl 0 rfl (cs := [bV false, .slice a1 1 ac1, .slice a2 1 ac2, bV false, .slice a3 0 ac3, .slice a4 1 ac4]) rfl rfl) λa A↦?_)))
 refine sct A (ef rfl rfl) (xz (show Nm _ _ a1 ac1 a2 ac2 a3 ac3 a4 ac4 from ⟨⟨(S.rd 3 rfl), ha.s1.nil, ha.s1.cap⟩, ⟨(S.rd 2 rfl), ha.s2.nil, ha.s2.cap⟩, ⟨(S.rd 1 rfl), ha.s3.nil, ha.s3.cap⟩, ⟨(S.rd 0 rfl), ha.s4.nil, ha.s4.cap⟩⟩) ⟨Nat.le_of_ble_eq_true rfl, Nat.le_of_ble_eq_true rfl, Nat.le_of_ble_eq_true rfl, Nat.le_of_ble_eq_true rfl⟩ hw) ?_
 rintro _ w11 ⟨rfl, hb10⟩
 replace S := S.call hb10
 refine ⟨_, rfl, ?_⟩
 intro a A
 refine sdo (v := bV false) A (ql rfl qp) λa A↦?_
 refine qa (hK9 _ _ (cf A ?_))
 refine wp_skip (hK8 _ _ (wsk fun K12 hK12 => wsk fun K13 hK13 => wrl (sdo (v := pA g2 0) A (qf SmB_fld_26_0 rfl rfl) λa A↦?_)))
 refine sdo (v := pA g2 1) A (qf SmB_fld_24_1 rfl rfl) λa A↦?_
 refine sdo A (qn S SmB_is1_22 rfl 0 rfl rfl) λa A↦?_
 refine sct A (ef rfl rfl) ((show Calls Tryz.prog 102 #[.slice a1 1 ac1] _ (fun e w' => e = .returned (iV ((bl (d0) : Nat) : Int)) ∧ w' = _) from (by have h9 := size_any (x := d0) ac1 (show Rd _ a1 (words (d0)) from (by rw [hk]; exact (S.rd 3 rfl))) (by rw [hk]; exact Nat.le_of_ble_eq_true rfl); rw [hk] at h9; exact h9))) ?_
 rintro _ w15 ⟨rfl, hb14⟩
 replace hb14 := xb hb14
 replace S := S.call hb14
 refine ⟨_, rfl, ?_⟩
 intro a A
 refine sdo (v := bV false) A (qh rfl rfl (fun w => (ji w).trans (by rw [show (decide (64 < ((bl (d0) : Nat) : Int))) = false from (decide_eq_false (by omega))]))) λa A↦?_
 refine qa (hK13 _ _ (cf A ?_))
 refine wp_skip (hK12 _ _ (wsk fun K16 hK16 => wrl (sda A λa A↦?_)))
 refine qa (hK16 _ _ (wsk fun K17 hK17 => wsk fun K18 hK18 => wrl (sdo (v := pA g2 0) A (qf SmB_fld_26_0 rfl rfl) λa A↦?_)))
 refine sdo (v := pA g2 1) A (qf SmB_fld_24_1 rfl rfl) λa A↦?_
 refine sdo A (qn S SmB_is1_22 rfl 0 rfl rfl) λa A↦?_
 refine sdo A (qy Tryz.underlying22 rfl) λa A↦?_
 refine sdo (v := iV 0) A dbK λa A↦?_
 refine sda A λa A↦?_
 refine qa (hK18 _ _ (wp_block (wp_loop_rounds 12 ?_)))
 refine zt fun K19 hK19 => ?_
 refine wsk fun K20 hK20 => wsk fun K21 hK21 => wrl (sdm A λa A↦?_)
 refine sdo (v := bV true) A dbK λa A↦?_
 refine qa (hK21 _ _ (ct A ?_))
 refine wp_skip (hK20 _ _ (wsk fun K22 hK22 => wp_block (wrl (sdm A λa A↦?_))))
 refine sdo (v := .int .u64 0) A (qh rfl rfl (ar_mul (by decide))) λa A↦?_
 refine sdo (v := pA g2 0) A (qf SmB_fld_26_0 rfl rfl) λa A↦?_
 refine sdo (v := pA g2 1) A (qf SmB_fld_24_1 rfl rfl) λa A↦?_
 refine sdo A (qn S SmB_is1_22 rfl 0 rfl rfl) λa A↦?_
 refine sdm A λa A↦?_
 have hi26 : 0 < ([d0]).length := by first | (simp; done) | omega
 obtain ⟨b23, f24, hso25⟩ := Rd.addr (S.rd 3 rfl) hi26
 refine sdo (v := pA b23 (f24 + 0)) A (zf (k := 0) Tryz.underlying22 (by kernel_rfl) rfl rfl (by omega) hso25 (by omega)) λa A↦?_
 refine sdo (v := .int .u32 (((([d0]).getD 0 0 : Nat) : Int))) A (jf (S.rd 3 rfl) hso25 hi26 SmB_is1_161 rfl) λa A↦?_
 refine sdo (v := .int .u64 (((d0 : Nat) : Int))) A (zk rfl (ar_conv Tryz.underlying161 Tryz.underlying160 (show IntKind.u64.wrap ((d0 : Nat) : Int) = ((d0 : Nat) : Int) from yf (by omega)))) λa A↦?_
 refine sdo (v := .int .u64 (((d0 : Nat) : Int))) A (qh rfl rfl (ar_add (show IntKind.u64.wrap (0 + ((d0 : Nat) : Int)) = ((d0 : Nat) : Int) from (in_u64 (by omega) (by omega)).trans (by omega)))) λa A↦?_
 refine sda A λa A↦?_
 refine qa (hK22 _ _ (wrl (sdm A λa A↦?_)))
 refine sdo (v := iV (-1)) A dbK λa A↦?_
 refine sda A λa A↦?_
 refine qa (hK19 _ _ (zt fun K27 hK27 => ?_))
 refine wsk fun K28 hK28 => wsk fun K29 hK29 => wrl (sdm A λa A↦?_)
 refine sdo (v := bV false) A dbK λa A↦?_
 refine qa (hK29 _ _ (cf A ?_))
 refine wp_exit (hK17 _ _ (wsk fun K30 hK30 => wsk fun K31 hK31 => wrl (sdo (v := pA g2 0) A (qf SmB_fld_26_0 rfl rfl) λa A↦?_)))
 refine sdo (v := pA g2 0) A (qf SmB_fld_24_0 rfl rfl) λa A↦?_
 refine sdo A (qn S SmB_is1_4 rfl 0 rfl rfl) λa A↦?_
 refine qa (hK31 _ _ (cf A ?_))
 refine wp_skip (hK30 _ _ (wsk fun K32 hK32 => wsk fun K33 hK33 => wrl (sdm A λa A↦?_)))
 refine sdo (v := bV false) A (qh rfl rfl (fun w => (ju w).trans (by rw [show (decide (9223372036854775808 ≤ ((d0 : Nat) : Int))) = false from (decide_eq_false (by omega))]))) λa A↦?_
 refine qa (hK33 _ _ (cf A ?_))
 refine wp_skip (hK32 _ _ (wsk fun K34 hK34 => wrl (sdm A λa A↦?_)))
 refine sdo (v := iV (((d0 : Nat) : Int))) A (zk rfl (ar_conv Tryz.underlying160 Tryz.underlying3 (in_i64 (by omega) (by omega)))) λa A↦?_
 iterate 2 refine sda A λa A↦?_
 refine qa (hK34 _ _ (wp_ret (hret _ _ (en2 A rfl (qj rfl) (qj rfl) ?_))))
 exact ⟨by rw [show (((d0 : Nat) : Int)) = sgn false (d0) from by simp only [sgn]; first | rfl | omega | (simp; omega)], S.bel⟩
theorem qnh {w : World} {d0 : Nat} (h0 : d0 < 4294967296) {a1 a2 a3 a4 : Option Addr} {ac1 ac2 ac3 ac4 : Nat} (ha : Nm w ((⟨true, [d0], [1], false, [], [1]⟩ : Q6)) a1 ac1 a2 ac2 a3 ac3 a4 ac4) (hs : jp (⟨true, [d0], [1], false, [], [1]⟩ : Q6) = true) (hw : xq (⟨true, [d0], [1], false, [], [1]⟩ : Q6) = true) (hk : (words (d0)) = [d0]) (hz : bl (d0) ≤ 64) (hc : d0 ≤ 9223372036854775808) (hp : 1 ≤ d0) : Calls Tryz.prog 60 #[yt (⟨true, [d0], [1], false, [], [1]⟩ : Q6) a1 ac1 a2 ac2 a3 ac3 a4 ac4] w fun e w' => e = .returned (.tuple #[iV (sgn true (d0)), iV 0]) ∧ Below w.heap.size w w' := by
 have S : St w w [] [(a4, [1]), (a3, []), (a2, [1]), (a1, [d0])] [] := ((((St.start w).addR ha.s1.rd).addR ha.s2.rd).addR ha.s3.rd).addR ha.s4.rd
 refine qx (l := [(0, .agg #[bV true, .slice a1 1 ac1, .slice a2 1 ac2, bV false, .slice a3 0 ac3, .slice a4 1 ac4])]) Tryz.func60 rfl Tryz.ntmps60 rfl rfl ?_
 intro Q hret hnorm hP a A
 refine wsk fun K1 hK1 => wrl (jq A S rfl rfl rfl pg (zd rfl rfl) rfl ?_)
 intro g2 w3 S a A
 iterate 2 refine sda A λa A↦?_
 refine qa (hK1 _ _ (wsk fun K4 hK4 => wsk fun K5 hK5 => wrl (sdo A (zj S SmB_isS_26 rfl 0 rfl (cs := [bV true, .slice a1 1 ac1, .slice a2 1 ac2, bV false, .slice a3 0 ac3, .slice a4 1 ac4]) rfl rfl) λa A↦?_)))
 refine sct A (ef rfl rfl) (jy (show Nm _ _ a1 ac1 a2 ac2 a3 ac3 a4 ac4 from ⟨⟨(S.rd 3 rfl), ha.s1.nil, ha.s1.cap⟩, ⟨(S.rd 2 rfl), ha.s2.nil, ha.s2.cap⟩, ⟨(S.rd 1 rfl), ha.s3.nil, ha.s3.cap⟩, ⟨(S.rd 0 rfl), ha.s4.nil, ha.s4.cap⟩⟩) ⟨Nat.le_of_ble_eq_true rfl, Nat.le_of_ble_eq_true rfl, Nat.le_of_ble_eq_true rfl, Nat.le_of_ble_eq_true rfl⟩ hs) ?_
 rintro _ w7 ⟨rfl, hb6⟩
 replace S := S.call hb6
 refine ⟨_, rfl, ?_⟩
 intro a A
 refine sdo (v := bV false) A (ql rfl qp) λa A↦?_
 refine qa (hK5 _ _ (cf A ?_))
 refine wp_skip (hK4 _ _ (wsk fun K8 hK8 => wsk fun K9 hK9 => wrl (sdo A (zj S SmB_isS_26 rfl 0 rfl (cs := [bV true, .slice a1 1 ac1, .slice a2 1 ac2, bV false, .slice a3 0 ac3, .slice a4 1 ac4]) rfl rfl) λa A↦?_)))
 refine sct A (ef rfl rfl) (xz (show Nm _ _ a1 ac1 a2 ac2 a3 ac3 a4 ac4 from ⟨⟨(S.rd 3 rfl), ha.s1.nil, ha.s1.cap⟩, ⟨(S.rd 2 rfl), ha.s2.nil, ha.s2.cap⟩, ⟨(S.rd 1 rfl), ha.s3.nil, ha.s3.cap⟩, ⟨(S.rd 0 rfl), ha.s4.nil, ha.s4.cap⟩⟩) ⟨Nat.le_of_ble_eq_true rfl, Nat.le_of_ble_eq_true rfl, Nat.le_of_ble_eq_true rfl, Nat.le_of_ble_eq_true rfl⟩ hw) ?_
 rintro _ w11 ⟨rfl, hb10⟩
 replace S := S.call hb10
 refine ⟨_, rfl, ?_⟩
 intro a A
 refine sdo (v := bV false) A (ql rfl qp) λa A↦?_
 refine qa (hK9 _ _ (cf A ?_))
 refine wp_skip (hK8 _ _ (wsk fun K12 hK12 => wsk fun K13 hK13 => wrl (sdo (v := pA g2 0) A (qf SmB_fld_26_0 rfl rfl) λa A↦?_)))
 refine sdo (v := pA g2 1) A (qf SmB_fld_24_1 rfl rfl) λa A↦?_
 refine sdo A (qn S SmB_is1_22 rfl 0 rfl rfl) λa A↦?_
 refine sct A (ef rfl rfl) ((show Calls Tryz.prog 102 #[.slice a1 1 ac1] _ (fun e w' => e = .returned (iV ((bl (d0) : Nat) : Int)) ∧ w' = _) from (by have h9 := size_any (x := d0) ac1 (show Rd _ a1 (words (d0)) from (by rw [hk]; exact (S.rd 3 rfl))) (by rw [hk]; exact Nat.le_of_ble_eq_true rfl); rw [hk] at h9; exact h9))) ?_
 rintro _ w15 ⟨rfl, hb14⟩
 replace hb14 := xb hb14
 replace S := S.call hb14
 refine ⟨_, rfl, ?_⟩
 intro a A
 refine sdo (v := bV false) A (qh rfl rfl (fun w => (ji w).trans (by rw [show (decide (64 < ((bl (d0) : Nat) : Int))) = false from (decide_eq_false (by omega))]))) λa A↦?_
 refine qa (hK13 _ _ (cf A ?_))
 refine wp_skip (hK12 _ _ (wsk fun K16 hK16 => wrl (sda A λa A↦?_)))
 refine qa (hK16 _ _ (wsk fun K17 hK17 => wsk fun K18 hK18 => wrl (sdo (v := pA g2 0) A (qf SmB_fld_26_0 rfl rfl) λa A↦?_)))
 refine sdo (v := pA g2 1) A (qf SmB_fld_24_1 rfl rfl) λa A↦?_
 refine sdo A (qn S SmB_is1_22 rfl 0 rfl rfl) λa A↦?_
 refine sdo A (qy Tryz.underlying22 rfl) λa A↦?_
 refine sdo (v := iV 0) A dbK λa A↦?_
 refine sda A λa A↦?_
 refine qa (hK18 _ _ (wp_block (wp_loop_rounds 12 ?_)))
 refine zt fun K19 hK19 => ?_
 refine wsk fun K20 hK20 => wsk fun K21 hK21 => wrl (sdm A λa A↦?_)
 refine sdo (v := bV true) A dbK λa A↦?_
 refine qa (hK21 _ _ (ct A ?_))
 refine wp_skip (hK20 _ _ (wsk fun K22 hK22 => wp_block (wrl (sdm A λa A↦?_))))
 refine sdo (v := .int .u64 0) A (qh rfl rfl (ar_mul (by decide))) λa A↦?_
 refine sdo (v := pA g2 0) A (qf SmB_fld_26_0 rfl rfl) λa A↦?_
 refine sdo (v := pA g2 1) A (qf SmB_fld_24_1 rfl rfl) λa A↦?_
 refine sdo A (qn S SmB_is1_22 rfl 0 rfl rfl) λa A↦?_
 refine sdm A λa A↦?_
 have hi26 : 0 < ([d0]).length := by first | (simp; done) | omega
 obtain ⟨b23, f24, hso25⟩ := Rd.addr (S.rd 3 rfl) hi26
 refine sdo (v := pA b23 (f24 + 0)) A (zf (k := 0) Tryz.underlying22 (by kernel_rfl) rfl rfl (by omega) hso25 (by omega)) λa A↦?_
 refine sdo (v := .int .u32 (((([d0]).getD 0 0 : Nat) : Int))) A (jf (S.rd 3 rfl) hso25 hi26 SmB_is1_161 rfl) λa A↦?_
 refine sdo (v := .int .u64 (((d0 : Nat) : Int))) A (zk rfl (ar_conv Tryz.underlying161 Tryz.underlying160 (show IntKind.u64.wrap ((d0 : Nat) : Int) = ((d0 : Nat) : Int) from yf (by omega)))) λa A↦?_
 refine sdo (v := .int .u64 (((d0 : Nat) : Int))) A (qh rfl rfl (ar_add (show IntKind.u64.wrap (0 + ((d0 : Nat) : Int)) = ((d0 : Nat) : Int) from (in_u64 (by omega) (by omega)).trans (by omega)))) λa A↦?_
 refine sda A λa A↦?_
 refine qa (hK22 _ _ (wrl (sdm A λa A↦?_)))
 refine sdo (v := iV (-1)) A dbK λa A↦?_
 refine sda A λa A↦?_
 refine qa (hK19 _ _ (zt fun K27 hK27 => ?_))
 refine wsk fun K28 hK28 => wsk fun K29 hK29 => wrl (sdm A λa A↦?_)
 refine sdo (v := bV false) A dbK λa A↦?_
 refine qa (hK29 _ _ (cf A ?_))
 refine wp_exit (hK17 _ _ (wsk fun K30 hK30 => wsk fun K31 hK31 => wrl (sdo (v := pA g2 0) A (qf SmB_fld_26_0 rfl rfl) λa A↦?_)))
 refine sdo (v := pA g2 0) A (qf SmB_fld_24_0 rfl rfl) λa A↦?_
 refine sdo A (qn S SmB_is1_4 rfl 0 rfl rfl) λa A↦?_
 refine qa (hK31 _ _ (ct A ?_))
 refine wsk fun K32 hK32 => wsk fun K33 hK33 => wrl (sdm A λa A↦?_)
 refine sdo (v := bV false) A (qh rfl rfl (fun w => (ji w).trans (by rw [show (decide (9223372036854775808 < ((d0 : Nat) : Int))) = false from (decide_eq_false (by omega))]))) λa A↦?_
 refine qa (hK33 _ _ (cf A ?_))
 refine wp_skip (hK32 _ _ (wsk fun K34 hK34 => wrl (sdm A λa A↦?_)))
 refine sdo (v := .int .u64 (((d0 - 1 : Nat) : Int))) A (qh rfl rfl (ar_sub (show IntKind.u64.wrap (((d0 : Nat) : Int) - 1) = ((d0 - 1 : Nat) : Int) from (in_u64 (by omega) (by omega)).trans (by omega)))) λa A↦?_
 refine sdo (v := iV (((d0 - 1 : Nat) : Int))) A (zk rfl (ar_conv Tryz.underlying160 Tryz.underlying3 (in_i64 (by omega) (by omega)))) λa A↦?_
 refine sdo (v := iV (-(((d0 - 1 : Nat) : Int)))) A (ql rfl (ar_neg (in_i64 (by omega) (by omega)))) λa A↦?_
 refine sdo (v := iV (-(((d0 - 1 : Nat) : Int)) - 1)) A (qh rfl rfl (qhg (yk (by omega) (by omega)))) λa A↦?_
 iterate 2 refine sda A λa A↦?_
 refine qa (hK34 _ _ (wp_ret (hret _ _ (en2 A rfl (qj rfl) (qj rfl) ?_))))
 exact ⟨by rw [show (-(((d0 - 1 : Nat) : Int)) - 1) = sgn true (d0) from by simp only [sgn]; first | rfl | omega | (simp; omega)], S.bel⟩
theorem qni {w : World} {d0 d1 y x : Nat} (h0 : d0 < 4294967296) (h1 : d1 < 4294967296) (hy : d1 * 4294967296 = y) (hx : y + d0 = x) {a1 a2 a3 a4 : Option Addr} {ac1 ac2 ac3 ac4 : Nat} (ha : Nm w ((⟨false, [d0, d1], [1], false, [], [1]⟩ : Q6)) a1 ac1 a2 ac2 a3 ac3 a4 ac4) (hs : jp (⟨false, [d0, d1], [1], false, [], [1]⟩ : Q6) = true) (hw : xq (⟨false, [d0, d1], [1], false, [], [1]⟩ : Q6) = true) (hk : (words (x)) = [d0, d1]) (hz : bl (x) ≤ 64) (hc : ¬ x ≤ 9223372036854775807) : Calls Tryz.prog 60 #[yt (⟨false, [d0, d1], [1], false, [], [1]⟩ : Q6) a1 ac1 a2 ac2 a3 ac3 a4 ac4] w fun e w' => e = .returned (.tuple #[iV 0, iV 4]) ∧ Below w.heap.size w w' := by
 have S : St w w [] [(a4, [1]), (a3, []), (a2, [1]), (a1, [d0, d1])] [] := ((((St.start w).addR ha.s1.rd).addR ha.s2.rd).addR ha.s3.rd).addR ha.s4.rd
 refine qx (l := [(0, .agg #[bV false, .slice a1 2 ac1, .slice a2 1 ac2, bV false, .slice a3 0 ac3, .slice a4 1 ac4])]) Tryz.func60 rfl Tryz.ntmps60 rfl rfl ?_
 intro Q hret hnorm hP a A
 refine wsk fun K1 hK1 => wrl (jq A S rfl rfl rfl pg (zd rfl rfl) rfl ?_)
 intro g2 w3 S a A
 iterate 2 refine sda A λa A↦?_
 refine qa (hK1 _ _ (wsk fun K4 hK4 => wsk fun K5 hK5 => wrl (sdo A (zj S SmB_isS_26 rfl 0 rfl (cs := [bV false, .slice a1 2 ac1, .slice a2 1 ac2, bV false, .slice a3 0 ac3, .slice a4 1 ac4]) rfl rfl) λa A↦?_)))
 refine sct A (ef rfl rfl) (jy (show Nm _ _ a1 ac1 a2 ac2 a3 ac3 a4 ac4 from ⟨⟨(S.rd 3 rfl), ha.s1.nil, ha.s1.cap⟩, ⟨(S.rd 2 rfl), ha.s2.nil, ha.s2.cap⟩, ⟨(S.rd 1 rfl), ha.s3.nil, ha.s3.cap⟩, ⟨(S.rd 0 rfl), ha.s4.nil, ha.s4.cap⟩⟩) ⟨Nat.le_of_ble_eq_true rfl, Nat.le_of_ble_eq_true rfl, Nat.le_of_ble_eq_true rfl, Nat.le_of_ble_eq_true rfl⟩ hs) ?_
 rintro _ w7 ⟨rfl, hb6⟩
 replace S := S.call hb6
 refine ⟨_, rfl, ?_⟩
 intro a A
 refine sdo (v := bV false) A (ql rfl qp) λa A↦?_
 refine qa (hK5 _ _ (cf A ?_))
 refine wp_skip (hK4 _ _ (wsk fun K8 hK8 => wsk fun K9 hK9 => wrl (sdo A (zj S SmB_isS_26 rfl 0 rfl (cs := [bV false, .slice a1 2 ac1, .slice a2 1 ac2, bV false, .slice a3 0 ac3, .slice a4 1 ac4]) rfl rfl) λa A↦?_)))
 refine sct A (ef rfl rfl) (xz (show Nm _ _ a1 ac1 a2 ac2 a3 ac3 a4 ac4 from ⟨⟨(S.rd 3 rfl), ha.s1.nil, ha.s1.cap⟩, ⟨(S.rd 2 rfl), ha.s2.nil, ha.s2.cap⟩, ⟨(S.rd 1 rfl), ha.s3.nil, ha.s3.cap⟩, ⟨(S.rd 0 rfl), ha.s4.nil, ha.s4.cap⟩⟩) ⟨Nat.le_of_ble_eq_true rfl, Nat.le_of_ble_eq_true rfl, Nat.le_of_ble_eq_true rfl, Nat.le_of_ble_eq_true rfl⟩ hw) ?_
 rintro _ w11 ⟨rfl, hb10⟩
 replace S := S.call hb10
 refine ⟨_, rfl, ?_⟩
 intro a A
 refine sdo (v := bV false) A (ql rfl qp) λa A↦?_
 refine qa (hK9 _ _ (cf A ?_))
 refine wp_skip (hK8 _ _ (wsk fun K12 hK12 => wsk fun K13 hK13 => wrl (sdo (v := pA g2 0) A (qf SmB_fld_26_0 rfl rfl) λa A↦?_)))
 refine sdo (v := pA g2 1) A (qf SmB_fld_24_1 rfl rfl) λa A↦?_
 refine sdo A (qn S SmB_is1_22 rfl 0 rfl rfl) λa A↦?_
 refine sct A (ef rfl rfl) ((show Calls Tryz.prog 102 #[.slice a1 2 ac1] _ (fun e w' => e = .returned (iV ((bl (x) : Nat) : Int)) ∧ w' = _) from (by have h9 := size_any (x := x) ac1 (show Rd _ a1 (words (x)) from (by rw [hk]; exact (S.rd 3 rfl))) (by rw [hk]; exact Nat.le_of_ble_eq_true rfl); rw [hk] at h9; exact h9))) ?_
 rintro _ w15 ⟨rfl, hb14⟩
 replace hb14 := xb hb14
 replace S := S.call hb14
 refine ⟨_, rfl, ?_⟩
 intro a A
 refine sdo (v := bV false) A (qh rfl rfl (fun w => (ji w).trans (by rw [show (decide (64 < ((bl (x) : Nat) : Int))) = false from (decide_eq_false (by omega))]))) λa A↦?_
 refine qa (hK13 _ _ (cf A ?_))
 refine wp_skip (hK12 _ _ (wsk fun K16 hK16 => wrl (sda A λa A↦?_)))
 refine qa (hK16 _ _ (wsk fun K17 hK17 => wsk fun K18 hK18 => wrl (sdo (v := pA g2 0) A (qf SmB_fld_26_0 rfl rfl) λa A↦?_)))
 refine sdo (v := pA g2 1) A (qf SmB_fld_24_1 rfl rfl) λa A↦?_
 refine sdo A (qn S SmB_is1_22 rfl 0 rfl rfl) λa A↦?_
 refine sdo A (qy Tryz.underlying22 rfl) λa A↦?_
 refine sdo (v := iV 1) A dbK λa A↦?_
 refine sda A λa A↦?_
 refine qa (hK18 _ _ (wp_block (wp_loop_rounds 12 ?_)))
 refine zt fun K19 hK19 => ?_
 refine wsk fun K20 hK20 => wsk fun K21 hK21 => wrl (sdm A λa A↦?_)
 refine sdo (v := bV true) A dbK λa A↦?_
 refine qa (hK21 _ _ (ct A ?_))
 refine wp_skip (hK20 _ _ (wsk fun K22 hK22 => wp_block (wrl (sdm A λa A↦?_))))
 refine sdo (v := .int .u64 0) A (qh rfl rfl (ar_mul (by decide))) λa A↦?_
 refine sdo (v := pA g2 0) A (qf SmB_fld_26_0 rfl rfl) λa A↦?_
 refine sdo (v := pA g2 1) A (qf SmB_fld_24_1 rfl rfl) λa A↦?_
 refine sdo A (qn S SmB_is1_22 rfl 0 rfl rfl) λa A↦?_
 refine sdm A λa A↦?_
 have hi26 : 1 < ([d0, d1]).length := by first | (simp; done) | omega
 obtain ⟨b23, f24, hso25⟩ := Rd.addr (S.rd 3 rfl) hi26
 refine sdo (v := pA b23 (f24 + 1)) A (zf (k := 1) Tryz.underlying22 (by kernel_rfl) rfl rfl (by omega) hso25 (by omega)) λa A↦?_
 refine sdo (v := .int .u32 (((([d0, d1]).getD 1 0 : Nat) : Int))) A (jf (S.rd 3 rfl) hso25 hi26 SmB_is1_161 rfl) λa A↦?_
 refine sdo (v := .int .u64 (((d1 : Nat) : Int))) A (zk rfl (ar_conv Tryz.underlying161 Tryz.underlying160 (show IntKind.u64.wrap ((d1 : Nat) : Int) = ((d1 : Nat) : Int) from yf (by omega)))) λa A↦?_
 refine sdo (v := .int .u64 (((d1 : Nat) : Int))) A (qh rfl rfl (ar_add (show IntKind.u64.wrap (0 + ((d1 : Nat) : Int)) = ((d1 : Nat) : Int) from (in_u64 (by omega) (by omega)).trans (by omega)))) λa A↦?_
 refine sda A λa A↦?_
 refine qa (hK22 _ _ (wrl (sdm A λa A↦?_)))
 refine sdo (v := iV 0) A dbK λa A↦?_
 refine sda A λa A↦?_
 refine qa (hK19 _ _ (zt fun K27 hK27 => ?_))
 refine wsk fun K28 hK28 => wsk fun K29 hK29 => wrl (sdm A λa A↦?_)
 refine sdo (v := bV true) A dbK λa A↦?_
 refine qa (hK29 _ _ (ct A ?_))
 refine wp_skip (hK28 _ _ (wsk fun K30 hK30 => wp_block (wrl (sdm A λa A↦?_))))
 refine sdo (v := .int .u64 (((y : Nat) : Int))) A (qh rfl rfl (ar_mul (show IntKind.u64.wrap (((d1 : Nat) : Int) * 4294967296) = ((y : Nat) : Int) from (in_u64 (by omega) (by omega)).trans (by omega)))) λa A↦?_
 refine sdo (v := pA g2 0) A (qf SmB_fld_26_0 rfl rfl) λa A↦?_
 refine sdo (v := pA g2 1) A (qf SmB_fld_24_1 rfl rfl) λa A↦?_
 refine sdo A (qn S SmB_is1_22 rfl 0 rfl rfl) λa A↦?_
 refine sdm A λa A↦?_
 have hi34 : 0 < ([d0, d1]).length := by first | (simp; done) | omega
 obtain ⟨b31, f32, hso33⟩ := Rd.addr (S.rd 3 rfl) hi34
 refine sdo (v := pA b31 (f32 + 0)) A (zf (k := 0) Tryz.underlying22 (by kernel_rfl) rfl rfl (by omega) hso33 (by omega)) λa A↦?_
 refine sdo (v := .int .u32 (((([d0, d1]).getD 0 0 : Nat) : Int))) A (jf (S.rd 3 rfl) hso33 hi34 SmB_is1_161 rfl) λa A↦?_
 refine sdo (v := .int .u64 (((d0 : Nat) : Int))) A (zk rfl (ar_conv Tryz.underlying161 Tryz.underlying160 (show IntKind.u64.wrap ((d0 : Nat) : Int) = ((d0 : Nat) : Int) from yf (by omega)))) λa A↦?_
 refine sdo (v := .int .u64 (((x : Nat) : Int))) A (qh rfl rfl (ar_add (show IntKind.u64.wrap (((y : Nat) : Int) + ((d0 : Nat) : Int)) = ((x : Nat) : Int) from (in_u64 (by omega) (by omega)).trans (by omega)))) λa A↦?_
 refine sda A λa A↦?_
 refine qa (hK30 _ _ (wrl (sdm A λa A↦?_)))
 refine sdo (v := iV (-1)) A dbK λa A↦?_
 refine sda A λa A↦?_
 refine qa (hK27 _ _ (zt fun K35 hK35 => ?_))
 refine wsk fun K36 hK36 => wsk fun K37 hK37 => wrl (sdm A λa A↦?_)
 refine sdo (v := bV false) A dbK λa A↦?_
 refine qa (hK37 _ _ (cf A ?_))
 refine wp_exit (hK17 _ _ (wsk fun K38 hK38 => wsk fun K39 hK39 => wrl (sdo (v := pA g2 0) A (qf SmB_fld_26_0 rfl rfl) λa A↦?_)))
 refine sdo (v := pA g2 0) A (qf SmB_fld_24_0 rfl rfl) λa A↦?_
 refine sdo A (qn S SmB_is1_4 rfl 0 rfl rfl) λa A↦?_
 refine qa (hK39 _ _ (cf A ?_))
 refine wp_skip (hK38 _ _ (wsk fun K40 hK40 => wsk fun K41 hK41 => wrl (sdm A λa A↦?_)))
 refine sdo (v := bV true) A (qh rfl rfl (fun w => (ju w).trans (by rw [show (decide (9223372036854775808 ≤ ((x : Nat) : Int))) = true from (decide_eq_true (by omega))]))) λa A↦?_
 refine qa (hK41 _ _ (ct A ?_))
 refine wsk fun K42 hK42 => wrl ?_
 iterate 2 refine sda A λa A↦?_
 refine qa (hK42 _ _ (wp_ret (hret _ _ (en2 A rfl (qj rfl) (qj rfl) ?_))))
 exact ⟨rfl, S.bel⟩
theorem qnj {w : World} {d0 d1 y x : Nat} (h0 : d0 < 4294967296) (h1 : d1 < 4294967296) (hy : d1 * 4294967296 = y) (hx : y + d0 = x) {a1 a2 a3 a4 : Option Addr} {ac1 ac2 ac3 ac4 : Nat} (ha : Nm w ((⟨false, [d0, d1], [1], false, [], [1]⟩ : Q6)) a1 ac1 a2 ac2 a3 ac3 a4 ac4) (hs : jp (⟨false, [d0, d1], [1], false, [], [1]⟩ : Q6) = true) (hw : xq (⟨false, [d0, d1], [1], false, [], [1]⟩ : Q6) = true) (hk : (words (x)) = [d0, d1]) (hz : bl (x) ≤ 64) (hc : x ≤ 9223372036854775807) : Calls Tryz.prog 60 #[yt (⟨false, [d0, d1], [1], false, [], [1]⟩ : Q6) a1 ac1 a2 ac2 a3 ac3 a4 ac4] w fun e w' => e = .returned (.tuple #[iV (sgn false (x)), iV 0]) ∧ Below w.heap.size w w' := by
 have S : St w w [] [(a4, [1]), (a3, []), (a2, [1]), (a1, [d0, d1])] [] := ((((St.start w).addR ha.s1.rd).addR ha.s2.rd).addR ha.s3.rd).addR ha.s4.rd
 refine qx (l := [(0, .agg #[bV false, .slice a1 2 ac1, .slice a2 1 ac2, bV false, .slice a3 0 ac3, .slice a4 1 ac4])]) Tryz.func60 rfl Tryz.ntmps60 rfl rfl ?_
 intro Q hret hnorm hP a A
 refine wsk fun K1 hK1 => wrl (jq A S rfl rfl rfl pg (zd rfl rfl) rfl ?_)
 intro g2 w3 S a A
 iterate 2 refine sda A λa A↦?_
 refine qa (hK1 _ _ (wsk fun K4 hK4 => wsk fun K5 hK5 => wrl (sdo A (zj S SmB_isS_26 rfl 0 rfl (cs := [bV false, .slice a1 2 ac1, .slice a2 1 ac2, bV false, .slice a3 0 ac3, .slice a4 1 ac4]) rfl rfl) λa A↦?_)))
 refine sct A (ef rfl rfl) (jy (show Nm _ _ a1 ac1 a2 ac2 a3 ac3 a4 ac4 from ⟨⟨(S.rd 3 rfl), ha.s1.nil, ha.s1.cap⟩, ⟨(S.rd 2 rfl), ha.s2.nil, ha.s2.cap⟩, ⟨(S.rd 1 rfl), ha.s3.nil, ha.s3.cap⟩, ⟨(S.rd 0 rfl), ha.s4.nil, ha.s4.cap⟩⟩) ⟨Nat.le_of_ble_eq_true rfl, Nat.le_of_ble_eq_true rfl, Nat.le_of_ble_eq_true rfl, Nat.le_of_ble_eq_true rfl⟩ hs) ?_
 rintro _ w7 ⟨rfl, hb6⟩
 replace S := S.call hb6
 refine ⟨_, rfl, ?_⟩
 intro a A
 refine sdo (v := bV false) A (ql rfl qp) λa A↦?_
 refine qa (hK5 _ _ (cf A ?_))
 refine wp_skip (hK4 _ _ (wsk fun K8 hK8 => wsk fun K9 hK9 => wrl (sdo A (zj S SmB_isS_26 rfl 0 rfl (cs := [bV false, .slice a1 2 ac1, .slice a2 1 ac2, bV false, .slice a3 0 ac3, .slice a4 1 ac4]) rfl rfl) λa A↦?_)))
 refine sct A (ef rfl rfl) (xz (show Nm _ _ a1 ac1 a2 ac2 a3 ac3 a4 ac4 from ⟨⟨(S.rd 3 rfl), ha.s1.nil, ha.s1.cap⟩, ⟨(S.rd 2 rfl), ha.s2.nil, ha.s2.cap⟩, ⟨(S.rd 1 rfl), ha.s3.nil, ha.s3.cap⟩, ⟨(S.rd 0 rfl), ha.s4.nil, ha.s4.cap⟩⟩) ⟨Nat.le_of_ble_eq_true rfl, Nat.le_of_ble_eq_true rfl, Nat.le_of_ble_eq_true rfl, Nat.le_of_ble_eq_true rfl⟩ hw) ?_
 rintro _ w11 ⟨rfl, hb10⟩
 replace S := S.call hb10
 refine ⟨_, rfl, ?_⟩
 intro a A
 refine sdo (v := bV false) A (ql rfl qp) λa A↦?_
 refine qa (hK9 _ _ (cf A ?_))
 refine wp_skip (hK8 _ _ (wsk fun K12 hK12 => wsk fun K13 hK13 => wrl (sdo (v := pA g2 0) A (qf SmB_fld_26_0 rfl rfl) λa A↦?_)))
 refine sdo (v := pA g2 1) A (qf SmB_fld_24_1 rfl rfl) λa A↦?_
 refine sdo A (qn S SmB_is1_22 rfl 0 rfl rfl) λa A↦?_
 refine sct A (ef rfl rfl) ((show Calls Tryz.prog 102 #[.slice a1 2 ac1] _ (fun e w' => e = .returned (iV ((bl (x) : Nat) : Int)) ∧ w' = _) from (by have h9 := size_any (x := x) ac1 (show Rd _ a1 (words (x)) from (by rw [hk]; exact (S.rd 3 rfl))) (by rw [hk]; exact Nat.le_of_ble_eq_true rfl); rw [hk] at h9; exact h9))) ?_
 rintro _ w15 ⟨rfl, hb14⟩
 replace hb14 := xb hb14
 replace S := S.call hb14
 refine ⟨_, rfl, ?_⟩
 intro a A
 refine sdo (v := bV false) A (qh rfl rfl (fun w => (ji w).trans (by rw [show (decide (64 < ((bl (x) : Nat) : Int))) = false from (decide_eq_false (by omega))]))) λa A↦?_
 refine qa (hK13 _ _ (cf A ?_))
 refine wp_skip (hK12 _ _ (wsk fun K16 hK16 => wrl (sda A λa A↦?_)))
 refine qa (hK16 _ _ (wsk fun K17 hK17 => wsk fun K18 hK18 => wrl (sdo (v := pA g2 0) A (qf SmB_fld_26_0 rfl rfl) λa A↦?_)))
 refine sdo (v := pA g2 1) A (qf SmB_fld_24_1 rfl rfl) λa A↦?_
 refine sdo A (qn S SmB_is1_22 rfl 0 rfl rfl) λa A↦?_
 refine sdo A (qy Tryz.underlying22 rfl) λa A↦?_
 refine sdo (v := iV 1) A dbK λa A↦?_
 refine sda A λa A↦?_
 refine qa (hK18 _ _ (wp_block (wp_loop_rounds 12 ?_)))
 refine zt fun K19 hK19 => ?_
 refine wsk fun K20 hK20 => wsk fun K21 hK21 => wrl (sdm A λa A↦?_)
 refine sdo (v := bV true) A dbK λa A↦?_
 refine qa (hK21 _ _ (ct A ?_))
 refine wp_skip (hK20 _ _ (wsk fun K22 hK22 => wp_block (wrl (sdm A λa A↦?_))))
 refine sdo (v := .int .u64 0) A (qh rfl rfl (ar_mul (by decide))) λa A↦?_
 refine sdo (v := pA g2 0) A (qf SmB_fld_26_0 rfl rfl) λa A↦?_
 refine sdo (v := pA g2 1) A (qf SmB_fld_24_1 rfl rfl) λa A↦?_
 refine sdo A (qn S SmB_is1_22 rfl 0 rfl rfl) λa A↦?_
 refine sdm A λa A↦?_
 have hi26 : 1 < ([d0, d1]).length := by first | (simp; done) | omega
 obtain ⟨b23, f24, hso25⟩ := Rd.addr (S.rd 3 rfl) hi26
 refine sdo (v := pA b23 (f24 + 1)) A (zf (k := 1) Tryz.underlying22 (by kernel_rfl) rfl rfl (by omega) hso25 (by omega)) λa A↦?_
 refine sdo (v := .int .u32 (((([d0, d1]).getD 1 0 : Nat) : Int))) A (jf (S.rd 3 rfl) hso25 hi26 SmB_is1_161 rfl) λa A↦?_
 refine sdo (v := .int .u64 (((d1 : Nat) : Int))) A (zk rfl (ar_conv Tryz.underlying161 Tryz.underlying160 (show IntKind.u64.wrap ((d1 : Nat) : Int) = ((d1 : Nat) : Int) from yf (by omega)))) λa A↦?_
 refine sdo (v := .int .u64 (((d1 : Nat) : Int))) A (qh rfl rfl (ar_add (show IntKind.u64.wrap (0 + ((d1 : Nat) : Int)) = ((d1 : Nat) : Int) from (in_u64 (by omega) (by omega)).trans (by omega)))) λa A↦?_
 refine sda A λa A↦?_
 refine qa (hK22 _ _ (wrl (sdm A λa A↦?_)))
 refine sdo (v := iV 0) A dbK λa A↦?_
 refine sda A λa A↦?_
 refine qa (hK19 _ _ (zt fun K27 hK27 => ?_))
 refine wsk fun K28 hK28 => wsk fun K29 hK29 => wrl (sdm A λa A↦?_)
 refine sdo (v := bV true) A dbK λa A↦?_
 refine qa (hK29 _ _ (ct A ?_))
 refine wp_skip (hK28 _ _ (wsk fun K30 hK30 => wp_block (wrl (sdm A λa A↦?_))))
 refine sdo (v := .int .u64 (((y : Nat) : Int))) A (qh rfl rfl (ar_mul (show IntKind.u64.wrap (((d1 : Nat) : Int) * 4294967296) = ((y : Nat) : Int) from (in_u64 (by omega) (by omega)).trans (by omega)))) λa A↦?_
 refine sdo (v := pA g2 0) A (qf SmB_fld_26_0 rfl rfl) λa A↦?_
 refine sdo (v := pA g2 1) A (qf SmB_fld_24_1 rfl rfl) λa A↦?_
 refine sdo A (qn S SmB_is1_22 rfl 0 rfl rfl) λa A↦?_
 refine sdm A λa A↦?_
 have hi34 : 0 < ([d0, d1]).length := by first | (simp; done) | omega
 obtain ⟨b31, f32, hso33⟩ := Rd.addr (S.rd 3 rfl) hi34
 refine sdo (v := pA b31 (f32 + 0)) A (zf (k := 0) Tryz.underlying22 (by kernel_rfl) rfl rfl (by omega) hso33 (by omega)) λa A↦?_
 refine sdo (v := .int .u32 (((([d0, d1]).getD 0 0 : Nat) : Int))) A (jf (S.rd 3 rfl) hso33 hi34 SmB_is1_161 rfl) λa A↦?_
 refine sdo (v := .int .u64 (((d0 : Nat) : Int))) A (zk rfl (ar_conv Tryz.underlying161 Tryz.underlying160 (show IntKind.u64.wrap ((d0 : Nat) : Int) = ((d0 : Nat) : Int) from yf (by omega)))) λa A↦?_
 refine sdo (v := .int .u64 (((x : Nat) : Int))) A (qh rfl rfl (ar_add (show IntKind.u64.wrap (((y : Nat) : Int) + ((d0 : Nat) : Int)) = ((x : Nat) : Int) from (in_u64 (by omega) (by omega)).trans (by omega)))) λa A↦?_
 refine sda A λa A↦?_
 refine qa (hK30 _ _ (wrl (sdm A λa A↦?_)))
 refine sdo (v := iV (-1)) A dbK λa A↦?_
 refine sda A λa A↦?_
 refine qa (hK27 _ _ (zt fun K35 hK35 => ?_))
 refine wsk fun K36 hK36 => wsk fun K37 hK37 => wrl (sdm A λa A↦?_)
 refine sdo (v := bV false) A dbK λa A↦?_
 refine qa (hK37 _ _ (cf A ?_))
 refine wp_exit (hK17 _ _ (wsk fun K38 hK38 => wsk fun K39 hK39 => wrl (sdo (v := pA g2 0) A (qf SmB_fld_26_0 rfl rfl) λa A↦?_)))
 refine sdo (v := pA g2 0) A (qf SmB_fld_24_0 rfl rfl) λa A↦?_
 refine sdo A (qn S SmB_is1_4 rfl 0 rfl rfl) λa A↦?_
 refine qa (hK39 _ _ (cf A ?_))
 refine wp_skip (hK38 _ _ (wsk fun K40 hK40 => wsk fun K41 hK41 => wrl (sdm A λa A↦?_)))
 refine sdo (v := bV false) A (qh rfl rfl (fun w => (ju w).trans (by rw [show (decide (9223372036854775808 ≤ ((x : Nat) : Int))) = false from (decide_eq_false (by omega))]))) λa A↦?_
 refine qa (hK41 _ _ (cf A ?_))
 refine wp_skip (hK40 _ _ (wsk fun K42 hK42 => wrl (sdm A λa A↦?_)))
 refine sdo (v := iV (((x : Nat) : Int))) A (zk rfl (ar_conv Tryz.underlying160 Tryz.underlying3 (in_i64 (by omega) (by omega)))) λa A↦?_
 iterate 2 refine sda A λa A↦?_
 refine qa (hK42 _ _ (wp_ret (hret _ _ (en2 A rfl (qj rfl) (qj rfl) ?_))))
 exact ⟨by rw [show (((x : Nat) : Int)) = sgn false (x) from by simp only [sgn]; first | rfl | omega | (simp; omega)], S.bel⟩
theorem qoa {w : World} {d0 d1 y x : Nat} (h0 : d0 < 4294967296) (h1 : d1 < 4294967296) (hy : d1 * 4294967296 = y) (hx : y + d0 = x) {a1 a2 a3 a4 : Option Addr} {ac1 ac2 ac3 ac4 : Nat} (ha : Nm w ((⟨true, [d0, d1], [1], false, [], [1]⟩ : Q6)) a1 ac1 a2 ac2 a3 ac3 a4 ac4) (hs : jp (⟨true, [d0, d1], [1], false, [], [1]⟩ : Q6) = true) (hw : xq (⟨true, [d0, d1], [1], false, [], [1]⟩ : Q6) = true) (hk : (words (x)) = [d0, d1]) (hz : bl (x) ≤ 64) (hc : ¬ x ≤ 9223372036854775808) (hp : 1 ≤ x) : Calls Tryz.prog 60 #[yt (⟨true, [d0, d1], [1], false, [], [1]⟩ : Q6) a1 ac1 a2 ac2 a3 ac3 a4 ac4] w fun e w' => e = .returned (.tuple #[iV 0, iV 4]) ∧ Below w.heap.size w w' := by
 have S : St w w [] [(a4, [1]), (a3, []), (a2, [1]), (a1, [d0, d1])] [] := ((((St.start w).addR ha.s1.rd).addR ha.s2.rd).addR ha.s3.rd).addR ha.s4.rd
 refine qx (l := [(0, .agg #[bV true, .slice a1 2 ac1, .slice a2 1 ac2, bV false, .slice a3 0 ac3, .slice a4 1 ac4])]) Tryz.func60 rfl Tryz.ntmps60 rfl rfl ?_
 intro Q hret hnorm hP a A
 refine wsk fun K1 hK1 => wrl (jq A S rfl rfl rfl pg (zd rfl rfl) rfl ?_)
 intro g2 w3 S a A
 iterate 2 refine sda A λa A↦?_
 refine qa (hK1 _ _ (wsk fun K4 hK4 => wsk fun K5 hK5 => wrl (sdo A (zj S SmB_isS_26 rfl 0 rfl (cs := [bV true, .slice a1 2 ac1, .slice a2 1 ac2, bV false, .slice a3 0 ac3, .slice a4 1 ac4]) rfl rfl) λa A↦?_)))
 refine sct A (ef rfl rfl) (jy (show Nm _ _ a1 ac1 a2 ac2 a3 ac3 a4 ac4 from ⟨⟨(S.rd 3 rfl), ha.s1.nil, ha.s1.cap⟩, ⟨(S.rd 2 rfl), ha.s2.nil, ha.s2.cap⟩, ⟨(S.rd 1 rfl), ha.s3.nil, ha.s3.cap⟩, ⟨(S.rd 0 rfl), ha.s4.nil, ha.s4.cap⟩⟩) ⟨Nat.le_of_ble_eq_true rfl, Nat.le_of_ble_eq_true rfl, Nat.le_of_ble_eq_true rfl, Nat.le_of_ble_eq_true rfl⟩ hs) ?_
 rintro _ w7 ⟨rfl, hb6⟩
 replace S := S.call hb6
 refine ⟨_, rfl, ?_⟩
 intro a A
 refine sdo (v := bV false) A (ql rfl qp) λa A↦?_
 refine qa (hK5 _ _ (cf A ?_))
 refine wp_skip (hK4 _ _ (wsk fun K8 hK8 => wsk fun K9 hK9 => wrl (sdo A (zj S SmB_isS_26 rfl 0 rfl (cs := [bV true, .slice a1 2 ac1, .slice a2 1 ac2, bV false, .slice a3 0 ac3, .slice a4 1 ac4]) rfl rfl) λa A↦?_)))
 refine sct A (ef rfl rfl) (xz (show Nm _ _ a1 ac1 a2 ac2 a3 ac3 a4 ac4 from ⟨⟨(S.rd 3 rfl), ha.s1.nil, ha.s1.cap⟩, ⟨(S.rd 2 rfl), ha.s2.nil, ha.s2.cap⟩, ⟨(S.rd 1 rfl), ha.s3.nil, ha.s3.cap⟩, ⟨(S.rd 0 rfl), ha.s4.nil, ha.s4.cap⟩⟩) ⟨Nat.le_of_ble_eq_true rfl, Nat.le_of_ble_eq_true rfl, Nat.le_of_ble_eq_true rfl, Nat.le_of_ble_eq_true rfl⟩ hw) ?_
 rintro _ w11 ⟨rfl, hb10⟩
 replace S := S.call hb10
 refine ⟨_, rfl, ?_⟩
 intro a A
 refine sdo (v := bV false) A (ql rfl qp) λa A↦?_
 refine qa (hK9 _ _ (cf A ?_))
 refine wp_skip (hK8 _ _ (wsk fun K12 hK12 => wsk fun K13 hK13 => wrl (sdo (v := pA g2 0) A (qf SmB_fld_26_0 rfl rfl) λa A↦?_)))
 refine sdo (v := pA g2 1) A (qf SmB_fld_24_1 rfl rfl) λa A↦?_
 refine sdo A (qn S SmB_is1_22 rfl 0 rfl rfl) λa A↦?_
 refine sct A (ef rfl rfl) ((show Calls Tryz.prog 102 #[.slice a1 2 ac1] _ (fun e w' => e = .returned (iV ((bl (x) : Nat) : Int)) ∧ w' = _) from (by have h9 := size_any (x := x) ac1 (show Rd _ a1 (words (x)) from (by rw [hk]; exact (S.rd 3 rfl))) (by rw [hk]; exact Nat.le_of_ble_eq_true rfl); rw [hk] at h9; exact h9))) ?_
 rintro _ w15 ⟨rfl, hb14⟩
 replace hb14 := xb hb14
 replace S := S.call hb14
 refine ⟨_, rfl, ?_⟩
 intro a A
 refine sdo (v := bV false) A (qh rfl rfl (fun w => (ji w).trans (by rw [show (decide (64 < ((bl (x) : Nat) : Int))) = false from (decide_eq_false (by omega))]))) λa A↦?_
 refine qa (hK13 _ _ (cf A ?_))
 refine wp_skip (hK12 _ _ (wsk fun K16 hK16 => wrl (sda A λa A↦?_)))
 refine qa (hK16 _ _ (wsk fun K17 hK17 => wsk fun K18 hK18 => wrl (sdo (v := pA g2 0) A (qf SmB_fld_26_0 rfl rfl) λa A↦?_)))
 refine sdo (v := pA g2 1) A (qf SmB_fld_24_1 rfl rfl) λa A↦?_
 refine sdo A (qn S SmB_is1_22 rfl 0 rfl rfl) λa A↦?_
 refine sdo A (qy Tryz.underlying22 rfl) λa A↦?_
 refine sdo (v := iV 1) A dbK λa A↦?_
 refine sda A λa A↦?_
 refine qa (hK18 _ _ (wp_block (wp_loop_rounds 12 ?_)))
 refine zt fun K19 hK19 => ?_
 refine wsk fun K20 hK20 => wsk fun K21 hK21 => wrl (sdm A λa A↦?_)
 refine sdo (v := bV true) A dbK λa A↦?_
 refine qa (hK21 _ _ (ct A ?_))
 refine wp_skip (hK20 _ _ (wsk fun K22 hK22 => wp_block (wrl (sdm A λa A↦?_))))
 refine sdo (v := .int .u64 0) A (qh rfl rfl (ar_mul (by decide))) λa A↦?_
 refine sdo (v := pA g2 0) A (qf SmB_fld_26_0 rfl rfl) λa A↦?_
 refine sdo (v := pA g2 1) A (qf SmB_fld_24_1 rfl rfl) λa A↦?_
 refine sdo A (qn S SmB_is1_22 rfl 0 rfl rfl) λa A↦?_
 refine sdm A λa A↦?_
 have hi26 : 1 < ([d0, d1]).length := by first | (simp; done) | omega
 obtain ⟨b23, f24, hso25⟩ := Rd.addr (S.rd 3 rfl) hi26
 refine sdo (v := pA b23 (f24 + 1)) A (zf (k := 1) Tryz.underlying22 (by kernel_rfl) rfl rfl (by omega) hso25 (by omega)) λa A↦?_
 refine sdo (v := .int .u32 (((([d0, d1]).getD 1 0 : Nat) : Int))) A (jf (S.rd 3 rfl) hso25 hi26 SmB_is1_161 rfl) λa A↦?_
 refine sdo (v := .int .u64 (((d1 : Nat) : Int))) A (zk rfl (ar_conv Tryz.underlying161 Tryz.underlying160 (show IntKind.u64.wrap ((d1 : Nat) : Int) = ((d1 : Nat) : Int) from yf (by omega)))) λa A↦?_
 refine sdo (v := .int .u64 (((d1 : Nat) : Int))) A (qh rfl rfl (ar_add (show IntKind.u64.wrap (0 + ((d1 : Nat) : Int)) = ((d1 : Nat) : Int) from (in_u64 (by omega) (by omega)).trans (by omega)))) λa A↦?_
 refine sda A λa A↦?_
 refine qa (hK22 _ _ (wrl (sdm A λa A↦?_)))
 refine sdo (v := iV 0) A dbK λa A↦?_
 refine sda A λa A↦?_
 refine qa (hK19 _ _ (zt fun K27 hK27 => ?_))
 refine wsk fun K28 hK28 => wsk fun K29 hK29 => wrl (sdm A λa A↦?_)
 refine sdo (v := bV true) A dbK λa A↦?_
 refine qa (hK29 _ _ (ct A ?_))
 refine wp_skip (hK28 _ _ (wsk fun K30 hK30 => wp_block (wrl (sdm A λa A↦?_))))
 refine sdo (v := .int .u64 (((y : Nat) : Int))) A (qh rfl rfl (ar_mul (show IntKind.u64.wrap (((d1 : Nat) : Int) * 4294967296) = ((y : Nat) : Int) from (in_u64 (by omega) (by omega)).trans (by omega)))) λa A↦?_
 refine sdo (v := pA g2 0) A (qf SmB_fld_26_0 rfl rfl) λa A↦?_
 refine sdo (v := pA g2 1) A (qf SmB_fld_24_1 rfl rfl) λa A↦?_
 refine sdo A (qn S SmB_is1_22 rfl 0 rfl rfl) λa A↦?_
 refine sdm A λa A↦?_
 have hi34 : 0 < ([d0, d1]).length := by first | (simp; done) | omega
 obtain ⟨b31, f32, hso33⟩ := Rd.addr (S.rd 3 rfl) hi34
 refine sdo (v := pA b31 (f32 + 0)) A (zf (k := 0) Tryz.underlying22 (by kernel_rfl) rfl rfl (by omega) hso33 (by omega)) λa A↦?_
 refine sdo (v := .int .u32 (((([d0, d1]).getD 0 0 : Nat) : Int))) A (jf (S.rd 3 rfl) hso33 hi34 SmB_is1_161 rfl) λa A↦?_
 refine sdo (v := .int .u64 (((d0 : Nat) : Int))) A (zk rfl (ar_conv Tryz.underlying161 Tryz.underlying160 (show IntKind.u64.wrap ((d0 : Nat) : Int) = ((d0 : Nat) : Int) from yf (by omega)))) λa A↦?_
 refine sdo (v := .int .u64 (((x : Nat) : Int))) A (qh rfl rfl (ar_add (show IntKind.u64.wrap (((y : Nat) : Int) + ((d0 : Nat) : Int)) = ((x : Nat) : Int) from (in_u64 (by omega) (by omega)).trans (by omega)))) λa A↦?_
 refine sda A λa A↦?_
 refine qa (hK30 _ _ (wrl (sdm A λa A↦?_)))
 refine sdo (v := iV (-1)) A dbK λa A↦?_
 refine sda A λa A↦?_
 refine qa (hK27 _ _ (zt fun K35 hK35 => ?_))
 refine wsk fun K36 hK36 => wsk fun K37 hK37 => wrl (sdm A λa A↦?_)
 refine sdo (v := bV false) A dbK λa A↦?_
 refine qa (hK37 _ _ (cf A ?_))
 refine wp_exit (hK17 _ _ (wsk fun K38 hK38 => wsk fun K39 hK39 => wrl (sdo (v := pA g2 0) A (qf SmB_fld_26_0 rfl rfl) λa A↦?_)))
 refine sdo (v := pA g2 0) A (qf SmB_fld_24_0 rfl rfl) λa A↦?_
 refine sdo A (qn S SmB_is1_4 rfl 0 rfl rfl) λa A↦?_
 refine qa (hK39 _ _ (ct A ?_))
 refine wsk fun K40 hK40 => wsk fun K41 hK41 => wrl (sdm A λa A↦?_)
 refine sdo (v := bV true) A (qh rfl rfl (fun w => (ji w).trans (by rw [show (decide (9223372036854775808 < ((x : Nat) : Int))) = true from (decide_eq_true (by omega))]))) λa A↦?_
 refine qa (hK41 _ _ (ct A ?_))
 refine wsk fun K42 hK42 => wrl ?_
 iterate 2 refine sda A λa A↦?_
 refine qa (hK42 _ _ (wp_ret (hret _ _ (en2 A rfl (qj rfl) (qj rfl) ?_))))
 exact ⟨rfl, S.bel⟩
theorem qob {w : World} {d0 d1 y x : Nat} (h0 : d0 < 4294967296) (h1 : d1 < 4294967296) (hy : d1 * 4294967296 = y) (hx : y + d0 = x) {a1 a2 a3 a4 : Option Addr} {ac1 ac2 ac3 ac4 : Nat} (ha : Nm w ((⟨true, [d0, d1], [1], false, [], [1]⟩ : Q6)) a1 ac1 a2 ac2 a3 ac3 a4 ac4) (hs : jp (⟨true, [d0, d1], [1], false, [], [1]⟩ : Q6) = true) (hw : xq (⟨true, [d0, d1], [1], false, [], [1]⟩ : Q6) = true) (hk : (words (x)) = [d0, d1]) (hz : bl (x) ≤ 64) (hc : x ≤ 9223372036854775808) (hp : 1 ≤ x) : Calls Tryz.prog 60 #[yt (⟨true, [d0, d1], [1], false, [], [1]⟩ : Q6) a1 ac1 a2 ac2 a3 ac3 a4 ac4] w fun e w' => e = .returned (.tuple #[iV (sgn true (x)), iV 0]) ∧ Below w.heap.size w w' := by
 have S : St w w [] [(a4, [1]), (a3, []), (a2, [1]), (a1, [d0, d1])] [] := ((((St.start w).addR ha.s1.rd).addR ha.s2.rd).addR ha.s3.rd).addR ha.s4.rd
 refine qx (l := [(0, .agg #[bV true, .slice a1 2 ac1, .slice a2 1 ac2, bV false, .slice a3 0 ac3, .slice a4 1 ac4])]) Tryz.func60 rfl Tryz.ntmps60 rfl rfl ?_
 intro Q hret hnorm hP a A
 refine wsk fun K1 hK1 => wrl (jq A S rfl rfl rfl pg (zd rfl rfl) rfl ?_)
 intro g2 w3 S a A
 iterate 2 refine sda A λa A↦?_
 refine qa (hK1 _ _ (wsk fun K4 hK4 => wsk fun K5 hK5 => wrl (sdo A (zj S SmB_isS_26 rfl 0 rfl (cs := [bV true, .slice a1 2 ac1, .slice a2 1 ac2, bV false, .slice a3 0 ac3, .slice a4 1 ac4]) rfl rfl) λa A↦?_)))
 refine sct A (ef rfl rfl) (jy (show Nm _ _ a1 ac1 a2 ac2 a3 ac3 a4 ac4 from ⟨⟨(S.rd 3 rfl), ha.s1.nil, ha.s1.cap⟩, ⟨(S.rd 2 rfl), ha.s2.nil, ha.s2.cap⟩, ⟨(S.rd 1 rfl), ha.s3.nil, ha.s3.cap⟩, ⟨(S.rd 0 rfl), ha.s4.nil, ha.s4.cap⟩⟩) ⟨Nat.le_of_ble_eq_true rfl, Nat.le_of_ble_eq_true rfl, Nat.le_of_ble_eq_true rfl, Nat.le_of_ble_eq_true rfl⟩ hs) ?_
 rintro _ w7 ⟨rfl, hb6⟩
 replace S := S.call hb6
 refine ⟨_, rfl, ?_⟩
 intro a A
 refine sdo (v := bV false) A (ql rfl qp) λa A↦?_
 refine qa (hK5 _ _ (cf A ?_))
 refine wp_skip (hK4 _ _ (wsk fun K8 hK8 => wsk fun K9 hK9 => wrl (sdo A (zj S SmB_isS_26 rfl 0 rfl (cs := [bV true, .slice a1 2 ac1, .slice a2 1 ac2, bV false, .slice a3 0 ac3, .slice a4 1 ac4]) rfl rfl) λa A↦?_)))
 refine sct A (ef rfl rfl) (xz (show Nm _ _ a1 ac1 a2 ac2 a3 ac3 a4 ac4 from ⟨⟨(S.rd 3 rfl), ha.s1.nil, ha.s1.cap⟩, ⟨(S.rd 2 rfl), ha.s2.nil, ha.s2.cap⟩, ⟨(S.rd 1 rfl), ha.s3.nil, ha.s3.cap⟩, ⟨(S.rd 0 rfl), ha.s4.nil, ha.s4.cap⟩⟩) ⟨Nat.le_of_ble_eq_true rfl, Nat.le_of_ble_eq_true rfl, Nat.le_of_ble_eq_true rfl, Nat.le_of_ble_eq_true rfl⟩ hw) ?_
 rintro _ w11 ⟨rfl, hb10⟩
 replace S := S.call hb10
 refine ⟨_, rfl, ?_⟩
 intro a A
 refine sdo (v := bV false) A (ql rfl qp) λa A↦?_
 refine qa (hK9 _ _ (cf A ?_))
 refine wp_skip (hK8 _ _ (wsk fun K12 hK12 => wsk fun K13 hK13 => wrl (sdo (v := pA g2 0) A (qf SmB_fld_26_0 rfl rfl) λa A↦?_)))
 refine sdo (v := pA g2 1) A (qf SmB_fld_24_1 rfl rfl) λa A↦?_
 refine sdo A (qn S SmB_is1_22 rfl 0 rfl rfl) λa A↦?_
 refine sct A (ef rfl rfl) ((show Calls Tryz.prog 102 #[.slice a1 2 ac1] _ (fun e w' => e = .returned (iV ((bl (x) : Nat) : Int)) ∧ w' = _) from (by have h9 := size_any (x := x) ac1 (show Rd _ a1 (words (x)) from (by rw [hk]; exact (S.rd 3 rfl))) (by rw [hk]; exact Nat.le_of_ble_eq_true rfl); rw [hk] at h9; exact h9))) ?_
 rintro _ w15 ⟨rfl, hb14⟩
 replace hb14 := xb hb14
 replace S := S.call hb14
 refine ⟨_, rfl, ?_⟩
 intro a A
 refine sdo (v := bV false) A (qh rfl rfl (fun w => (ji w).trans (by rw [show (decide (64 < ((bl (x) : Nat) : Int))) = false from (decide_eq_false (by omega))]))) λa A↦?_
 refine qa (hK13 _ _ (cf A ?_))
 refine wp_skip (hK12 _ _ (wsk fun K16 hK16 => wrl (sda A λa A↦?_)))
 refine qa (hK16 _ _ (wsk fun K17 hK17 => wsk fun K18 hK18 => wrl (sdo (v := pA g2 0) A (qf SmB_fld_26_0 rfl rfl) λa A↦?_)))
 refine sdo (v := pA g2 1) A (qf SmB_fld_24_1 rfl rfl) λa A↦?_
 refine sdo A (qn S SmB_is1_22 rfl 0 rfl rfl) λa A↦?_
 refine sdo A (qy Tryz.underlying22 rfl) λa A↦?_
 refine sdo (v := iV 1) A dbK λa A↦?_
 refine sda A λa A↦?_
 refine qa (hK18 _ _ (wp_block (wp_loop_rounds 12 ?_)))
 refine zt fun K19 hK19 => ?_
 refine wsk fun K20 hK20 => wsk fun K21 hK21 => wrl (sdm A λa A↦?_)
 refine sdo (v := bV true) A dbK λa A↦?_
 refine qa (hK21 _ _ (ct A ?_))
 refine wp_skip (hK20 _ _ (wsk fun K22 hK22 => wp_block (wrl (sdm A λa A↦?_))))
 refine sdo (v := .int .u64 0) A (qh rfl rfl (ar_mul (by decide))) λa A↦?_
 refine sdo (v := pA g2 0) A (qf SmB_fld_26_0 rfl rfl) λa A↦?_
 refine sdo (v := pA g2 1) A (qf SmB_fld_24_1 rfl rfl) λa A↦?_
 refine sdo A (qn S SmB_is1_22 rfl 0 rfl rfl) λa A↦?_
 refine sdm A λa A↦?_
 have hi26 : 1 < ([d0, d1]).length := by first | (simp; done) | omega
 obtain ⟨b23, f24, hso25⟩ := Rd.addr (S.rd 3 rfl) hi26
 refine sdo (v := pA b23 (f24 + 1)) A (zf (k := 1) Tryz.underlying22 (by kernel_rfl) rfl rfl (by omega) hso25 (by omega)) λa A↦?_
 refine sdo (v := .int .u32 (((([d0, d1]).getD 1 0 : Nat) : Int))) A (jf (S.rd 3 rfl) hso25 hi26 SmB_is1_161 rfl) λa A↦?_
 refine sdo (v := .int .u64 (((d1 : Nat) : Int))) A (zk rfl (ar_conv Tryz.underlying161 Tryz.underlying160 (show IntKind.u64.wrap ((d1 : Nat) : Int) = ((d1 : Nat) : Int) from yf (by omega)))) λa A↦?_
 refine sdo (v := .int .u64 (((d1 : Nat) : Int))) A (qh rfl rfl (ar_add (show IntKind.u64.wrap (0 + ((d1 : Nat) : Int)) = ((d1 : Nat) : Int) from (in_u64 (by omega) (by omega)).trans (by omega)))) λa A↦?_
 refine sda A λa A↦?_
 refine qa (hK22 _ _ (wrl (sdm A λa A↦?_)))
 refine sdo (v := iV 0) A dbK λa A↦?_
 refine sda A λa A↦?_
 refine qa (hK19 _ _ (zt fun K27 hK27 => ?_))
 refine wsk fun K28 hK28 => wsk fun K29 hK29 => wrl (sdm A λa A↦?_)
 refine sdo (v := bV true) A dbK λa A↦?_
 refine qa (hK29 _ _ (ct A ?_))
 refine wp_skip (hK28 _ _ (wsk fun K30 hK30 => wp_block (wrl (sdm A λa A↦?_))))
 refine sdo (v := .int .u64 (((y : Nat) : Int))) A (qh rfl rfl (ar_mul (show IntKind.u64.wrap (((d1 : Nat) : Int) * 4294967296) = ((y : Nat) : Int) from (in_u64 (by omega) (by omega)).trans (by omega)))) λa A↦?_
 refine sdo (v := pA g2 0) A (qf SmB_fld_26_0 rfl rfl) λa A↦?_
 refine sdo (v := pA g2 1) A (qf SmB_fld_24_1 rfl rfl) λa A↦?_
 refine sdo A (qn S SmB_is1_22 rfl 0 rfl rfl) λa A↦?_
 refine sdm A λa A↦?_
 have hi34 : 0 < ([d0, d1]).length := by first | (simp; done) | omega
 obtain ⟨b31, f32, hso33⟩ := Rd.addr (S.rd 3 rfl) hi34
 refine sdo (v := pA b31 (f32 + 0)) A (zf (k := 0) Tryz.underlying22 (by kernel_rfl) rfl rfl (by omega) hso33 (by omega)) λa A↦?_
 refine sdo (v := .int .u32 (((([d0, d1]).getD 0 0 : Nat) : Int))) A (jf (S.rd 3 rfl) hso33 hi34 SmB_is1_161 rfl) λa A↦?_
 refine sdo (v := .int .u64 (((d0 : Nat) : Int))) A (zk rfl (ar_conv Tryz.underlying161 Tryz.underlying160 (show IntKind.u64.wrap ((d0 : Nat) : Int) = ((d0 : Nat) : Int) from yf (by omega)))) λa A↦?_
 refine sdo (v := .int .u64 (((x : Nat) : Int))) A (qh rfl rfl (ar_add (show IntKind.u64.wrap (((y : Nat) : Int) + ((d0 : Nat) : Int)) = ((x : Nat) : Int) from (in_u64 (by omega) (by omega)).trans (by omega)))) λa A↦?_
 refine sda A λa A↦?_
 refine qa (hK30 _ _ (wrl (sdm A λa A↦?_)))
 refine sdo (v := iV (-1)) A dbK λa A↦?_
 refine sda A λa A↦?_
 refine qa (hK27 _ _ (zt fun K35 hK35 => ?_))
 refine wsk fun K36 hK36 => wsk fun K37 hK37 => wrl (sdm A λa A↦?_)
 refine sdo (v := bV false) A dbK λa A↦?_
 refine qa (hK37 _ _ (cf A ?_))
 refine wp_exit (hK17 _ _ (wsk fun K38 hK38 => wsk fun K39 hK39 => wrl (sdo (v := pA g2 0) A (qf SmB_fld_26_0 rfl rfl) λa A↦?_)))
 refine sdo (v := pA g2 0) A (qf SmB_fld_24_0 rfl rfl) λa A↦?_
 refine sdo A (qn S SmB_is1_4 rfl 0 rfl rfl) λa A↦?_
 refine qa (hK39 _ _ (ct A ?_))
 refine wsk fun K40 hK40 => wsk fun K41 hK41 => wrl (sdm A λa A↦?_)
 refine sdo (v := bV false) A (qh rfl rfl (fun w => (ji w).trans (by rw [show (decide (9223372036854775808 < ((x : Nat) : Int))) = false from (decide_eq_false (by omega))]))) λa A↦?_
 refine qa (hK41 _ _ (cf A ?_))
 refine wp_skip (hK40 _ _ (wsk fun K42 hK42 => wrl (sdm A λa A↦?_)))
 refine sdo (v := .int .u64 (((x - 1 : Nat) : Int))) A (qh rfl rfl (ar_sub (show IntKind.u64.wrap (((x : Nat) : Int) - 1) = ((x - 1 : Nat) : Int) from (in_u64 (by omega) (by omega)).trans (by omega)))) λa A↦?_
 refine sdo (v := iV (((x - 1 : Nat) : Int))) A (zk rfl (ar_conv Tryz.underlying160 Tryz.underlying3 (in_i64 (by omega) (by omega)))) λa A↦?_
 refine sdo (v := iV (-(((x - 1 : Nat) : Int)))) A (ql rfl (ar_neg (in_i64 (by omega) (by omega)))) λa A↦?_
 refine sdo (v := iV (-(((x - 1 : Nat) : Int)) - 1)) A (qh rfl rfl (qhg (yk (by omega) (by omega)))) λa A↦?_
 iterate 2 refine sda A λa A↦?_
 refine qa (hK42 _ _ (wp_ret (hret _ _ (en2 A rfl (qj rfl) (qj rfl) ?_))))
 exact ⟨by rw [show (-(((x - 1 : Nat) : Int)) - 1) = sgn true (x) from by simp only [sgn]; first | rfl | omega | (simp; omega)], S.bel⟩
theorem qyh {w : World} {b : Bool} {x : Nat} {a1 a2 a3 a4 : Option Addr} {ac1 ac2 ac3 ac4 : Nat} (ha : Nm w (Q6.whole b x) a1 ac1 a2 ac2 a3 ac3 a4 ac4) (hl : LenQ (Q6.whole b x)) (hs : jp (Q6.whole b x) = true) (hw : xq (Q6.whole b x) = true) (hx : (words x).length ≤ 512) (hc : 64 < bl x) : Calls Tryz.prog 60 #[yt (Q6.whole b x) a1 ac1 a2 ac2 a3 ac3 a4 ac4] w fun e w' => e = .returned (.tuple #[iV 0, iV 4]) ∧ Below w.heap.size w w' := by
 have S : St w w [] [(a4, [1]), (a3, []), (a2, [1]), (a1, words x)] [] := ((((St.start w).addR ha.s1.rd).addR ha.s2.rd).addR ha.s3.rd).addR ha.s4.rd
 refine qx (l := [(0, .agg #[bV b, .slice a1 ((words x).length) ac1, .slice a2 1 ac2, bV false, .slice a3 0 ac3, .slice a4 1 ac4])]) Tryz.func60 rfl Tryz.ntmps60 rfl rfl ?_
 intro Q hret hnorm hP a A
 refine wsk fun K1 hK1 => wrl (jq A S rfl rfl rfl pg (zd rfl rfl) rfl ?_)
 intro g2 w3 S a A
 iterate 2 refine sda A λa A↦?_
 refine qa (hK1 _ _ (wsk fun K4 hK4 => wsk fun K5 hK5 => wrl (sdo A (zj S SmB_isS_26 rfl 0 rfl (cs := [bV b, .slice a1 ((words x).length) ac1, .slice a2 1 ac2, bV false, .slice a3 0 ac3, .slice a4 1 ac4]) rfl rfl) λa A↦?_)))
 refine sct A (ef rfl rfl) (jy (show Nm _ _ a1 ac1 a2 ac2 a3 ac3 a4 ac4 from ⟨⟨(S.rd 3 rfl), ha.s1.nil, ha.s1.cap⟩, ⟨(S.rd 2 rfl), ha.s2.nil, ha.s2.cap⟩, ⟨(S.rd 1 rfl), ha.s3.nil, ha.s3.cap⟩, ⟨(S.rd 0 rfl), ha.s4.nil, ha.s4.cap⟩⟩) hl hs) ?_
 rintro _ w7 ⟨rfl, hb6⟩
 replace S := S.call hb6
 refine ⟨_, rfl, ?_⟩
 intro a A
 refine sdo (v := bV false) A (ql rfl qp) λa A↦?_
 refine qa (hK5 _ _ (cf A ?_))
 refine wp_skip (hK4 _ _ (wsk fun K8 hK8 => wsk fun K9 hK9 => wrl (sdo A (zj S SmB_isS_26 rfl 0 rfl (cs := [bV b, .slice a1 ((words x).length) ac1, .slice a2 1 ac2, bV false, .slice a3 0 ac3, .slice a4 1 ac4]) rfl rfl) λa A↦?_)))
 refine sct A (ef rfl rfl) (xz (show Nm _ _ a1 ac1 a2 ac2 a3 ac3 a4 ac4 from ⟨⟨(S.rd 3 rfl), ha.s1.nil, ha.s1.cap⟩, ⟨(S.rd 2 rfl), ha.s2.nil, ha.s2.cap⟩, ⟨(S.rd 1 rfl), ha.s3.nil, ha.s3.cap⟩, ⟨(S.rd 0 rfl), ha.s4.nil, ha.s4.cap⟩⟩) hl hw) ?_
 rintro _ w11 ⟨rfl, hb10⟩
 replace S := S.call hb10
 refine ⟨_, rfl, ?_⟩
 intro a A
 refine sdo (v := bV false) A (ql rfl qp) λa A↦?_
 refine qa (hK9 _ _ (cf A ?_))
 refine wp_skip (hK8 _ _ (wsk fun K12 hK12 => wsk fun K13 hK13 => wrl (sdo (v := pA g2 0) A (qf SmB_fld_26_0 rfl rfl) λa A↦?_)))
 refine sdo (v := pA g2 1) A (qf SmB_fld_24_1 rfl rfl) λa A↦?_
 refine sdo A (qn S SmB_is1_22 rfl 0 rfl rfl) λa A↦?_
 refine sct A (ef rfl rfl) (size_any _ (S.rd 3 rfl) (by omega)) ?_
 rintro _ w15 ⟨rfl, hb14⟩
 replace hb14 := xb hb14
 replace S := S.call hb14
 refine ⟨_, rfl, ?_⟩
 intro a A
 refine sdo (v := bV true) A (qh rfl rfl (fun w => (ji w).trans (by rw [show (decide (64 < ((bl x : Nat) : Int))) = true from (decide_eq_true (by omega))]))) λa A↦?_
 refine qa (hK13 _ _ (ct A ?_))
 refine wsk fun K16 hK16 => wrl ?_
 iterate 2 refine sda A λa A↦?_
 refine qa (hK16 _ _ (wp_ret (hret _ _ (en2 A rfl (qj rfl) (qj rfl) ?_))))
 exact ⟨rfl, S.bel⟩


theorem qyi {w : World} {q : Q6} {a1 a2 a3 a4 : Option Addr} {ac1 ac2 ac3 ac4 : Nat} (ha : Nm w q a1 ac1 a2 ac2 a3 ac3 a4 ac4) (hl : LenQ q) : Calls Tryz.prog 60 #[yt q a1 ac1 a2 ac2 a3 ac3 a4 ac4] w fun e w' => e = .returned (.tuple #[.int .i64 (zu q).1, .int .i64 (zu q).2]) ∧ Below w.heap.size w w' := by
  cases h1 : jp q with
  | false =>
    rw [qdf h1]
    exact qtd ha hl h1
  | true =>
    cases hw : xq q with
    | false =>
      rw [qha h1 hw]
      exact qte ha hl h1 hw
    | true =>
      obtain ⟨x, e, hx, hb⟩ := qjd ha.s1.rd.dig ha.s4.rd.dig hw
      generalize q.b1 = b at e hb
      subst e
      rw [qej hw]
      unfold qkb
      by_cases h64 : bl x ≤ 64
      · have h64' : x < 18446744073709551616 := bl_le.1 h64
        unfold Q6.whole at *
        by_cases k0 : x = 0
        · subst k0
          rw [words_zero] at *
          cases b
          · rw [if_pos (by decide)]
            exact qnf ha h1 hw words_zero h64 (by decide)
          · simp at hb
        by_cases k1 : x < 4294967296
        · have hk := uy k0 k1
          rw [hk] at ha h1 hw ⊢
          rw [if_pos (by omega)]
          cases b
          · exact qng k1 ha h1 hw hk h64 (by omega)
          · exact qnh k1 ha h1 hw hk h64 (by omega) (by omega)
        have hk := qfa (by omega : 4294967296 ≤ x) h64'
        have e : x / 4294967296 * 4294967296 + x % 4294967296 = x := by omega
        rw [hk] at ha h1 hw ⊢
        by_cases hc : x ≤ 9223372036854775807 + b.toNat
        · rw [if_pos hc]
          cases b
          · exact qnj (d0 := x % 4294967296) (d1 := x / 4294967296) (by omega) (by omega) rfl (by omega) ha h1 hw hk h64 (by simpa using hc)
          · exact qob (d0 := x % 4294967296) (d1 := x / 4294967296) (by omega) (by omega) rfl (by omega) ha h1 hw hk h64 (by simpa using hc) (by omega)
        · rw [if_neg hc]
          cases b
          · exact qni (d0 := x % 4294967296) (d1 := x / 4294967296) (by omega) (by omega) rfl (by omega) ha h1 hw hk h64 (by simpa using hc)
          · exact qoa (d0 := x % 4294967296) (d1 := x / 4294967296) (by omega) (by omega) rfl (by omega) ha h1 hw hk h64 (by simpa using hc) (by omega)
      · have hbig : ¬ x ≤ 9223372036854775807 + b.toNat := by
          have : ¬ x < 18446744073709551616 := fun h => h64 (bl_le.2 h)
          have : b.toNat ≤ 1 := by cases b <;> decide
          omega
        rw [if_neg hbig]
        exact qyh ha hl h1 hw hx (by omega)
open Go.ChangeShapes Go.WideShapes Go.ChangeAt Go.RowKit Go.Joins Go.Deep
section
variable {H : Type} {enc : TypeId × Value → H} {W : World}
theorem trod_bool {fuel : Nat} {v : Value} {x : DataW H × List MemPlace} (h : DataW.trod enc Tryz.prog W 0 (fun _ => true) true fuel 4 [v] = some x) : ∃ b, v = .bool b := by
  obtain ⟨b, h, _⟩ := DataW.trod_bool Tryz.underlying4 h
  exact ⟨b, by simpa using h⟩
end
end Go.Proofs.YtoopkbedjbnhhaaGreatDoor
