/- St StOp ExH NumV NumW NumX -/
import Derived.Test.YtclkfideaameoaaGreatDoorPdatums10b
import Derived.OrdersHeld
import Derived.Deep.RegionHeld3
import Derived.Laws.IdiomCopy
import Derived.ChangeKeysEq
import Derived.LoopN
import Derived.Deep.AppendLies
import Derived.Test.YtclkfideaameoaaGreatDoorPdatums10
import Derived.Test.YtclkfideaameoaaGreatDoorRows
import Derived.Handed
import Derived.FnData
import Derived.LaidLaws
import Derived.Lib.LaidU8
import Derived.KernelRfl
import Derived.Test.YtclkfideaameoaaGreatDoorPdatums10y
import Derived.Test.YtclkfideaameoaaGreatDoorPdatums10w
import Derived.Test.YtclkfideaameoaaGreatDoorProg
set_option linter.unusedVariables false
set_option linter.unusedSimpArgs false
set_option maxHeartbeats 1000000
namespace Go.Proofs.YtclkfideaameoaaGreatDoor
open Go.RowKit
abbrev pA (b o : Nat) : Value := .pointer (some ⟨b, o, none⟩)
abbrev iV (z : Int) : Value := .int .i64 z
abbrev bV (b : Bool) : Value := .bool b
abbrev aO (g : Nat) : Option Addr := some ⟨g, 0, none⟩
theorem ns {α : Type} {l : List α} : List.Sublist [] l := List.nil_sublist l
theorem cn {α : Type} {l m : List α} {a : α} (h : l.Sublist m) : l.Sublist (a :: m) := .cons _ h
theorem cc {α : Type} {l m : List α} {a : α} (h : l.Sublist m) : (a :: l).Sublist (a :: m) := .cons_cons _ h

def xq : List (Nat × Value) → Nat → Option Value
  | [], _ => none
  | (k, v) :: t, n => cond (Nat.beq k n) (some v) (xq t n)
def ev (l : List (Nat × Value)) : Operand → Option Value
  | .tmp k => xq l k
  | .const v => some v
  | .global g => some (.pointer (some ⟨g, 0, none⟩))
  | .func f => some (.func (.func f) #[] #[])
def evs (l : List (Nat × Value)) : List Operand → Option (List Value)
  | [] => some []
  | x :: xs => match ev l x, evs l xs with | some v, some vs => some (v :: vs) | _, _ => none
def evp (l : List (Nat × Value)) : List (Nat × Operand) → Option (List (Nat × Value))
  | [] => some []
  | (i, x) :: xs => match ev l x, evp l xs with | some v, some vs => some ((i, v) :: vs) | _, _ => none
structure Sl (a : Act) (n : Nat) (l : List (Nat × Value)) : Prop where
  size : a.tmps.size = n
  holds : ∀ k v, xq l k = some v → a.tmps[k]? = some v
  none_ : a.defers = []
section
variable {a : Act} {n : Nat} {l : List (Nat × Value)}
theorem Sl.ev (h : Sl a n l) {x : Operand} {v : Value} (hx : ev l x = some v) : a.eval x = v := by
  cases x with
  | tmp k =>
    have := h.holds k v hx
    simp [Act.eval, Array.getD_eq_getD_getElem?, this]
  | const u => simpa [YtclkfideaameoaaGreatDoor.ev, Act.eval] using hx
  | global g => simpa [YtclkfideaameoaaGreatDoor.ev, Act.eval] using hx
  | func f => simpa [YtclkfideaameoaaGreatDoor.ev, Act.eval] using hx
theorem Sl.evs (h : Sl a n l) : ∀ {xs : List Operand} {vs : List Value}, evs l xs = some vs → xs.map a.eval = vs := by
  intro xs
  induction xs with
  | nil => intro vs hx; simp [YtclkfideaameoaaGreatDoor.evs] at hx; simp [hx]
  | cons x xs ih =>
    intro vs hx
    unfold YtclkfideaameoaaGreatDoor.evs at hx
    split at hx
    · rename_i v us h1 h2
      cases hx
      simp [h.ev h1, ih h2]
    · cases hx
theorem Sl.evp (h : Sl a n l) : ∀ {xs : List (Nat × Operand)} {vs : List (Nat × Value)}, evp l xs = some vs → xs.map (fun p => (p.1, a.eval p.2)) = vs := by
  intro xs
  induction xs with
  | nil => intro vs hx; simp [YtclkfideaameoaaGreatDoor.evp] at hx; simp [hx]
  | cons x xs ih =>
    intro vs hx
    obtain ⟨i, x⟩ := x
    unfold YtclkfideaameoaaGreatDoor.evp at hx
    split at hx
    · rename_i v us h1 h2
      cases hx
      simp [h.ev h1, ih h2]
    · cases hx
theorem Sl.put (h : Sl a n l) {d : Nat} (hd : Nat.blt d n = true) (v : Value) : Sl (a.put (some d) v) n ((d, v) :: l) := by
  refine ⟨by simp [Act.put, h.size], fun k u hk => ?_, by simp [Act.put, h.none_]⟩
  have hd' : d < a.tmps.size := by rw [h.size]; exact Nat.le_of_ble_eq_true hd
  unfold xq at hk
  cases hb : Nat.beq d k with
  | true =>
    rw [hb] at hk
    have : d = k := Nat.eq_of_beq_eq_true hb
    subst this
    simp only [cond_true, Option.some.injEq] at hk
    subst hk
    simp [Act.put, Array.getElem?_setIfInBounds, hd']
  | false =>
    rw [hb] at hk
    have hne : d ≠ k := fun e => by rw [e, Nat.beq_refl] at hb; cases hb
    simp only [cond_false] at hk
    simp [Act.put, Array.getElem?_setIfInBounds, hne, h.holds k u hk]
theorem Sl.enter {args : List Value} {m : Nat} (hl : args.length ≤ m) : Sl { tmps := args.toArray ++ Array.replicate (m - args.toArray.size) undef, defers := [] } m (args.zipIdx.map fun p => (p.2, p.1)) := by
  refine ⟨by simp; omega, fun k v hk => ?_, rfl⟩
  have key : ∀ (xs : List Value) (o : Nat), xq ((xs.zipIdx o).map fun p => (p.2, p.1)) k = some v → o ≤ k ∧ xs[k - o]? = some v := by
    intro xs
    induction xs with
    | nil => intro o h; simp [xq] at h
    | cons x xs ih =>
      intro o h
      simp only [List.zipIdx_cons, List.map_cons, xq] at h
      cases hb : Nat.beq o k with
      | true =>
        rw [hb] at h
        have : o = k := Nat.eq_of_beq_eq_true hb
        subst this
        simp only [cond_true, Option.some.injEq] at h
        simp [h]
      | false =>
        rw [hb] at h
        have hne : o ≠ k := fun e => by rw [e, Nat.beq_refl] at hb; cases hb
        simp only [cond_false] at h
        obtain ⟨h1, h2⟩ := ih _ h
        refine ⟨by omega, ?_⟩
        have : k - o = (k - (o + 1)) + 1 := by omega
        rw [this, List.getElem?_cons_succ]
        exact h2
  have h := (key args 0 hk).2
  simp only [Nat.sub_zero] at h
  have hlt : k < args.length := (List.getElem?_eq_some_iff.1 h).1
  rw [Array.getElem?_append_left (by simpa using hlt)]
  simpa using h
def AllIn (l : List (Nat × Value)) : List (Nat × Value) → Prop
  | [] => True
  | p :: t => xq l p.1 = some p.2 ∧ AllIn l t
theorem Sl.keep (h : Sl a n l) (l' : List (Nat × Value)) (hs : AllIn l l') : Sl a n l' := by
  refine ⟨h.size, ?_, h.none_⟩
  induction l' with
  | nil => intro k v hk; simp [xq] at hk
  | cons p t ih =>
    intro k v hk
    obtain ⟨d, u⟩ := p
    unfold xq at hk
    cases hb : Nat.beq d k with
    | true =>
      rw [hb] at hk
      have : d = k := Nat.eq_of_beq_eq_true hb
      subst this
      simp only [cond_true, Option.some.injEq] at hk
      subst hk
      exact h.holds _ _ hs.1
    | false =>
      rw [hb] at hk
      exact ih hs.2 k v hk
theorem Sl.cut (h : Sl a n l) (l' : List (Nat × Value)) (hl : ∀ k v, xq l' k = some v → xq l k = some v) : Sl a n l' := ⟨h.size, fun k v hk => h.holds k v (hl k v hk), h.none_⟩
end

def Does (P : Program) (l : List (Nat × Value)) (o : Oper) (w : World) (v : Value) (w' : World) : Prop :=
  ∀ ρ : Operand → Value, (∀ x u, ev l x = some u → ρ x = u) → (execOp ρ o).run P w = .ok (.value v) w'
def Sets (P : Program) (l : List (Nat × Value)) (o : Oper) (w : World) (w' : World) : Prop :=
  ∀ ρ : Operand → Value, (∀ x u, ev l x = some u → ρ x = u) → (execOp ρ o).run P w = .ok .skip w'
def Enters (P : Program) (l : List (Nat × Value)) (o : Oper) (w : World) (f : FuncId) (vs : List Value) : Prop :=
  ∀ ρ : Operand → Value, (∀ x u, ev l x = some u → ρ x = u) → (execOp ρ o).run P w = .ok (.enter f vs.toArray) w
def xp (l : List (Nat × Value)) (ops : List Oper) (o : Oper) : Bool :=
  match o.guard with
  | none => true
  | some (j, b) => match ops[j]? with
    | some oj => match oj.dst with
      | some d => match xq l d with
        | some (.bool b') => b' == b
        | _ => false
      | none => false
    | none => false
def vk (l : List (Nat × Value)) (ops : List Oper) (o : Oper) : Bool :=
  match o.guard with
  | none => false
  | some (j, b) => match ops[j]? with
    | some oj => match oj.dst with
      | some d => match xq l d with
        | some (.bool b') => b' != b
        | _ => false
      | none => false
    | none => false
section
variable {P : Program} {ops : List Oper} {Q : Exit → Act → World → Prop} {a : Act} {w w' : World} {n : Nat} {l : List (Nat × Value)} {o : Oper} {v : Value} {rest : List Oper}
theorem Sl.wanted (h : Sl a n l) (hp : xp l ops o = true) : Region.wanted o (yielded ops.toArray a.tmps) = true := by
  unfold Region.wanted
  unfold xp at hp
  split at hp
  · rename_i hg; rw [hg]
  · rename_i j b hg
    rw [hg]
    split at hp
    · rename_i oj hj
      split at hp
      · rename_i d hd
        split at hp
        · rename_i b' hb
          have := h.holds d _ hb
          simp only [beq_iff_eq] at hp
          simp [yielded, hj, hd, this, hp]
        · cases hp
      · cases hp
    · cases hp
theorem Sl.unwanted (h : Sl a n l) (hp : vk l ops o = true) : Region.wanted o (yielded ops.toArray a.tmps) = false := by
  unfold Region.wanted
  unfold vk at hp
  split at hp
  · cases hp
  · rename_i j b hg
    rw [hg]
    split at hp
    · rename_i oj hj
      split at hp
      · rename_i d hd
        split at hp
        · rename_i b' hb
          have := h.holds d _ hb
          simp only [bne_iff_ne, ne_eq] at hp
          simp [yielded, hj, hd, this, hp]
        · cases hp
      · cases hp
    · cases hp
theorem vh (hA : Sl a n l) (hg : xp l ops o = true) {d : Nat} (hdst : o.dst = some d) (hd : Nat.blt d n = true) (he : Does P l o w v w')
    (hk : ∀ a', Sl a' n ((d, v) :: l) → wpList P ops.toArray Q rest a' w') : wpList P ops.toArray Q (o :: rest) a w := by
  unfold wpList
  rw [if_pos (hA.wanted hg)]
  refine .inl ?_
  unfold Oper.wp
  rw [he a.eval (fun x u hx => hA.ev hx), Oper.upon_value, hdst]
  exact hk _ (hA.put hd v)
theorem yd (hA : Sl a n l) (hg : xp l ops o = true) (hdst : o.dst = none) (he : Sets P l o w w')
    (hk : wpList P ops.toArray Q rest a w') : wpList P ops.toArray Q (o :: rest) a w := by
  unfold wpList
  rw [if_pos (hA.wanted hg)]
  refine .inl ?_
  unfold Oper.wp
  rw [he a.eval (fun x u hx => hA.ev hx), Oper.upon_skip, hdst]
  exact hk
theorem qg (hA : Sl a n l) (hg : vk l ops o = true) {d : Nat} (hdst : o.dst = some d) (hd : Nat.blt d n = true)
    (hk : ∀ a', Sl a' n ((d, undef) :: l) → wpList P ops.toArray Q rest a' w) : wpList P ops.toArray Q (o :: rest) a w := by
  unfold wpList
  rw [hA.unwanted hg, if_neg (by simp), hdst]
  exact hk _ (hA.put hd undef)
theorem vy (hA : Sl a n l) (hg : xp l ops o = true) {d : Nat} (hdst : o.dst = some d) (hd : Nat.blt d n = true) {f : FuncId} {vs : List Value} (he : Enters P l o w f vs)
    {R : Ending → World → Prop} (hc : Calls P f vs.toArray w R)
    (hk : ∀ e w', R e w' → ∃ v, e = .returned v ∧ ∀ a', Sl a' n ((d, v) :: l) → wpList P ops.toArray Q rest a' w') : wpList P ops.toArray Q (o :: rest) a w := by
  unfold wpList
  rw [if_pos (hA.wanted hg)]
  refine .inl ?_
  unfold Oper.wp
  rw [he a.eval (fun x u hx => hA.ev hx), Oper.upon_enter]
  refine hc.mono ?_
  intro e w' hR
  obtain ⟨v, rfl, h⟩ := hk e w' hR
  simp only [hdst]
  exact h _ (hA.put hd v)
theorem qa (hk : Q .normal a w) : wpList P ops.toArray Q [] a w := hk
variable {S : World → Prop} {md : Region.Mode} {fuel : Nat} {listed : Array Bool}
theorem kq (hA : Sl a n l) (i : Nat) (hi : ops[i]? = some o) (hg : xp l ops o = true) {d : Nat} (hdst : o.dst = some d) (hd : Nat.blt d n = true) (hs : Region.noSelect ops.toArray = true) (hf : Region.free md ops.toArray listed i = true)
    (hr : (Region.ready md ops.toArray listed).contains i = true) (hQ : ∀ c a w, Q (.panic c) (a.put o.dst v) w → Q (.panic c) a w) (hS : S w) (he : ∀ w, S w → Does P l o w v w)
    (hk : ∀ a', Sl a' n ((d, v) :: l) → wpAnyH P md ops.toArray Q S fuel (listed.setIfInBounds i true) a' w) : wpAnyH P md ops.toArray Q S (fuel + 1) listed a w := by
  refine wpAnyH_take (i := i) (oi := o) (v := v) (by simpa using hi) hs hf hr hQ (Or.inl ⟨hA.wanted hg, fun w hw => he w hw a.eval (fun x u hx => hA.ev hx)⟩) hS ?_
  rw [hdst]
  exact hk _ (hA.put hd v)
theorem kr (hA : Sl a n l) (i : Nat) (hi : ops[i]? = some o) (hg : xp l ops o = true) {d : Nat} (hdst : o.dst = some d) (hd : Nat.blt d n = true) (hP : ∀ c a d v w, Q (.panic c) (Act.put a d v) w → Q (.panic c) a w) (hS : S w) (he : ∀ w, S w → Does P l o w v w)
    (hk : ∀ a', Sl a' n ((d, v) :: l) → wpAnyH P md ops.toArray Q S fuel (listed.setIfInBounds i true) a' w) (hs : Region.noSelect ops.toArray = true := by kernel_rfl) (hf : Region.free md ops.toArray listed i = true := by kernel_rfl) (hr : (Region.ready md ops.toArray listed).contains i = true := by kernel_rfl) : wpAnyH P md ops.toArray Q S (fuel + 1) listed a w :=
  kq hA i hi hg hdst hd hs hf hr (fun c a w h => hP c a _ _ w h) hS he hk
theorem ks (hA : Sl a n l) (i : Nat) (hi : ops[i]? = some o) (hg : vk l ops o = true) {d : Nat} (hdst : o.dst = some d) (hd : Nat.blt d n = true) (hs : Region.noSelect ops.toArray = true) (hf : Region.free md ops.toArray listed i = true)
    (hr : (Region.ready md ops.toArray listed).contains i = true) (hQ : ∀ c a w, Q (.panic c) (a.put o.dst undef) w → Q (.panic c) a w) (hS : S w)
    (hk : ∀ a', Sl a' n ((d, undef) :: l) → wpAnyH P md ops.toArray Q S fuel (listed.setIfInBounds i true) a' w) : wpAnyH P md ops.toArray Q S (fuel + 1) listed a w := by
  refine wpAnyH_take (i := i) (oi := o) (v := undef) (by simpa using hi) hs hf hr hQ (Or.inr ⟨hA.unwanted hg, rfl⟩) hS ?_
  rw [hdst]
  exact hk _ (hA.put hd undef)
theorem qee (hA : Sl a n l) (i : Nat) (hi : ops[i]? = some o) (hg : vk l ops o = true) {d : Nat} (hdst : o.dst = some d) (hd : Nat.blt d n = true) (hP : ∀ c a d v w, Q (.panic c) (Act.put a d v) w → Q (.panic c) a w) (hS : S w)
    (hk : ∀ a', Sl a' n ((d, undef) :: l) → wpAnyH P md ops.toArray Q S fuel (listed.setIfInBounds i true) a' w) (hs : Region.noSelect ops.toArray = true := by kernel_rfl) (hf : Region.free md ops.toArray listed i = true := by kernel_rfl) (hr : (Region.ready md ops.toArray listed).contains i = true := by kernel_rfl) : wpAnyH P md ops.toArray Q S (fuel + 1) listed a w :=
  ks hA i hi hg hdst hd hs hf hr (fun c a w h => hP c a _ _ w h) hS hk
theorem qfa (hA : Sl a n l) (i : Nat) (hi : ops[i]? = some o) (hg : xp l ops o = true) (hdst : o.dst = none) (he : Sets P l o w w') (hS : S w')
    (hk : wpAnyH P md ops.toArray Q S fuel (listed.setIfInBounds i true) a w') : wpOp P ops.toArray Q i (fun a' w' => S w' ∧ wpAnyH P md ops.toArray Q S fuel (listed.setIfInBounds i true) a' w') a w := by
  unfold wpOp
  simp only [List.getElem?_toArray, hi]
  rw [if_pos (hA.wanted hg)]
  refine .inl ?_
  unfold Oper.wp
  rw [he a.eval (fun x u hx => hA.ev hx), Oper.upon_skip, hdst]
  exact ⟨hS, hk⟩
theorem ji (hA : Sl a n l) (i : Nat) (hi : ops[i]? = some o) (hg : xp l ops o = true) {d : Nat} (hdst : o.dst = some d) (hd : Nat.blt d n = true)
    {f : FuncId} {vs : List Value} (he : Enters P l o w f vs) {R : Ending → World → Prop} (hc : Calls P f vs.toArray w R)
    (hk : ∀ e w', R e w' → ∃ v, e = .returned v ∧ S w' ∧ ∀ a', Sl a' n ((d, v) :: l) → wpAnyH P md ops.toArray Q S fuel (listed.setIfInBounds i true) a' w') : wpOp P ops.toArray Q i (fun a' w' => S w' ∧ wpAnyH P md ops.toArray Q S fuel (listed.setIfInBounds i true) a' w') a w := by
  unfold wpOp
  simp only [List.getElem?_toArray, hi]
  rw [if_pos (hA.wanted hg)]
  refine .inl ?_
  unfold Oper.wp
  rw [he a.eval (fun x u hx => hA.ev hx), Oper.upon_enter]
  refine hc.mono ?_
  intro e w' hR
  obtain ⟨v, rfl, h1, h2⟩ := hk e w' hR
  simp only [hdst]
  exact ⟨h1, h2 _ (hA.put hd v)⟩
theorem zw {i : Nat} (hr : Region.ready md ops.toArray listed = [i]) (h : wpOp P ops.toArray Q i (fun a' w' => S w' ∧ wpAnyH P md ops.toArray Q S fuel (listed.setIfInBounds i true) a' w') a w) : wpAnyH P md ops.toArray Q S (fuel + 1) listed a w :=
  wpAnyH_all hr (by simp) (fun j hj => by rw [List.mem_singleton] at hj; subst hj; exact h)
theorem qy (hr : Region.ready md ops.toArray listed = []) (hk : Q .normal a w) : wpAnyH P md ops.toArray Q S fuel listed a w := wpAnyH_done hr hk fuel
end
def vx : Value → Bool
  | .int .u32 _ => false
  | _ => true
theorem kz {v : Value} (h : vx v = true) : ∀ n, v ≠ .int .u32 n := by
  intro n e
  subst e
  cases h
def Apart (x y : Option Addr) : Prop := ∀ a b, x = some a → y = some b → a.block ≠ b.block
def Off (x : Option Addr) (g : Nat) : Prop := ∀ a, x = some a → a.block ≠ g
structure St (w0 w : World) (L : List (Nat × List Value)) (R : List (Option Addr × List Nat)) (O : List (Option Addr × Nat × List Nat)) : Prop where
  bel : Below w0.heap.size w0 w
  own : ∀ p ∈ L, w0.heap.size ≤ p.1 ∧ Blk w p.1 p.2
  dis : L.Pairwise (fun p q => p.1 ≠ q.1)
  rds : ∀ r ∈ R, Rd w r.1 r.2
  rows : ∀ o ∈ O, Own w0.heap.size w o.1 o.2.1 o.2.2
  sepO : O.Pairwise (fun p q => Apart p.1 q.1)
  sepL : ∀ o ∈ O, ∀ p ∈ L, Off o.1 p.1
  sepR : ∀ o ∈ O, ∀ r ∈ R, r.2 ≠ [] → Apart o.1 r.1
section
variable {w0 w w' : World} {L : List (Nat × List Value)} {R : List (Option Addr × List Nat)} {O : List (Option Addr × Nat × List Nat)}
theorem St.start (w : World) : St w w [] [] [] := ⟨Below.refl _ _, by simp, .nil, by simp, by simp, .nil, by simp, by simp⟩
theorem St.addR (h : St w0 w L R []) {so : Option Addr} {l : List Nat} (hr : Rd w so l) : St w0 w L ((so, l) :: R) [] :=
  ⟨h.bel, h.own, h.dis, fun r hm => by rcases List.mem_cons.1 hm with rfl | hm; exact hr; exact h.rds r hm, by simp, .nil, by simp, by simp⟩
theorem St.rd (h : St w0 w L R O) (k : Nat) {so : Option Addr} {l : List Nat} (hk : R[k]? = some (so, l)) : Rd w so l := h.rds _ (List.mem_of_getElem? hk)
theorem St.row (h : St w0 w L R O) (k : Nat) {so : Option Addr} {c : Nat} {l : List Nat} (hk : O[k]? = some (so, c, l)) : Own w0.heap.size w so c l := h.rows _ (List.mem_of_getElem? hk)
theorem St.call (h : St w0 w L R O) (hb : Below w.heap.size w w') : St w0 w' L R O :=
  ⟨chain2 h.bel hb, fun p hp => ⟨(h.own p hp).1, (h.own p hp).2.below hb⟩, h.dis, fun r hr => (h.rds r hr).below hb, fun o ho => (h.rows o ho).below hb, h.sepO, h.sepL, h.sepR⟩
theorem St.drew (h : St w0 w L R O) : St w0 w.drew L R O := ⟨h.bel.drew, fun p hp => ⟨(h.own p hp).1, (h.own p hp).2.drew⟩, h.dis, fun r hr => (h.rds r hr).drew, fun o ho => (h.rows o ho).drew, h.sepO, h.sepL, h.sepR⟩
theorem St.lt (h : St w0 w L R O) : ∀ p ∈ L, p.1 < w.heap.size := fun p hp => (h.own p hp).2.lt
theorem St.new (h : St w0 w L R O) (vs : List Value) (t : TypeId) (hno : vs.all vx = true) : St w0 (w.alloc (.cells vs.toArray t)) ((w.heap.size, vs) :: L) R O := by
  have hb : Below w.heap.size w (w.alloc (.cells vs.toArray t)) := (Below.refl _ _).alloc (Nat.le_refl _) _
  have h' := h.call hb
  refine ⟨h'.bel, fun p hp => ?_, List.pairwise_cons.2 ⟨fun q hq => Nat.ne_of_gt (h.lt q hq), h.dis⟩, h'.rds, h'.rows, h.sepO, fun o ho p hp => ?_, h.sepR⟩
  · rcases List.mem_cons.1 hp with rfl | hp
    · exact ⟨h.bel.size, Blk.new w vs t (fun v hv => kz (List.all_eq_true.1 hno v hv))⟩
    · exact h'.own p hp
  · rcases List.mem_cons.1 hp with rfl | hp
    · exact fun a ha => Nat.ne_of_lt ((h.rows o ho).lt a ha).2
    · exact h.sepL o ho p hp
theorem St.blk (h : St w0 w L R O) (k : Nat) {g : Nat} {vs : List Value} (hk : L[k]? = some (g, vs)) : Blk w g vs := (h.own _ (List.mem_of_getElem? hk)).2
theorem St.subL (h : St w0 w L R O) (L' : List (Nat × List Value)) (hs : L'.Sublist L) : St w0 w L' R O := ⟨h.bel, fun p hp => h.own p (hs.subset hp), h.dis.sublist hs, h.rds, h.rows, h.sepO, fun o ho p hp => h.sepL o ho p (hs.subset hp), h.sepR⟩
theorem St.subO (h : St w0 w L R O) (O' : List (Option Addr × Nat × List Nat)) (hs : O'.Sublist O) : St w0 w L R O' := ⟨h.bel, h.own, h.dis, h.rds, fun o ho => h.rows o (hs.subset ho), h.sepO.sublist hs, fun o ho => h.sepL o (hs.subset ho), fun o ho => h.sepR o (hs.subset ho)⟩
theorem St.partD {L' : List (Nat × List Value)} {R' : List (Option Addr × List Nat)} {O' : List (Option Addr × Nat × List Nat)} (h : St w0 w L R O) (hL : L'.Sublist L) (n : Nat) (hR : R.drop n = R') (hO : O'.Sublist O) : St w0 w L' R' O' := by
  subst hR
  refine St.subO (St.subL ⟨h.bel, h.own, h.dis, fun r hr => h.rds r (List.mem_of_mem_drop hr), h.rows, h.sepO, h.sepL, fun o ho r hr => h.sepR o ho r (List.mem_of_mem_drop hr)⟩ L' hL) O' hO
theorem St.cell (h : St w0 w L R O) (k : Nat) {g : Nat} {vs : List Value} (hk : L[k]? = some (g, vs)) (i : Nat) {v : Value} (hi : vs[i]? = some v) : w.cell? ⟨g, i, none⟩ = some v :=
  (h.own _ (List.mem_of_getElem? hk)).2.cell i v hi
theorem yj {L : List (Nat × List Value)} (h : L.Pairwise (fun p q => p.1 ≠ q.1)) {k g : Nat} {vs us : List Value} (hk : L[k]? = some (g, vs)) : (L.set k (g, us)).Pairwise (fun p q => p.1 ≠ q.1) := by
  have e : (L.set k (g, us)).map Prod.fst = L.map Prod.fst := by
    rw [List.map_set]
    apply List.ext_getElem?
    intro i
    by_cases hi : k = i
    · subst hi
      have hlt : k < (L.map Prod.fst).length := by simpa using (List.getElem?_eq_some_iff.1 hk).1
      rw [List.getElem?_set_self hlt]
      simp [hk]
    · rw [List.getElem?_set_ne hi]
  have h1 : (L.map Prod.fst).Pairwise (· ≠ ·) := List.pairwise_map.2 h
  rw [← e] at h1
  exact List.pairwise_map.1 h1
theorem yp {L : List (Nat × List Value)} (h : L.Pairwise (fun p q => p.1 ≠ q.1)) {k g : Nat} {vs us : List Value} (hk : L[k]? = some (g, vs)) {p : Nat × List Value} (hp : p ∈ L.set k (g, us)) : p = (g, us) ∨ (p ∈ L ∧ g ≠ p.1) := by
  obtain ⟨i, hi⟩ := List.mem_iff_getElem?.1 hp
  by_cases e : k = i
  · subst e
    have hlt : k < L.length := (List.getElem?_eq_some_iff.1 hk).1
    rw [List.getElem?_set_self hlt] at hi
    exact .inl (Option.some.inj hi).symm
  · rw [List.getElem?_set_ne e] at hi
    refine .inr ⟨List.mem_of_getElem? hi, ?_⟩
    have h1 := List.pairwise_iff_getElem.1 h
    obtain ⟨hk1, hk2⟩ := List.getElem?_eq_some_iff.1 hk
    obtain ⟨hi1, hi2⟩ := List.getElem?_eq_some_iff.1 hi
    rcases Nat.lt_or_gt_of_ne e with hlt | hlt
    · have := h1 k i hk1 hi1 hlt
      rw [hk2, hi2] at this
      exact this
    · have := h1 i k hi1 hk1 hlt
      rw [hk2, hi2] at this
      exact fun e => this e.symm
theorem ux (w : World) (g i : Nat) (v : Value) : w.grownBy (w.setCell ⟨g, i, none⟩ v) (some g) :=
  ⟨rfl, rfl, rfl, by simp, fun k hk hne => Below.heap_setCell w ⟨g, i, none⟩ v k (fun e => hne (by rw [e]))⟩
theorem St.set (h : St w0 w L R O) (k : Nat) {g : Nat} {vs : List Value} (hk : L[k]? = some (g, vs)) (i : Nat) (hi : i < vs.length) (v : Value) (hv : vx v = true) : St w0 (w.setCell ⟨g, i, none⟩ v) (L.set k (g, vs.set i v)) R O := by
  have hm := List.mem_of_getElem? hk
  have ho := h.own _ hm
  refine ⟨h.bel.setCell (p := ⟨g, i, none⟩) ho.1 v, fun p hp => ?_, yj h.dis hk, fun r hr => ho.2.rd (h.rds r hr) i v hi, fun o hO => (h.rows o hO).kept (ux w g i v) (fun a ha e => h.sepL o hO _ hm a ha (by simpa using e)), h.sepO, fun o hO p hp => ?_, h.sepR⟩
  · rcases yp h.dis hk hp with rfl | ⟨hp, hne⟩
    · exact ⟨ho.1, ho.2.set i v hi (kz hv)⟩
    · exact ⟨(h.own p hp).1, (h.own p hp).2.far hne i v⟩
  · rcases yp h.dis hk hp with rfl | ⟨hp, hne⟩
    · exact (show Off o.1 g from h.sepL o hO _ hm)
    · exact h.sepL o hO p hp
def over : List Value → Nat → List Value → List Value
  | vs, _, [] => vs
  | vs, o, c :: cs => over (vs.set o c) (o + 1) cs
theorem St.sets {g : Nat} : ∀ (cs : List Value) (w : World) (L : List (Nat × List Value)) (vs : List Value) (o : Nat), St w0 w L R O → ∀ k, L[k]? = some (g, vs) → o + cs.length ≤ vs.length → cs.all vx = true → St w0 (w.setCells g o cs) (L.set k (g, over vs o cs)) R O
  | [], w, L, vs, o, h, k, hk, _, _ => by
    have : L.set k (g, over vs o []) = L := by
      apply List.ext_getElem?
      intro i
      by_cases hi : k = i
      · subst hi
        rw [List.getElem?_set_self (List.getElem?_eq_some_iff.1 hk).1, hk]
        rfl
      · rw [List.getElem?_set_ne hi]
    rw [this]
    exact h
  | c :: cs, w, L, vs, o, h, k, hk, hl, hc => by
    simp only [List.all_cons, Bool.and_eq_true] at hc
    simp only [List.length_cons] at hl
    have h1 := h.set k hk o (by omega) c hc.1
    have hk1 : (L.set k (g, vs.set o c))[k]? = some (g, vs.set o c) := List.getElem?_set_self (List.getElem?_eq_some_iff.1 hk).1
    have h2 := St.sets cs _ _ (vs.set o c) (o + 1) h1 k hk1 (by rw [List.length_set]; omega) hc.2
    rw [List.set_set] at h2
    exact h2
theorem Blk.grown {g : Nat} {vs : List Value} (h : Blk w g vs) {row : Option Nat} (hg : w.grownBy w' row) (hne : some g ≠ row) : Blk w' g vs := by
  have e := hg.block g h.lt hne
  exact ⟨Nat.lt_of_lt_of_le h.lt hg.size, fun i v hv => (World.cell?_of_block (w := w) (a := ⟨g, i, none⟩) e).trans (h.cell i v hv), fun i => (World.frozen?_of_block (w := w) (a := ⟨g, i, none⟩) e).trans (h.froz i), h.no⟩
theorem yk {k : Nat} {o u p : Option Addr × Nat × List Nat} (h : O.Pairwise (fun p q => Apart p.1 q.1)) (hk : O[k]? = some o) (hp : p ∈ O.set k u) : p = u ∨ (p ∈ O ∧ Apart o.1 p.1) := by
  obtain ⟨i, hi⟩ := List.mem_iff_getElem?.1 hp
  by_cases e : k = i
  · subst e
    rw [List.getElem?_set_self (List.getElem?_eq_some_iff.1 hk).1] at hi
    exact .inl (Option.some.inj hi).symm
  · rw [List.getElem?_set_ne e] at hi
    refine .inr ⟨List.mem_of_getElem? hi, ?_⟩
    have h1 := List.pairwise_iff_getElem.1 h
    obtain ⟨hk1, hk2⟩ := List.getElem?_eq_some_iff.1 hk
    obtain ⟨hi1, hi2⟩ := List.getElem?_eq_some_iff.1 hi
    rcases Nat.lt_or_gt_of_ne e with hlt | hlt
    · have := h1 k i hk1 hi1 hlt
      rw [hk2, hi2] at this
      exact this
    · have := h1 i k hi1 hk1 hlt
      rw [hk2, hi2] at this
      exact fun a b ha hb e => this b a hb ha e.symm
theorem St.turn (h : St w0 w L R O) (k : Nat) {ao : Option Addr} {c : Nat} {l : List Nat} (hk : O[k]? = some (ao, c, l)) {bo : Option Addr} {c' : Nat} {l' : List Nat} (hg : w.grownBy w' (Value.slice ao l.length c).ownBlock) (ho : Own w0.heap.size w' bo c' l') (hat : ∀ b, bo = some b → (∃ a, ao = some a ∧ a.block = b.block) ∨ b.block = w.heap.size) :
    St w0 w' L R (O.set k (bo, c', l')) := by
  have hm := List.mem_of_getElem? hk
  have hrow := h.rows _ hm
  have blk : ∀ a, ao = some a → (Value.slice ao l.length c).ownBlock = some a.block := fun a ha => by rw [ha]; rfl
  have far : ∀ g, Off ao g → some g ≠ (Value.slice ao l.length c).ownBlock := fun g hg e => by
    cases hao : ao with
    | none => rw [hao] at e; simp [Value.ownBlock] at e
    | some a => rw [blk a hao] at e; exact hg a hao (by simpa using e.symm)
  -- what lies off the old row and is there lies off the new one
  have off : ∀ g, Off ao g → g < w.heap.size → Off bo g := fun g hg hlt b hb e => by
    rcases hat b hb with ⟨a, ha, e1⟩ | e1
    · exact hg a ha (e1.trans e)
    · omega
  refine ⟨h.bel.grown hg h.bel.size (fun j hj => ?_), fun p hp => ⟨(h.own p hp).1, (h.own p hp).2.grown hg (far _ (h.sepL _ hm p hp))⟩, h.dis, fun r hr => ?_, fun o hO => ?_, ?_, fun o hO p hp => ?_, fun o hO r hr hne => ?_⟩
  · cases hao : ao with
    | none => rw [hao] at hj; simp [Value.ownBlock] at hj
    | some a => rw [blk a hao] at hj; cases hj; exact (hrow.lt a hao).1
  · by_cases hne : r.2 = []
    · rw [hne]; exact Rd.nil _ _
    · exact (h.rds r hr).grown hg (fun a ha => far _ (fun x hx e => h.sepR _ hm r hr hne x a hx ha e))
  · rcases yk h.sepO hk hO with rfl | ⟨hO, hap⟩
    · exact ho
    · exact (h.rows o hO).kept hg (fun a ha => far _ (fun x hx e => hap x a hx ha e))
  · have key : ∀ o ∈ O, Apart ao o.1 → Apart bo o.1 := fun o hO hap b x hb hx e => off x.block (fun y hy ey => hap y x hy hx ey) ((h.rows o hO).lt x hx).2 b hb e
    rw [List.pairwise_iff_getElem]
    intro i j hi hj hij
    have hi' : i < O.length := by simpa using hi
    have hj' : j < O.length := by simpa using hj
    have h1 := List.pairwise_iff_getElem.1 h.sepO
    obtain ⟨hk1, hk2⟩ := List.getElem?_eq_some_iff.1 hk
    rw [List.getElem_set, List.getElem_set]
    by_cases e1 : k = i
    · subst e1
      rw [if_pos rfl, if_neg (by omega)]
      have := h1 k j hi' hj' hij
      rw [hk2] at this
      exact key _ (List.getElem_mem hj') this
    · rw [if_neg e1]
      by_cases e2 : k = j
      · subst e2
        rw [if_pos rfl]
        have := h1 i k hi' hj' hij
        rw [hk2] at this
        exact fun x b hx hb e => key _ (List.getElem_mem hi') (fun p q hp hq e => this q p hq hp e.symm) b x hb hx e.symm
      · rw [if_neg e2]
        exact h1 i j hi' hj' hij
  · rcases yk h.sepO hk hO with rfl | ⟨hO, _⟩
    · exact off _ (h.sepL _ hm p hp) (h.lt p hp)
    · exact h.sepL o hO p hp
  · rcases yk h.sepO hk hO with rfl | ⟨hO, _⟩
    · intro b x hb hx e
      obtain ⟨bb, of_, e1, hlt, _⟩ := (h.rds r hr).pos hne
      rw [e1] at hx
      cases hx
      exact off bb (fun y hy ey => h.sepR _ hm r hr hne y ⟨bb, of_, none⟩ hy e1 ey) hlt b hb e
    · exact h.sepR o hO r hr hne
structure IsS (P : Program) (t : TypeId) (n : Nat) : Prop where
  und : ∃ fs, P.underlying t = some (.struct fs)
  size : (P.info? t).map (·.size) = some n
theorem xw {P : Program} {t : TypeId} {n : Nat} (h : (P.info? t).map (·.size) = some n) : ∃ i, P.info? t = some i ∧ i.size = n := by
  cases hi : P.info? t with
  | none => rw [hi] at h; cases h
  | some i => rw [hi] at h; exact ⟨i, rfl, by simpa using h⟩
structure Is1 (P : Program) (t : TypeId) : Prop where
  und : ∃ d, P.underlying t = some d ∧ (match d with | .struct _ | .array _ _ => false | _ => true) = true
  size : (P.info? t).map (·.size) = some 1
def FieldAt (P : Program) (s : TypeId) (f off : Nat) : Prop := ∃ fs fld, P.underlying s = some (.struct fs) ∧ fs[f]? = some fld ∧ fld.offset = off ∧ (P.info? fld.type).map (fun i => Nat.beq i.size 0) = some false

variable {P : Program}
theorem xt (g o j : Nat) : (⟨g, o, none⟩ : Addr).add j = ⟨g, o + j, none⟩ := by unfold Addr.add; split <;> simp_all
theorem vb {t : TypeId} {n : Nat} (ht : IsS P t n) {g o : Nat} (cs : List Value) (hl : cs.length = n) (hc : ∀ j v, cs[j]? = some v → w.cell? ⟨g, o + j, none⟩ = some v) : (loadVar t ⟨g, o, none⟩).run P w = .ok (.agg cs.toArray) w := by
  obtain ⟨fs, hu⟩ := ht.und
  obtain ⟨i, hi, hn⟩ := xw ht.size
  have h1 : (isAgg t).run P w = .ok true w := by simp [isAgg, run_underlying hu]
  have h2 : (sizeOf t).run P w = .ok cs.length w := by simp [sizeOf, typeInfo, hi, hn, hl]
  have h3 := run_loadCells_list (P := P) w ⟨g, o, none⟩ cs (fun j v hj => by rw [xt]; exact hc j v hj)
  simp only [loadVar, Sem.run_bind, h1, Result.andThen_ok, if_true, h2, h3, Sem.run_pure]
theorem xy {t : TypeId} (ht : Is1 P t) {a : Addr} {v : Value} (hc : w.cell? a = some v) : (loadVar t a).run P w = .ok v w := by
  obtain ⟨d, hu, hd⟩ := ht.und
  have h1 : (isAgg t).run P w = .ok false w := by
    cases d <;> first | (simp at hd; done) | simp [isAgg, run_underlying hu]
  simp only [loadVar, Sem.run_bind, h1, Result.andThen_ok, if_false, Bool.false_eq_true]
  simp [hc]

variable {l : List (Nat × Value)} {dst : Option Tmp} {ty : TypeId} {pos : String} {after : Array Edge} {guard : Option (Nat × Bool)} {v : Value}
theorem jf {x : Operand} (hx : ev l x = some v) : Does P l ⟨dst, .move x, ty, pos, after, guard⟩ w v w := fun ρ h => by
  simp only [execOp, h x v hx]; rfl
theorem zd {x : Operand} (hx : ev l x = some v) : Does P l ⟨dst, .assign x, ty, pos, after, guard⟩ w v w := fun ρ h => by
  simp only [execOp, h x v hx]; rfl
theorem kd {c x y : Operand} {b : Bool} {u u' : Value} (hc : ev l c = some (.bool b)) (hx : ev l x = some u) (hy : ev l y = some u') (hv : v = cond b u u') : Does P l ⟨dst, .pick c x y, ty, pos, after, guard⟩ w v w := fun ρ h => by
  subst hv
  simp only [execOp, h c _ hc, h x _ hx, h y _ hy]
  cases b <;> rfl
theorem qp {x : Operand} {vs : List Value} {i : Nat} (hx : ev l x = some (.tuple vs.toArray)) (hi : vs[i]? = some v) : Does P l ⟨dst, .extract x i, ty, pos, after, guard⟩ w v w := fun ρ h => by
  simp only [execOp, h x _ hx, Instr.extract, List.getElem?_toArray, hi]; rfl
theorem xu {t : TypeId} {x : Operand} {a : Addr} (hx : ev l x = some (.pointer (some a))) (hr : (loadVar t a).run P w = .ok v w) : Does P l ⟨dst, .load t x, ty, pos, after, guard⟩ w v w := fun ρ h => by
  simp only [execOp, h x _ hx, Instr.loadAt, Instr.sureAddr, Sem.run_bind, Sem.run_pure, Result.andThen_ok, hr]
theorem qn (hS : St w0 w L R O) {t : TypeId} {n : Nat} (ht : IsS P t n) {x : Operand} {g o : Nat} (hx : ev l x = some (.pointer (some ⟨g, o, none⟩))) (k : Nat) {vs cs : List Value} (hk : L[k]? = some (g, vs)) (hcs : (vs.drop o).take n = cs) (hl : cs.length = n) :
    Does P l ⟨dst, .load t x, ty, pos, after, guard⟩ w (.agg cs.toArray) w :=
  xu hx (vb ht cs hl (fun j v hj => hS.cell k hk (o + j) (by
    have hjn : j < n := by rw [← hl]; exact (List.getElem?_eq_some_iff.1 hj).1
    rw [← hcs, List.getElem?_take, if_pos hjn, List.getElem?_drop] at hj
    exact hj)))
theorem jl (hS : St w0 w L R O) {t : TypeId} (ht : Is1 P t) {x : Operand} {g o : Nat} (hx : ev l x = some (.pointer (some ⟨g, o, none⟩))) (k : Nat) {vs : List Value} (hk : L[k]? = some (g, vs)) (hv : vs[o]? = some v) :
    Does P l ⟨dst, .load t x, ty, pos, after, guard⟩ w v w := xu hx (xy ht (hS.cell k hk o hv))
theorem Rd.addr {so : Option Addr} {l : List Nat} {i : Nat} (h : Rd w so l) (hi : i < l.length) : ∃ b off, so = some ⟨b, off, none⟩ := by
  obtain ⟨b, off, h1, _⟩ := h.pos (fun e => by rw [e] at hi; simp at hi)
  exact ⟨b, off, h1⟩
theorem Rd.at_ {so : Option Addr} {l : List Nat} {i b off : Nat} (h : Rd w so l) (hso : so = some ⟨b, off, none⟩) (hi : i < l.length) : w.cell? ⟨b, off + i, none⟩ = some (.int .u32 ((l.getD i 0 : Nat) : Int)) := by
  obtain ⟨b', off', h1, _, h3⟩ := h.pos (fun e => by rw [e] at hi; simp at hi)
  rw [hso] at h1
  cases h1
  exact h3 i hi
theorem qcj {so : Option Addr} {us : List Nat} {i b off : Nat} (h : Rd w so us) (hso : so = some ⟨b, off, none⟩) (hi : i < us.length) {t : TypeId} (ht : Is1 P t) {x : Operand} (hx : ev l x = some (.pointer (some ⟨b, off + i, none⟩))) :
    Does P l ⟨dst, .load t x, ty, pos, after, guard⟩ w (.int .u32 ((us.getD i 0 : Nat) : Int)) w := xu hx (xy ht (h.at_ hso hi))
theorem qj {s : TypeId} {x : Operand} {f g o off o' : Nat} (hf : FieldAt P s f off) (hx : ev l x = some (.pointer (some ⟨g, o, none⟩))) (ho : o + off = o') : Does P l ⟨dst, .fieldAddr s x f, ty, pos, after, guard⟩ w (.pointer (some ⟨g, o', none⟩)) w := fun ρ h => by
  obtain ⟨fs, fld, hu, hff, hoff, hm⟩ := hf
  obtain ⟨i, hi, hz⟩ : ∃ i, P.info? fld.type = some i ∧ i.size ≠ 0 := by
    cases hi : P.info? fld.type with
    | none => rw [hi] at hm; cases hm
    | some i =>
      rw [hi] at hm
      refine ⟨i, rfl, fun e => ?_⟩
      simp [e] at hm
  subst ho
  have h2 : (sizeOf fld.type).run P w = .ok i.size w := by simp [sizeOf, typeInfo, hi]
  simp only [execOp, h x _ hx, Instr.fieldAt, Sem.run_bind, run_underlying hu, Result.andThen_ok, hff, Instr.sureAddr, Sem.run_pure, fieldPlace, h2, if_neg hz, xt, hoff]
theorem qae {t : TypeId} {x : Operand} {u : Value} (hx : ev l x = some u) {vs : List Value} (hc : u.cells = vs.toArray) : Does P l ⟨dst, .box t x, ty, pos, after, guard⟩ w (.pointer (some ⟨w.heap.size, 0, none⟩)) (w.alloc (.cells vs.toArray t)) := fun ρ h => by
  simp only [execOp, h x _ hx, ← hc]; rfl
theorem yw {t : TypeId} {z : Value} (hz : (P.info? t).map (·.zero) = some (some z)) {vs : List Value} (hc : z.cells = vs.toArray) : Does P l ⟨dst, .alloc t, ty, pos, after, guard⟩ w (.pointer (some ⟨w.heap.size, 0, none⟩)) (w.alloc (.cells vs.toArray t)) := fun ρ h => by
  cases hi : P.info? t with
  | none => rw [hi] at hz; cases hz
  | some i =>
    rw [hi] at hz
    simp only [Option.map_some, Option.some.injEq] at hz
    have h1 : (zeroValue t).run P w = .ok z w := by simp [zeroValue, typeInfo, hi, hz]
    simp only [execOp, Instr.alloc, Sem.run_bind, h1, Result.andThen_ok, ← hc]
    rfl
theorem jm {t : TypeId} {parts : List (Nat × Operand)} {pv : List (Nat × Value)} (hp : evp l parts = some pv) (hb : ∀ w, (Instr.build t pv.toArray).run P w = .ok v w) : Does P l ⟨dst, .build t parts.toArray, ty, pos, after, guard⟩ w v w := fun ρ h => by
  have e : parts.toArray.map (fun p => (p.1, ρ p.2)) = pv.toArray := by
    simp only [List.map_toArray]
    congr 1
    have : ∀ (xs : List (Nat × Operand)) (vs : List (Nat × Value)), evp l xs = some vs → xs.map (fun p => (p.1, ρ p.2)) = vs := by
      intro xs
      induction xs with
      | nil => intro vs hx; simp [evp] at hx; simp [hx]
      | cons x xs ih =>
        intro vs hx
        obtain ⟨i, x⟩ := x
        unfold evp at hx
        split at hx
        · rename_i v us h1 h2
          cases hx
          simp [h _ _ h1, ih _ h2]
        · cases hx
    exact this parts pv hp
  have e' : (parts.toArray.map fun (i, x) => (i, ρ x)) = pv.toArray := e
  simp only [execOp, e', Sem.run_bind, hb w, Result.andThen_ok, Sem.run_pure]
theorem km {t : TypeId} {n : Nat} {parts : List (Nat × Operand)} {pv : List (Nat × Value)} (hp : evp l parts = some pv) {w' : World} (hb : (Instr.buildSlice t n pv.toArray).run P w = .ok v w') : Does P l ⟨dst, .buildSlice t n parts.toArray, ty, pos, after, guard⟩ w v w' := fun ρ h => by
  have e : parts.toArray.map (fun p => (p.1, ρ p.2)) = pv.toArray := by
    simp only [List.map_toArray]
    congr 1
    have : ∀ (xs : List (Nat × Operand)) (vs : List (Nat × Value)), evp l xs = some vs → xs.map (fun p => (p.1, ρ p.2)) = vs := by
      intro xs
      induction xs with
      | nil => intro vs hx; simp [evp] at hx; simp [hx]
      | cons x xs ih =>
        intro vs hx
        obtain ⟨i, x⟩ := x
        unfold evp at hx
        split at hx
        · rename_i v us h1 h2
          cases hx
          simp [h _ _ h1, ih _ h2]
        · cases hx
    exact this parts pv hp
  have e' : (parts.toArray.map fun (i, x) => (i, ρ x)) = pv.toArray := e
  simp only [execOp, e', Sem.run_bind, hb, Result.andThen_ok, Sem.run_pure]
theorem qaf {x : Operand} {t e : TypeId} {so : Option Addr} {n c : Nat} (hu : P.underlying t = some (.slice e)) (hx : ev l x = some (.slice so n c)) : Does P l ⟨dst, .call ⟨.builtin .len, #[x], #[t]⟩, ty, pos, after, guard⟩ w (.int .i64 n) w := fun ρ h => by
  have := h x _ hx
  simp [go_sem, this, Builtin.len_, run_underlying hu, goInt]
theorem qb {b : BinOp} {t t' : TypeId} {x y : Operand} {u u' : Value} (hx : ev l x = some u) (hy : ev l y = some u') (hr : ∀ w, (do eqGuard b t x y u u'; binOp b t u u' : Sem Value).run P w = .ok v w) : Does P l ⟨dst, .binOp b t x y t', ty, pos, after, guard⟩ w v w := fun ρ h => by
  simp only [execOp, h x _ hx, h y _ hy]
  rw [Sem.run_bind, hr w]
  rfl
theorem zn {b : UnOp} {t : TypeId} {x : Operand} {u : Value} (hx : ev l x = some u) (hr : ∀ w, (Op.unary b u).run P w = .ok v w) : Does P l ⟨dst, .unOp b t x, ty, pos, after, guard⟩ w v w := fun ρ h => by
  simp only [execOp, h x _ hx, Sem.run_bind, hr w, Result.andThen_ok, Sem.run_pure]
theorem qh {t : TypeId} {x y : Operand} {g o : Nat} {u : Value} {cs : List Value} (hx : ev l x = some (.pointer (some ⟨g, o, none⟩))) (hy : ev l y = some u) (hc : u.cells = cs.toArray) (hn : (P.info? t).map (·.size) = some cs.length)
    (hS : St w0 w L R O) (k : Nat) {vs : List Value} (hk : L[k]? = some (g, vs)) (hl : Nat.ble (o + cs.length) vs.length = true) (h1 : cs.all Value.oneCell' = true) : Sets P l ⟨dst, .store t x y, ty, pos, after, guard⟩ w (w.setCells g o cs) := fun ρ h => by
  obtain ⟨i, hi, hsz⟩ := xw hn
  have hl' : o + cs.length ≤ vs.length := Nat.le_of_ble_eq_true hl
  have hb := (hS.own _ (List.mem_of_getElem? hk)).2
  have h2 : (sizeOf t).run P w = .ok cs.length w := by simp [sizeOf, typeInfo, hi, hsz]
  have h3 := run_storeCells_cells (P := P) g o cs 0 w (fun j hj => by
      have hlt : o + 0 + j < vs.length := by omega
      rw [hb.cell (o + 0 + j) vs[o + 0 + j] (List.getElem?_eq_getElem hlt)]; rfl) (fun j hj => hb.froz _) (fun v hv => List.all_eq_true.1 h1 v hv)
  rw [Nat.add_zero] at h3
  have h4 : u.cells.toList = cs := by rw [hc]
  simp only [execOp, h x _ hx, h y _ hy, Instr.storeAt, Instr.sureAddr, Sem.run_bind, Sem.run_pure, Result.andThen_ok, storeVar, h2, hc, List.size_toArray, ne_eq, not_true_eq_false, if_false, List.toList_toArray, h3]
theorem vl {x : Operand} {f : FuncId} {args : List Operand} {ts : Array TypeId} {vs : List Value} (hx : ev l x = some (.func (.func f) #[] #[])) (ha : evs l args = some vs) (hf : ∀ w, (invoke (.fn (.func f) #[]) vs.toArray).run P w = .ok (.enter f vs.toArray) w) :
    Enters P l ⟨dst, .call ⟨.value x, args.toArray, ts⟩, ty, pos, after, guard⟩ w f vs := fun ρ h => by
  have e : args.map ρ = vs := by
    have : ∀ (xs : List Operand) (vs : List Value), evs l xs = some vs → xs.map ρ = vs := by
      intro xs
      induction xs with
      | nil => intro vs hx; simp [evs] at hx; simp [hx]
      | cons x xs ih =>
        intro vs hx
        unfold evs at hx
        split at hx
        · rename_i v us h1 h2
          cases hx
          simp [h _ _ h1, ih _ h2]
        · cases hx
    exact this args vs ha
  have := hf w
  simp [execOp, resolve, h x _ hx, Deferred.ofValue, e, this]

section
variable {ops : List Oper} {Q : Exit → Act → World → Prop} {a : Act} {n : Nat} {o : Oper} {rest : List Oper} {d : Nat}
theorem qja (hA : Sl a n l) (hS : St w0 w L R O) (hg : xp l ops o = true) (hdst : o.dst = some d) (hd : Nat.blt d n = true) {vs : List Value} {t : TypeId} (val : Nat → Value) (he : Does P l o w (val w.heap.size) (w.alloc (.cells vs.toArray t))) (hno : vs.all vx = true)
    (hk : ∀ g w', St w0 w' ((g, vs) :: L) R O → ∀ a', Sl a' n ((d, val g) :: l) → wpList P ops.toArray Q rest a' w') : wpList P ops.toArray Q (o :: rest) a w :=
  vh hA hg hdst hd he (hk _ _ (hS.new vs t hno))
theorem qi (hA : Sl a n l) (hS : St w0 w L R O) (hg : xp l ops o = true) (hdst : o.dst = none) {g q : Nat} {cs vs us : List Value} (he : Sets P l o w (w.setCells g q cs)) (k : Nat) (hk0 : L[k]? = some (g, vs)) (hl : Nat.ble (q + cs.length) vs.length = true) (hno : cs.all vx = true) (hus : over vs q cs = us)
    (hk : ∀ w', St w0 w' (L.set k (g, us)) R O → wpList P ops.toArray Q rest a w') : wpList P ops.toArray Q (o :: rest) a w :=
  yd hA hg hdst he (hk _ (by subst hus; exact St.sets cs w L vs q hS k hk0 (Nat.le_of_ble_eq_true hl) hno))
variable {S : World → Prop} {md : Region.Mode} {fuel : Nat} {listed : Array Bool}
theorem xf (hA : Sl a n l) (hS : St w0 w L R O) (i : Nat) (hi : ops[i]? = some o) (hg : xp l ops o = true) (hdst : o.dst = none) {g q : Nat} {cs vs us : List Value} (he : Sets P l o w (w.setCells g q cs)) (k : Nat) (hk0 : L[k]? = some (g, vs)) (hl : Nat.ble (q + cs.length) vs.length = true) (hno : cs.all vx = true) (hus : over vs q cs = us)
    (hk : ∀ w', St w0 w' (L.set k (g, us)) R O → S w' ∧ wpAnyH P md ops.toArray Q S fuel (listed.setIfInBounds i true) a w') : wpOp P ops.toArray Q i (fun a' w' => S w' ∧ wpAnyH P md ops.toArray Q S fuel (listed.setIfInBounds i true) a' w') a w := by
  have h := hk _ (by subst hus; exact St.sets cs w L vs q hS k hk0 (Nat.le_of_ble_eq_true hl) hno)
  exact qfa hA i hi hg hdst he h.1 h.2
theorem zj {id : Nat} (hm : P.follows .mixedOrders = true) (h : wpAnyH P .any ops.toArray Q S ops.length (Array.replicate ops.length false) a w.drew) : (Code.region id ops.toArray true).wp P Q a w :=
  wp_region_held (S := S) hm (by simpa using h)
end
def xr (P : Program) (l : List (Nat × Value)) (w : World) : ResultVar → Value → Prop
  | .tmp t, v => xq l t = some v
  | .cell c t, v => ∃ p, xq l c = some (.pointer (some p)) ∧ (loadVar t p).run P w = .ok v w
def AllRes (P : Program) (l : List (Nat × Value)) (w : World) : List ResultVar → List Value → Prop
  | [], [] => True
  | r :: rs, v :: vs => xr P l w r v ∧ AllRes P l w rs vs
  | _, _ => False
theorem AllRes.nil : AllRes P l w [] [] := trivial
theorem AllRes.cons {r : ResultVar} {v : Value} {rs : List ResultVar} {vs : List Value} (h : xr P l w r v) (t : AllRes P l w rs vs) : AllRes P l w (r :: rs) (v :: vs) := ⟨h, t⟩
section
variable {a : Act} {n : Nat} {fn : Func} {Z : Ending → World → Prop}
theorem qf {t : Tmp} (h : xq l t = some v) : xr P l w (.tmp t) v := h
theorem qt (hS : St w0 w L R O) {c : Tmp} {t : TypeId} {m : Nat} (ht : IsS P t m) {g o : Nat} (hx : xq l c = some (.pointer (some ⟨g, o, none⟩))) (k : Nat) {vs cs : List Value} (hk : L[k]? = some (g, vs)) (hcs : (vs.drop o).take m = cs) (hl : cs.length = m) : xr P l w (.cell c t) (.agg cs.toArray) :=
  ⟨_, hx, vb ht cs hl (fun j v hj => hS.cell k hk (o + j) (by
    have hjn : j < m := by rw [← hl]; exact (List.getElem?_eq_some_iff.1 hj).1
    rw [← hcs, List.getElem?_take, if_pos hjn, List.getElem?_drop] at hj
    exact hj))⟩
def xv (tmps : Array Value) : ResultVar → Sem Value
  | .tmp t => pure (tmps.getD t undef)
  | .cell c t => do loadVar t (← asAddr (tmps.getD c undef))
def vj : List Value → Value
  | [x] => x
  | xs => .tuple xs.toArray
theorem Sl.res (hA : Sl a n l) {r : ResultVar} (h : xr P l w r v) : (xv a.tmps r).run P w = .ok v w := by
  cases r with
  | tmp t =>
    have := hA.holds t v h
    simp [xv, Array.getD_eq_getD_getElem?, this]
  | cell c t =>
    obtain ⟨p, hp, hr⟩ := h
    have := hA.holds c _ hp
    simp [xv, Array.getD_eq_getD_getElem?, this, asAddr, hr]
theorem xx (hA : Sl a n l) : ∀ (rs : List ResultVar) (vs : List Value), AllRes P l w rs vs → Sem.run P (rs.mapM (xv a.tmps)) w = .ok vs w
  | [], [], _ => by simp
  | [], _ :: _, h => h.elim
  | _ :: _, [], h => h.elim
  | r :: rs, v :: vs, h => by
    have e1 := hA.res h.1
    have e2 := xx hA rs vs h.2
    simp only [List.mapM_cons, Sem.run_bind, e1, Result.andThen_ok, e2, Sem.run_pure]
theorem xn (hA : Sl a n l) {rs : List ResultVar} (hrs : fn.results = rs.toArray) {vs : List Value} (hvs : AllRes P l w rs vs) (hv : vj vs = v) (hz : Z (.returned v) w) : bodyPost P fn Z .ret a w := by
  refine ⟨hA.none_, v, ?_, hz⟩
  have e := xx hA rs vs hvs
  subst hv
  have e' : results fn a.tmps = (do let us ← fn.results.mapM (xv a.tmps); pure (if h : us.size = 1 then us[0] else .tuple us)) := by
    unfold results
    congr 1
  have e2 : Sem.run P (List.toArray <$> rs.mapM (xv a.tmps)) w = .ok vs.toArray w := by
    show Sem.run P (rs.mapM (xv a.tmps) >>= fun us => pure us.toArray) w = _
    rw [Sem.run_bind, e]
    rfl
  rw [e', hrs, List.mapM_toArray, Sem.run_bind, e2, Result.andThen_ok]
  match vs with
  | [] => simp [vj]
  | [x] => simp [vj]
  | x :: y :: r => simp [vj]
end
theorem qr {f : FuncId} {fn : Func} {c : Code} {args : List Value} {n : Nat} {Z : Ending → World → Prop} (hf : P.funcs[f]? = some fn) (hb : fn.body = some c) (hn : fn.ntmps = n) (hl : Nat.ble args.length n = true) (hs : (args.zipIdx.map fun p => (p.2, p.1)) = l)
    (h : ∀ Q : Exit → Act → World → Prop, (∀ a w, bodyPost P fn Z .ret a w → Q .ret a w) → (∀ a w, bodyPost P fn Z .ret a w → Q .normal a w) → (∀ c a d v w, Q (.panic c) (Act.put a d v) w → Q (.panic c) a w) → ∀ a, Sl a n l → c.wp P Q a w) : Calls P f args.toArray w Z := by
  subst hs
  refine calls_of_wp hf hb (h _ (fun _ _ h => h) (fun _ _ h => h) (fun c a d v w h => ?_) _ ?_)
  · cases d <;> exact h
  · rw [hn]
    exact Sl.enter (Nat.le_of_ble_eq_true hl)
section
variable {Q : Exit → Act → World → Prop} {a : Act} {c : Code}
theorem qha {m : Nat} (h : ∀ K : Act → World → Prop, (∀ a w, Code.rounds P c Q m a w → K a w) → c.wp P (Exit.then K Q) a w) : Code.rounds P c Q (m + 1) a w := h _ (fun _ _ h => h)
theorem xz : ∀ n m, n ≤ m → ∀ a w, Code.rounds P c Q n a w → Code.rounds P c Q m a w
  | 0, _, _, _, _, h => h.elim
  | n + 1, 0, hl, _, _, _ => by omega
  | n + 1, m + 1, hl, a, w, h => Code.wp_mono (fun e a w q => by
      cases e <;> first | exact xz n m (by omega) _ _ q | exact q) h
theorem zm (I : Nat → Act → World → Prop) (N : Nat) (h0 : I N a w) (round : ∀ m a w, I m a w → ∀ K : Act → World → Prop, (∀ m' a' w', m' < m → I m' a' w' → K a' w') → c.wp P (Exit.then K Q) a w) : (Code.loop c).wp P Q a w := by
  have key : ∀ m a w, I m a w → Code.rounds P c Q (m + 1) a w := by
    intro m
    induction m using Nat.strongRecOn with
    | _ m ih =>
      intro a w h
      exact round m a w h _ (fun m' a' w' hm h' => xz (m' + 1) m (by omega) _ _ (ih m' hm a' w' h'))
  exact wp_loop_rounds (N + 1) (key N a w h0)
end
theorem vd {t : TypeId} {x i : Operand} {u u' : Value} (hx : ev l x = some u) (hi : ev l i = some u') (hr : ∀ w, (Instr.indexAt t u u').run P w = .ok v w) : Does P l ⟨dst, .indexAddr t x i, ty, pos, after, guard⟩ w v w := fun ρ h => by
  simp only [execOp, h x _ hx, h i _ hi, Sem.run_bind, hr w, Result.andThen_ok, Sem.run_pure]
theorem vw {t e : TypeId} (hu : P.underlying t = some (.slice e)) (he : (P.info? e).map (·.size) = some 1) {g o n c k : Nat} (hk : k < n) : ∀ w, (Instr.indexAt t (.slice (some ⟨g, o, none⟩) n c) (.int .i64 (k : Nat))).run P w = .ok (.pointer (some ⟨g, o + k, none⟩)) w := fun w => by
  obtain ⟨i, hi, hs⟩ := xw he
  have h2 : (sizeOf e).run P w = .ok 1 w := by simp [sizeOf, typeInfo, hi, hs]
  have h3 : (0 : Int) ≤ (k : Nat) ∧ ((k : Nat) : Int) < (n : Nat) := ⟨by omega, by omega⟩
  simp [Instr.indexAt, asIntOf, run_underlying hu, h2, h3, xt]
  intro h
  omega
theorem kw {t e : TypeId} (hu : P.underlying t = some (.slice e)) (he : (P.info? e).map (·.size) = some 1) {x i : Operand} {so : Option Addr} {b off n c k : Nat} {z : Int} (hx : ev l x = some (.slice so n c)) (hi : ev l i = some (.int .i64 z)) (hz : z = (k : Nat)) (hso : so = some ⟨b, off, none⟩) (hk : k < n) :
    Does P l ⟨dst, .indexAddr t x i, ty, pos, after, guard⟩ w (.pointer (some ⟨b, off + k, none⟩)) w := by
  subst hso hz
  exact vd hx hi (vw hu he hk)
theorem jh {s d : TypeId} {x : Operand} {u : Value} (hx : ev l x = some u) (hr : ∀ w, (convert s d u).run P w = .ok v w) : Does P l ⟨dst, .convert s d x, ty, pos, after, guard⟩ w v w := fun ρ h => by
  simp only [execOp, h x _ hx, Sem.run_bind, hr w, Result.andThen_ok, Sem.run_pure]
theorem ye {b : Builtin} {xs : List Operand} {ts : Array TypeId} {vs : List Value} (hx : evs l xs = some vs) (hr : ∀ w cs, (builtin b ts ty cs vs.toArray).run P w = .ok (.value v) w) : Does P l ⟨dst, .call ⟨.builtin b, xs.toArray, ts⟩, ty, pos, after, guard⟩ w v w := fun ρ h => by
  have e : xs.map ρ = vs := by
    have : ∀ (xs : List Operand) (vs : List Value), evs l xs = some vs → xs.map ρ = vs := by
      intro xs
      induction xs with
      | nil => intro vs hx; simp [evs] at hx; simp [hx]
      | cons x xs ih =>
        intro vs hx
        unfold evs at hx
        split at hx
        · rename_i v us h1 h2
          cases hx
          simp [h _ _ h1, ih _ h2]
        · cases hx
    exact this xs vs hx
  rw [BigFrame.execOp_builtin]
  simp only [List.map_toArray, e, hr]

section
variable {t : TypeId} {x y : Operand} {k : IntKind} {a b : Int}
theorem qw : ∀ w, (do eqGuard .lss t x y (.int k a) (.int k b); binOp .lss t (.int k a) (.int k b) : Sem Value).run P w = .ok (.bool (decide (a < b))) w := fun w => by simp [go_sem]
theorem ql : ∀ w, (do eqGuard .leq t x y (.int k a) (.int k b); binOp .leq t (.int k a) (.int k b) : Sem Value).run P w = .ok (.bool (decide (a ≤ b))) w := fun w => by simp [go_sem]
theorem qx : ∀ w, (do eqGuard .gtr t x y (.int k a) (.int k b); binOp .gtr t (.int k a) (.int k b) : Sem Value).run P w = .ok (.bool (decide (b < a))) w := fun w => by simp [go_sem]
theorem qk : ∀ w, (do eqGuard .geq t x y (.int k a) (.int k b); binOp .geq t (.int k a) (.int k b) : Sem Value).run P w = .ok (.bool (decide (b ≤ a))) w := fun w => by simp [go_sem]
theorem zf : ∀ w, (do eqGuard .eql t x y (.int k a) (.int k b); binOp .eql t (.int k a) (.int k b) : Sem Value).run P w = .ok (.bool (a == b)) w := fun w => by simp [go_sem]
theorem za : ∀ w, (do eqGuard .neq t x y (.int k a) (.int k b); binOp .neq t (.int k a) (.int k b) : Sem Value).run P w = .ok (.bool (a != b)) w := fun w => by simp [go_sem]
theorem qlc {a : Int} (h0 : -9223372036854775808 ≤ a) (h1 : a ≤ 9223372036854775807) : IntKind.i64.wrap a = a := IntWalk.i64_in a ⟨h0, h1⟩
theorem qjb (h : k.wrap (a + b) = a + b) : ∀ w, (do eqGuard .add t x y (.int k a) (.int k b); binOp .add t (.int k a) (.int k b) : Sem Value).run P w = .ok (.int k (a + b)) w := fun w => by simp [go_sem, h]
theorem qjc (h : k.wrap (a - b) = a - b) : ∀ w, (do eqGuard .sub t x y (.int k a) (.int k b); binOp .sub t (.int k a) (.int k b) : Sem Value).run P w = .ok (.int k (a - b)) w := fun w => by simp [go_sem, h]
theorem qkh (h : k.wrap (-a) = -a) : ∀ w, (Op.unary .neg (.int k a)).run P w = .ok (.int k (-a)) w := fun w => by simp [go_sem, h]
theorem qhb (hu : P.underlying t = some .bool) {c d : Bool} : ∀ w, (do eqGuard .eql t x y (.bool c) (.bool d); binOp .eql t (.bool c) (.bool d) : Sem Value).run P w = .ok (.bool (c == d)) w := fun w => by
  simp [go_sem, hu, run_underlying hu]
theorem zs {c : Bool} : ∀ w, (Op.unary .not (.bool c)).run P w = .ok (.bool (!c)) w := fun w => by simp [go_sem]
end
end
section
variable {P : Program} {ops : List Oper} {Q : Exit → Act → World → Prop} {a : Act} {w w' : World} {n : Nat} {l : List (Nat × Value)} {o : Oper} {v : Value} {rest : List Oper} {d : Nat}
theorem sdo (hA : Sl a n l) (he : Does P l o w v w') (hk : ∀ a', Sl a' n ((d, v) :: l) → wpList P ops.toArray Q rest a' w') (hg : xp l ops o = true := by rfl) (hdst : o.dst = some d := by rfl) (hd : Nat.blt d n = true := by rfl) : wpList P ops.toArray Q (o :: rest) a w := vh hA hg hdst hd he hk
theorem sdm {x : Operand} {ty : TypeId} {pos : String} {after : Array Edge} {guard : Option (Nat × Bool)} (hA : Sl a n l) (hk : ∀ a', Sl a' n ((d, v) :: l) → wpList P ops.toArray Q rest a' w) (hx : ev l x = some v := by rfl) (hg : xp l ops ⟨some d, .move x, ty, pos, after, guard⟩ = true := by rfl) (hd : Nat.blt d n = true := by rfl) : wpList P ops.toArray Q (⟨some d, .move x, ty, pos, after, guard⟩ :: rest) a w := sdo hA (jf hx) hk hg rfl hd
theorem sda {x : Operand} {ty : TypeId} {pos : String} {after : Array Edge} {guard : Option (Nat × Bool)} (hA : Sl a n l) (hk : ∀ a', Sl a' n ((d, v) :: l) → wpList P ops.toArray Q rest a' w) (hx : ev l x = some v := by rfl) (hg : xp l ops ⟨some d, .assign x, ty, pos, after, guard⟩ = true := by rfl) (hd : Nat.blt d n = true := by rfl) : wpList P ops.toArray Q (⟨some d, .assign x, ty, pos, after, guard⟩ :: rest) a w := sdo hA (zd hx) hk hg rfl hd
theorem sdk {c x y : Operand} {b : Bool} {u u' : Value} {ty : TypeId} {pos : String} {after : Array Edge} {guard : Option (Nat × Bool)} (hA : Sl a n l) (hk : ∀ a', Sl a' n ((d, v) :: l) → wpList P ops.toArray Q rest a' w) (hc : ev l c = some (.bool b) := by rfl) (hx : ev l x = some u := by rfl) (hy : ev l y = some u' := by rfl) (hv : v = cond b u u' := by rfl) (hg : xp l ops ⟨some d, .pick c x y, ty, pos, after, guard⟩ = true := by rfl) (hd : Nat.blt d n = true := by rfl) : wpList P ops.toArray Q (⟨some d, .pick c x y, ty, pos, after, guard⟩ :: rest) a w := sdo hA (kd hc hx hy hv) hk hg rfl hd
abbrev pg (g : Nat) : Value := .pointer (some ⟨g, 0, none⟩)
theorem wsk {x y : Code} (h : ∀ K : Act → World → Prop, (∀ a w, y.wp P Q a w → K a w) → x.wp P (Exit.then K Q) a w) : (Code.seq x y).wp P Q a w := wp_seq_k h
theorem wrl {id : Nat} {l : List Oper} (h : wpList P l.toArray Q l a w) : (Code.region id l.toArray false).wp P Q a w := wp_region_lit h
theorem tf (b : Bool) : b = true ∨ b = false := Bool.eq_false_or_eq_true b
theorem ef {x : Operand} {f : FuncId} {args : List Operand} {ts : Array TypeId} {vs : List Value} {dst : Option Tmp} {ty : TypeId} {pos : String} {after : Array Edge} {guard : Option (Nat × Bool)} (hx : ev l x = some (.func (.func f) #[] #[])) (ha : evs l args = some vs) (hf : ∀ w, (invoke (.fn (.func f) #[]) vs.toArray).run P w = .ok (.enter f vs.toArray) w := by exact fun w => by kernel_rfl) : Enters P l ⟨dst, .call ⟨.value x, args.toArray, ts⟩, ty, pos, after, guard⟩ w f vs := vl hx ha hf
theorem sct {f : FuncId} {vs : List Value} (hA : Sl a n l) (he : Enters P l o w f vs) {R : Ending → World → Prop} (hc : Calls P f vs.toArray w R) (hk : ∀ e w', R e w' → ∃ v, e = .returned v ∧ ∀ a', Sl a' n ((d, v) :: l) → wpList P ops.toArray Q rest a' w') (hg : xp l ops o = true := by rfl) (hdst : o.dst = some d := by rfl) (hd : Nat.blt d n = true := by rfl) : wpList P ops.toArray Q (o :: rest) a w := vy hA hg hdst hd he hc hk
theorem sdc {b : BinOp} {t t' ty : TypeId} {x y : Operand} {u u' : Value} {c e : Bool} {pos : String} {after : Array Edge} {guard : Option (Nat × Bool)} (hA : Sl a n l) (hr : ∀ w, (do eqGuard b t x y u u'; binOp b t u u' : Sem Value).run P w = .ok (.bool c) w) (h : c = e) (hk : ∀ a', Sl a' n ((d, .bool e) :: l) → wpList P ops.toArray Q rest a' w) (hx : ev l x = some u := by rfl) (hy : ev l y = some u' := by rfl) (hg : xp l ops ⟨some d, .binOp b t x y t', ty, pos, after, guard⟩ = true := by rfl) (hd : Nat.blt d n = true := by rfl) : wpList P ops.toArray Q (⟨some d, .binOp b t x y t', ty, pos, after, guard⟩ :: rest) a w := sdo hA (qb hx hy (h ▸ hr)) hk hg rfl hd
variable {fn : Func} {Z : Ending → World → Prop} {r1 r2 r3 : ResultVar} {v1 v2 v3 : Value}
theorem en1 (hA : Sl a n l) (hrs : fn.results = #[r1]) (h1 : xr P l w r1 v1) (hz : Z (.returned v1) w) : bodyPost P fn Z .ret a w := xn hA (rs := [r1]) hrs (.cons h1 .nil) rfl hz
theorem en2 (hA : Sl a n l) (hrs : fn.results = #[r1, r2]) (h1 : xr P l w r1 v1) (h2 : xr P l w r2 v2) (hz : Z (.returned (.tuple #[v1, v2])) w) : bodyPost P fn Z .ret a w := xn hA (rs := [r1, r2]) hrs (.cons h1 (.cons h2 .nil)) rfl hz
theorem en3 (hA : Sl a n l) (hrs : fn.results = #[r1, r2, r3]) (h1 : xr P l w r1 v1) (h2 : xr P l w r2 v2) (h3 : xr P l w r3 v3) (hz : Z (.returned (.tuple #[v1, v2, v3])) w) : bodyPost P fn Z .ret a w := xn hA (rs := [r1, r2, r3]) hrs (.cons h1 (.cons h2 (.cons h3 .nil))) rfl hz
end
section
variable {P : Program} {ops : List Oper} {Q : Exit → Act → World → Prop} {a : Act} {w w' : World} {n : Nat} {l : List (Nat × Value)} {o : Oper} {v : Value} {d : Nat} {S : World → Prop} {md : Region.Mode} {fuel : Nat} {listed : Array Bool}
theorem ct {c : Operand} {x y : Code} (hA : Sl a n l) (h : x.wp P Q a w) (hx : ev l c = some (.bool true) := by rfl) : (Code.cond c x y).wp P Q a w := wp_cond_true (hA.ev hx) h
theorem cf {c : Operand} {x y : Code} (hA : Sl a n l) (h : y.wp P Q a w) (hx : ev l c = some (.bool false) := by rfl) : (Code.cond c x y).wp P Q a w := wp_cond_false (hA.ev hx) h
theorem atk (hA : Sl a n l) (i : Nat) (hi : ops[i]? = some o) (hP : ∀ c a d v w, Q (.panic c) (Act.put a d v) w → Q (.panic c) a w) (hS : S w) (he : ∀ w, S w → Does P l o w v w) (hk : ∀ a', Sl a' n ((d, v) :: l) → wpAnyH P md ops.toArray Q S fuel (listed.setIfInBounds i true) a' w) (hg : xp l ops o = true := by rfl) (hdst : o.dst = some d := by rfl) (hd : Nat.blt d n = true := by rfl) (hs : Region.noSelect ops.toArray = true := by kernel_rfl) (hf : Region.free md ops.toArray listed i = true := by kernel_rfl) (hr : (Region.ready md ops.toArray listed).contains i = true := by kernel_rfl) : wpAnyH P md ops.toArray Q S (fuel + 1) listed a w := kr hA i hi hg hdst hd hP hS he hk hs hf hr
theorem amv {x : Operand} {ty : TypeId} {pos : String} {after : Array Edge} {guard : Option (Nat × Bool)} (hA : Sl a n l) (i : Nat) (hi : ops[i]? = some ⟨some d, .move x, ty, pos, after, guard⟩) (hP : ∀ c a d v w, Q (.panic c) (Act.put a d v) w → Q (.panic c) a w) (hS : S w) (hk : ∀ a', Sl a' n ((d, v) :: l) → wpAnyH P md ops.toArray Q S fuel (listed.setIfInBounds i true) a' w) (hx : ev l x = some v := by rfl) (hg : xp l ops ⟨some d, .move x, ty, pos, after, guard⟩ = true := by rfl) (hd : Nat.blt d n = true := by rfl) (hs : Region.noSelect ops.toArray = true := by kernel_rfl) (hf : Region.free md ops.toArray listed i = true := by kernel_rfl) (hr : (Region.ready md ops.toArray listed).contains i = true := by kernel_rfl) : wpAnyH P md ops.toArray Q S (fuel + 1) listed a w := kr hA i hi hg rfl hd hP hS (fun w _ => jf hx) hk hs hf hr
theorem dbK {b : BinOp} {t t' ty : TypeId} {x y : Operand} {u u' : Value} {dst : Option Tmp} {pos : String} {after : Array Edge} {guard : Option (Nat × Bool)} (hx : ev l x = some u := by rfl) (hy : ev l y = some u' := by rfl) (hr : ∀ w, (do eqGuard b t x y u u'; binOp b t u u' : Sem Value).run P w = .ok v w := by exact fun w => by kernel_rfl) : Does P l ⟨dst, .binOp b t x y t', ty, pos, after, guard⟩ w v w := qb hx hy hr
variable {fn : Func} {Z : Ending → World → Prop} {r1 : ResultVar} {v1 : Value} {t : Tmp}
theorem wr1 (hret : ∀ a w, bodyPost P fn Z .ret a w → Q .ret a w) (hA : Sl a n l) (hz : Z (.returned v1) w) (hrs : fn.results = #[.tmp t] := by rfl) (h1 : xq l t = some v1 := by rfl) : Code.ret.wp P Q a w := wp_ret (hret _ _ (xn hA (rs := [.tmp t]) hrs (.cons (qf h1) .nil) rfl hz))
end
set_option maxRecDepth 1000000 in
theorem qfc {w : World} {b1 b2 : Bool} {o1 o2 o3 o4 : Option Addr} {m1 m2 m3 m4 c1 c2 c3 c4 : Nat} (h : m3 ≤ 9223372036854775807) :
    Calls Tryz.prog 77 #[.agg #[.bool b1, .slice o1 m1 c1, .slice o2 m2 c2, .bool b2, .slice o3 m3 c3, .slice o4 m4 c4]] w fun e w' => e = .returned (.bool (decide (m3 = 0))) ∧ Below w.heap.size w w' := by
  have HAL : Hid (∀ o, Below w.heap.size w (w.alloc o)) := fun o => (Below.refl _ _).alloc (Nat.le_refl _) o
  by_cases hm : m3 = 0
  · subst hm
    go_enter Tryz.func77, Tryz.ntmps77
    go_wp2
    go_ret
    exact ⟨rfl, HAL.out _⟩
  · have e : decide (m3 = 0) = false := decide_eq_false hm
    rw [e]
    have hm1 : ((m3 : Int) == 0) = false := by simp; omega
    clear e
    go_enter Tryz.func77, Tryz.ntmps77
    go_wp2
    go_ret
    exact ⟨rfl, HAL.out _⟩

end Go.Proofs.YtclkfideaameoaaGreatDoor
namespace Go.Proofs.YtclkfideaameoaaGreatDoor.G
open Go.RowKit
set_option maxRecDepth 100000
theorem ze {W : World} {n nm : String} {d : DataW Unit} {g t : Nat} {ms : Array (String × TypeId)} (hg : Tryz.prog.globalNamed n = some g) (ht : (Tryz.prog.globals[g]?).map (·.type) = some t) (hi : Tryz.prog.underlying t = some (.interface ms)) (h : Lib.VarReads Tryz.prog W n (.iface nm d)) :
  ∃ ev : Value, W.cell? ⟨g, 0, none⟩ = some ev ∧ (ev = .nilIface ∨ ∃ te pe, ev = .iface te pe) := by
 obtain ⟨g', t', cs, fuel, p, h1, h2, h3, h4⟩ := h
 obtain rfl : g' = g := Option.some.inj (h1.symm.trans hg)
 obtain rfl : t' = t := Option.some.inj (h2.symm.trans ht)
 obtain ⟨_, u, v, hc, _⟩ := iface_of_trod hi h4
 refine ⟨.iface u v, ?_, .inr ⟨u, v, rfl⟩⟩
 rw [World.var?_cell h1 h3 0, ← Array.getElem?_toList, hc]
 rfl
theorem ju {W : World} (h : World.ShapedOpen Tryz.prog W) : ∃ m : Int, W.cell? ⟨Tryz.lays145_ren.g 1, 0, none⟩ = some (iV m) := by
 obtain ⟨ha, _⟩ := h
 obtain ⟨cs, h1, h2, h3⟩ := ha 2 #[iV 0] 3 (of_decide_eq_true (by kernel_rfl)) (by kernel_rfl)
 obtain ⟨ts, e1, _, e2⟩ := h3 (by kernel_rfl)
 have ets : ts = [3] := Option.some.inj (e1.symm.trans (by kernel_rfl))
 subst ets
 have h0 : 0 < cs.size := by rw [h2]; exact Nat.one_pos
 obtain ⟨u, hu, ho⟩ := e2 0 cs[0] (Array.getElem?_eq_getElem h0)
 obtain rfl : 3 = u := Option.some.inj hu
 have hc : W.cell? ⟨2, 0, none⟩ = some cs[0] := by
  simp only [World.cell?, h1]
  exact Array.getElem?_eq_getElem h0
 unfold Cell.ok at ho
 rw [Tryz.underlying3] at ho
 generalize cs[0] = v at hc ho
 cases v with
 | int k n =>
  obtain ⟨e, _⟩ := ho
  cases e
  exact ⟨n, hc⟩
 | _ => exact absurd ho id
theorem xg {W : World} (hT : Tb W) (hR : Lib.VarReads Tryz.prog W "strconv.ErrRange" Rows.laid_strconv_ErrRange) (S : Lib.VarReads Tryz.prog W "strconv.ErrSyntax" Rows.laid_strconv_ErrSyntax) (hO : World.ShapedOpen Tryz.prog W) : Env W :=
 ⟨hT, ⟨ze (by kernel_rfl) (by kernel_rfl) Tryz.underlying85 S, ze (by kernel_rfl) (by kernel_rfl) Tryz.underlying85 hR⟩, ju hO⟩
theorem jq {W : World} {s : ByteArray} (hE : Env W) (hs : s.size ≤ 140737488351232) : Calls Tryz.prog 4 #[.string s] W fun e w' => e = .returned (bV true) ∧ Below W.heap.size W w' := by
 have h := steps_any (L := s.data.toList) hE (by rw [Array.length_toList]; exact Nat.le_trans hs (by decide))
 have e : tx s.data.toList = s := xm s
 rwa [e] at h
end Go.Proofs.YtclkfideaameoaaGreatDoor.G
namespace Go.Proofs.YtclkfideaameoaaGreatDoor.G
open Go.RowKit
set_option maxRecDepth 100000
theorem RdA_is1_3 : Is1 Tryz.prog 3 := ⟨⟨_, Tryz.underlying3, rfl⟩, by kernel_rfl⟩
theorem RdA_is1_9 : Is1 Tryz.prog 9 := ⟨⟨_, Tryz.underlying9, rfl⟩, by kernel_rfl⟩
theorem RdA_fld_50_0 : FieldAt Tryz.prog 50 0 0 := ⟨_, _, Tryz.underlying50, rfl, rfl, by kernel_rfl⟩
theorem RdA_fld_50_1 : FieldAt Tryz.prog 50 1 1 := ⟨_, _, Tryz.underlying50, rfl, rfl, by kernel_rfl⟩
def flt : List PanicEntry := [{ v := .iface 47 (.agg #[]), recovered := false }]
theorem ja {P : Program} {w : World} {l : List (Nat × Value)} {dst : Option Tmp} {ty t : TypeId} {pos : String} {after : Array Edge} {guard : Option (Nat × Bool)} {x : Operand} {v : Value} (ht : P.concrete t = true) (hx : ev l x = some v) : Does P l ⟨dst, .makeInterface t x, ty, pos, after, guard⟩ w (.iface t v) w := fun ρ h => by
 simp [execOp, h x _ hx, run_makeInterface w t v ht]
theorem jn {w : World} : Calls Tryz.prog 23 #[bV true] w fun e w' => e = .returned (.tuple #[]) ∧ Below w.heap.size w w' := by
 have M : Mg w w ([]) := Mg.start w
 refine qr (l := [(0, bV true)]) Tryz.func23 rfl Tryz.ntmps23 rfl rfl ?_
 intro Q hret hnorm hP a A
 refine wsk fun K1 hK1 => wrl (sdm A λa A↦?_)
 refine sdo (v := bV false) A (zn rfl zs) λa A↦?_
 refine qa (hK1 _ _ (cf A ?_))
 refine wp_skip (hnorm _ _ (xn (v := .tuple #[]) A rfl .nil rfl ?_))
 exact ⟨rfl, M.bel⟩
theorem zx {w : World} : Calls Tryz.prog 23 #[bV false] w fun e w' => e = .panicked flt ∧ Below w.heap.size w w' := by
 have M : Mg w w ([]) := Mg.start w
 refine zy (l := [(0, bV false)]) Tryz.func23 rfl Tryz.ntmps23 rfl rfl ?_
 intro Q hret hnorm hP hX a A
 refine wsk fun K1 hK1 => wrl (sdm A λa A↦?_)
 refine sdo (v := bV true) A (zn rfl zs) λa A↦?_
 refine qa (hK1 _ _ (ct A ?_))
 refine wrl (sdo (v := .agg #[]) A (jm rfl (fun w => by kernel_rfl)) λa A↦?_)
 refine sdo (v := .iface 47 (.agg #[])) A (ja (by kernel_rfl) rfl) λa A↦?_
 refine jp (v := .iface 47 (.agg #[])) A rfl (fun ρ h => by simp only [execOp, h (.tmp 5) _ rfl]; rfl) ?_
 exact hX _ _ _ _ _ A ⟨rfl, M.bel⟩
theorem qz {w0 w : World} {g p : Nat} {lg : Bool} {L : List UInt8} {T : List Ck} (hp : p ≤ L.length) (hM0 : Mg w0 w (.obj g (rC L p lg) :: T)) : Calls Tryz.prog 21 #[pA g 0] w fun e w' => e = .returned (.string (tx (L.drop p))) ∧ Mg w0 w' (.obj g (rC L p lg) :: T) := by
 have M : Mg w0 w (.obj g (rC L p lg) :: T) := hM0
 refine qr (l := [(0, pA g 0)]) Tryz.func21 rfl Tryz.ntmps21 rfl rfl ?_
 intro Q hret hnorm hP a A
 refine wsk fun K1 hK1 => wrl (sda A λa A↦?_)
 refine qa (hK1 _ _ (wsk fun K2 hK2 => zj (S := fun w1 => Mg w0 w1 (.obj g (rC L p lg) :: [])) (by kernel_rfl) ?_))
 replace M := M.drew
 refine amv A 0 rfl hP (M.sub (cc ns)) λa A↦?_
 refine atk A 1 rfl hP (M.sub (cc ns)) (λ_ M↦zg rfl) λa A↦?_
 refine atk (v := pA g 0) A 2 rfl hP (M.sub (cc ns)) (λ_ M↦qj RdA_fld_50_0 rfl rfl) λa A↦?_
 refine atk A 3 rfl hP (M.sub (cc ns)) (λ_ M↦zu M RdA_is1_9 rfl 0 rfl rfl) λa A↦?_
 refine amv A 4 rfl hP (M.sub (cc ns)) λa A↦?_
 refine atk A 5 rfl hP (M.sub (cc ns)) (λ_ M↦zg rfl) λa A↦?_
 refine atk (v := pA g 1) A 6 rfl hP (M.sub (cc ns)) (λ_ M↦qj RdA_fld_50_1 rfl rfl) λa A↦?_
 refine atk A 7 rfl hP (M.sub (cc ns)) (λ_ M↦zu M RdA_is1_3 rfl 0 rfl rfl) λa A↦?_
 refine atk (v := .string ((tx (L.drop p)))) A 8 rfl hP (M.sub (cc ns)) (λ_ M↦qs (s := L) (p := p) Tryz.underlying9 rfl rfl rfl (by omega)) λa A↦?_
 refine atk A 9 rfl hP (M.sub (cc ns)) (λ_ M↦zd rfl) λa A↦?_
 refine qy (by kernel_rfl) ?_
 refine hK2 _ _ (wr1 hret A ?_)
 exact ⟨rfl, M⟩
end Go.Proofs.YtclkfideaameoaaGreatDoor.G
∧ Mg w0 w' (.obj g (rC L p lg) :: T) := by
 have M : Mg w0 w (.obj g (rC L p lg) :: T) := hM0
 refine qr (l := [(0, pA g 0), (1, .string ((tx t)))]) Tryz.func32 rfl Tryz.ntmps32 rfl rfl ?_
 intro Q hret hnorm hP a A
 refine wsk fun K1 hK1 => wrl (sda A λa A↦?_)
 refine qa (hK1 _ _ (wsk fun K2 hK2 => wsk fun K3 hK3 => wrl (sdm A λa A↦?_)))
 refine sct A (ef rfl rfl) (qz (p := p) (L := L) (T := (T)) (by omega) M) ?_
 rintro _ w5 ⟨rfl, hM4⟩
 replace M : Mg w0 w5 (.obj g (rC L p lg) :: T) := hM4
 refine ⟨_, rfl, ?_⟩
 intro a A
 refine sdm A λa A↦?_
 refine gcl A M (ef rfl rfl) ((hp_as hh)) fun w7 hb6 M a A => ?_
 refine sdo (v := bV true) A (zn rfl zs) λa A↦?_
 refine qa (hK3 _ _ (ct A ?_))
 refine wsk fun K8 hK8 => wrl (sda A λa A↦?_)
 refine qa (hK8 _ _ (wr1 hret A ?_))
 exact ⟨rfl, M⟩
theorem xd {w0 w : World} {g p : Nat} {lg : Bool} {L : List UInt8} {T : List Ck} (hT : Tb w0) (hp : p ≤ L.length) (hl : L.length ≤ 1000000000) (hne : L.drop p ≠ []) (hM0 : Mg w0 w (.obj g (rC L p lg) :: T)) : Calls Tryz.prog 53 #[pA g 0] w fun e w' => e = .returned (.int .i32 (((dcX (L.drop p)).1 : Nat) : Int)) ∧ Mg w0 w' (.obj g (rC L (p + (dcX (L.drop p)).2) lg) :: T) := by
 obtain ⟨hw1, hw2⟩ := dcX_wide hne
 rw [List.length_drop] at hw2
 have M : Mg w0 w (.obj g (rC L p lg) :: T) := hM0
 refine qr (l := [(0, pA g 0)]) Tryz.func53 rfl Tryz.ntmps53 rfl rfl ?_
 intro Q hret hnorm hP a A
 refine wsk fun K1 hK1 => wrl (sda A λa A↦?_)
 refine qa (hK1 _ _ (wsk fun K2 hK2 => wrl (sdm A λa A↦?_)))
 refine sct A (ef rfl rfl) (qz (p := p) (L := L) (T := (T)) (by omega) M) ?_
 rintro _ w4 ⟨rfl, hM3⟩
 replace M : Mg w0 w4 (.obj g (rC L p lg) :: T) := hM3
 refine ⟨_, rfl, ?_⟩
 intro a A
 refine gcl A M (ef rfl rfl) (dc_any (l := L.drop p) (hT.below M.bel)) fun w6 hb5 M a A => ?_
 refine sdm A λa A↦?_
 iterate 2 refine sdo A (qp (vs := [.int .i32 ((((dcX (L.drop p)).1 : Nat) : Int)), iV ((((dcX (L.drop p)).2 : Nat) : Int))]) rfl rfl) λa A↦?_
 iterate 2 refine sda A λa A↦?_
 refine qa (hK2 _ _ (wsk fun K7 hK7 => wrl (sdm A λa A↦?_)))
 refine sdo (v := bV true) A (qb rfl rfl (fun w => (qx w).trans (by rw [show (decide (0 < (((dcX (L.drop p)).2 : Nat) : Int))) = true from (decide_eq_true (by omega))]))) λa A↦?_
 refine gcl A M (ef rfl rfl) (jn) fun w9 hb8 M a A => ?_
 refine qa (hK7 _ _ (wsk fun K10 hK10 => wrl (sdm A λa A↦?_)))
 refine sdo A (zg rfl) λa A↦?_
 refine sdo (v := pA g 1) A (qj RdB_fld_50_1 rfl rfl) λa A↦?_
 refine sdo A (zu M RdB_is1_3 rfl 0 rfl rfl) λa A↦?_
 refine sdm A λa A↦?_
 refine sdo (v := iV (((p + (dcX (L.drop p)).2 : Nat) : Int))) A (qb rfl rfl (ar_add ((in_i64 (by omega) (by omega)).trans (by omega)))) λa A↦?_
 refine sdo A (zg rfl) λa A↦?_
 refine sdo (v := pA g 1) A (qj RdB_fld_50_1 rfl rfl) λa A↦?_
 refine xb (L' := (.obj g (rC L (p + (dcX (L.drop p)).2) lg) :: T)) A M rfl rfl (xa rfl rfl rfl (by kernel_rfl) M 0 rfl rfl rfl) 0 rfl rfl rfl ?_
 intro w11 M
 refine qa (hK10 _ _ (wsk fun K12 hK12 => wrl (sdm A λa A↦?_)))
 refine sda A λa A↦?_
 refine qa (hK12 _ _ (wr1 hret A ?_))
 exact ⟨rfl, M⟩
theorem jv {w0 w : World} {g p : Nat} {lg : Bool} {L : List UInt8} {T : List Ck} (hT : Tb w0) (hp : p ≤ L.length) (hl : L.length ≤ 1000000000) (hne : L.drop p = []) (hM0 : Mg w0 w (.obj g (rC L p lg) :: T)) : Calls Tryz.prog 53 #[pA g 0] w fun e w' => e = .panicked flt ∧ Mg w0 w' (.obj g (rC L p lg) :: T) := by
 have hw1 : (dcX (L.drop p)).2 = 0 := by rw [hne]; rfl
 have M : Mg w0 w (.obj g (rC L p lg) :: T) := hM0
 refine zy (l := [(0, pA g 0)]) Tryz.func53 rfl Tryz.ntmps53 rfl rfl ?_
 intro Q hret hnorm hP hX a A
 refine wsk fun K1 hK1 => wrl (sda A λa A↦?_)
 refine qa (hK1 _ _ (wsk fun K2 hK2 => wrl (sdm A λa A↦?_)))
 refine sct A (ef rfl rfl) (qz (p := p) (L := L) (T := (T)) (by omega) M) ?_
 rintro _ w4 ⟨rfl, hM3⟩
 replace M : Mg w0 w4 (.obj g (rC L p lg) :: T) := hM3
 refine ⟨_, rfl, ?_⟩
 intro a A
 refine gcl A M (ef rfl rfl) (dc_any (l := L.drop p) (hT.below M.bel)) fun w6 hb5 M a A => ?_
 refine sdm A λa A↦?_
 iterate 2 refine sdo A (qp (vs := [.int .i32 ((((dcX (L.drop p)).1 : Nat) : Int)), iV ((((dcX (L.drop p)).2 : Nat) : Int))]) rfl rfl) λa A↦?_
 iterate 2 refine sda A λa A↦?_
 refine qa (hK2 _ _ (wsk fun K7 hK7 => wrl (sdm A λa A↦?_)))
 refine sdo (v := bV false) A (qb rfl rfl (fun w => (qx w).trans (by rw [show (decide (0 < (((dcX (L.drop p)).2 : Nat) : Int))) = false from (decide_eq_false (by omega))]))) λa A↦?_
 refine zr A rfl rfl rfl (ef rfl rfl) (zx) ?_
 rintro _ w9 ⟨rfl, hp10⟩
 exact .inl ⟨_, rfl, hX _ _ _ _ _ A (⟨rfl, M.call hp10⟩)⟩
end Go.Proofs.YtclkfideaameoaaGreatDoor.G
true) A λa A↦?_
     refine sda A λa A↦?_
     refine qa (hK2 _ _ (wr1 hret A ?_))
     exact ⟨by unfold isHx; rw [hb3, hb4, hb5, hb6]; rfl, M.bel⟩
    ·
     have hb6' := of_decide_eq_false hb6
     refine sdc A ql hb6 λa A↦?_
     iterate 2 refine sdk (v := bV false) A λa A↦?_
     iterate 2 refine sdm A λa A↦?_
     rcases tf (decide (65 ≤ ((b.toNat : Nat) : Int))) with hb7 | hb7
     ·
      have hb7' := of_decide_eq_true hb7
      refine sdc A qk hb7 λa A↦?_
      iterate 2 refine sdm A λa A↦?_
      rcases tf (decide (((b.toNat : Nat) : Int) ≤ 70)) with hb8 | hb8
      ·
       have hb8' := of_decide_eq_true hb8
       refine sdc A ql hb8 λa A↦?_
       iterate 2 refine sdk (v := bV true) A λa A↦?_
       refine sda A λa A↦?_
       refine qa (hK2 _ _ (wr1 hret A ?_))
       exact ⟨by unfold isHx; rw [hb3, hb4, hb5, hb6, hb7, hb8]; rfl, M.bel⟩
      ·
       have hb8' := of_decide_eq_false hb8
       refine sdc A ql hb8 λa A↦?_
       iterate 2 refine sdk (v := bV false) A λa A↦?_
       refine sda A λa A↦?_
       refine qa (hK2 _ _ (wr1 hret A ?_))
       exact ⟨by unfold isHx; rw [hb3, hb4, hb5, hb6, hb7, hb8]; rfl, M.bel⟩
     ·
      have hb7' := of_decide_eq_false hb7
      refine sdc A qk hb7 λa A↦?_
      refine sdm A λa A↦?_
      iterate 2 refine qg A rfl rfl rfl λa A↦?_
      iterate 2 refine sdk (v := bV false) A λa A↦?_
      refine sda A λa A↦?_
      refine qa (hK2 _ _ (wr1 hret A ?_))
      exact ⟨by unfold isHx; rw [hb3, hb4, hb5, hb6, hb7]; rfl, M.bel⟩
   ·
    have hb5' := of_decide_eq_false hb5
    refine sdc A qk hb5 λa A↦?_
    refine sdm A λa A↦?_
    iterate 2 refine qg A rfl rfl rfl λa A↦?_
    iterate 2 refine sdk (v := bV false) A λa A↦?_
    iterate 2 refine sdm A λa A↦?_
    rcases tf (decide (65 ≤ ((b.toNat : Nat) : Int))) with hb9 | hb9
    ·
     have hb9' := of_decide_eq_true hb9
     refine sdc A qk hb9 λa A↦?_
     iterate 2 refine sdm A λa A↦?_
     rcases tf (decide (((b.toNat : Nat) : Int) ≤ 70)) with hb10 | hb10
     ·
      have hb10' := of_decide_eq_true hb10
      refine sdc A ql hb10 λa A↦?_
      iterate 2 refine sdk (v := bV true) A λa A↦?_
      refine sda A λa A↦?_
      refine qa (hK2 _ _ (wr1 hret A ?_))
      exact ⟨by unfold isHx; rw [hb3, hb4, hb5, hb9, hb10]; rfl, M.bel⟩
     ·
      have hb10' := of_decide_eq_false hb10
      refine sdc A ql hb10 λa A↦?_
      iterate 2 refine sdk (v := bV false) A λa A↦?_
      refine sda A λa A↦?_
      refine qa (hK2 _ _ (wr1 hret A ?_))
      exact ⟨by unfold isHx; rw [hb3, hb4, hb5, hb9, hb10]; rfl, M.bel⟩
    ·
     have hb9' := of_decide_eq_false hb9
     refine sdc A qk hb9 λa A↦?_
     refine sdm A λa A↦?_
     iterate 2 refine qg A rfl rfl rfl λa A↦?_
     iterate 2 refine sdk (v := bV false) A λa A↦?_
     refine sda A λa A↦?_
     refine qa (hK2 _ _ (wr1 hret A ?_))
     exact ⟨by unfold isHx; rw [hb3, hb4, hb5, hb9]; rfl, M.bel⟩
 ·
  have hb3' := of_decide_eq_false hb3
  refine sdc A qk hb3 λa A↦?_
  refine sdm A λa A↦?_
  iterate 2 refine qg A rfl rfl rfl λa A↦?_
  refine sdk (v := bV false) A λa A↦?_
  iterate 2 refine sdm A λa A↦?_
  rcases tf (decide (97 ≤ ((b.toNat : Nat) : Int))) with hb11 | hb11
  ·
   have hb11' := of_decide_eq_true hb11
   refine sdc A qk hb11 λa A↦?_
   iterate 2 refine sdm A λa A↦?_
   rcases tf (decide (((b.toNat : Nat) : Int) ≤ 102)) with hb12 | hb12
   ·
    have hb12' := of_decide_eq_true hb12
    refine sdc A ql hb12 λa A↦?_
    iterate 2 refine sdk (v := bV true) A λa A↦?_
    refine sdm A λa A↦?_
    iterate 3 refine qg A rfl rfl rfl λa A↦?_
    iterate 2 refine jr A rfl rfl rfl λa A↦?_
    refine qg A rfl rfl rfl λa A↦?_
    refine sdk (v := bV true) A λa A↦?_
    refine sda A λa A↦?_
    refine qa (hK2 _ _ (wr1 hret A ?_))
    exact ⟨by unfold isHx; rw [hb3, hb11, hb12]; rfl, M.bel⟩
   ·
    have hb12' := of_decide_eq_false hb12
    refine sdc A ql hb12 λa A↦?_
    iterate 2 refine sdk (v := bV false) A λa A↦?_
    iterate 2 refine sdm A λa A↦?_
    rcases tf (decide (65 ≤ ((b.toNat : Nat) : Int))) with hb13 | hb13
    ·
     have hb13' := of_decide_eq_true hb13
     refine sdc A qk hb13 λa A↦?_
     iterate 2 refine sdm A λa A↦?_
     rcases tf (decide (((b.toNat : Nat) : Int) ≤ 70)) with hb14 | hb14
     ·
      have hb14' := of_decide_eq_true hb14
      refine sdc A ql hb14 λa A↦?_
      iterate 2 refine sdk (v := bV true) A λa A↦?_
      refine sda A λa A↦?_
      refine qa (hK2 _ _ (wr1 hret A ?_))
      exact ⟨by unfold isHx; rw [hb3, hb11, hb12, hb13, hb14]; rfl, M.bel⟩
     ·
      have hb14' := of_decide_eq_false hb14
      refine sdc A ql hb14 λa A↦?_
      iterate 2 refine sdk (v := bV false) A λa A↦?_
      refine sda A λa A↦?_
      refine qa (hK2 _ _ (wr1 hret A ?_))
      exact ⟨by unfold isHx; rw [hb3, hb11, hb12, hb13, hb14]; rfl, M.bel⟩
    ·
     have hb13' := of_decide_eq_false hb13
     refine sdc A qk hb13 λa A↦?_
     refine sdm A λa A↦?_
     iterate 2 refine qg A rfl rfl rfl λa A↦?_
     iterate 2 refine sdk (v := bV false) A λa A↦?_
     refine sda A λa A↦?_
     refine qa (hK2 _ _ (wr1 hret A ?_))
     exact ⟨by unfold isHx; rw [hb3, hb11, hb12, hb13]; rfl, M.bel⟩
  ·
   have hb11' := of_decide_eq_false hb11
   refine sdc A qk hb11 λa A↦?_
   refine sdm A λa A↦?_
   iterate 2 refine qg A rfl rfl rfl λa A↦?_
   iterate 2 refine sdk (v := bV false) A λa A↦?_
   iterate 2 refine sdm A λa A↦?_
   rcases tf (decide (65 ≤ ((b.toNat : Nat) : Int))) with hb15 | hb15
   ·
    have hb15' := of_decide_eq_true hb15
    refine sdc A qk hb15 λa A↦?_
    iterate 2 refine sdm A λa A↦?_
    rcases tf (decide (((b.toNat : Nat) : Int) ≤ 70)) with hb16 | hb16
    ·
     have hb16' := of_decide_eq_true hb16
     refine sdc A ql hb16 λa A↦?_
     iterate 2 refine sdk (v := bV true) A λa A↦?_
     refine sda A λa A↦?_
     refine qa (hK2 _ _ (wr1 hret A ?_))
     exact ⟨by unfold isHx; rw [hb3, hb11, hb15, hb16]; rfl, M.bel⟩
    ·
     have hb16' := of_decide_eq_false hb16
     refine sdc A ql hb16 λa A↦?_
     iterate 2 refine sdk (v := bV false) A λa A↦?_
     refine sda A λa A↦?_
     refine qa (hK2 _ _ (wr1 hret A ?_))
     exact ⟨by unfold isHx; rw [hb3, hb11, hb15, hb16]; rfl, M.bel⟩
   ·
    have hb15' := of_decide_eq_false hb15
    refine sdc A qk hb15 λa A↦?_
    refine sdm A λa A↦?_
    iterate 2 refine qg A rfl rfl rfl λa A↦?_
    iterate 2 refine sdk (v := bV false) A λa A↦?_
    refine sda A λa A↦?_
    refine qa (hK2 _ _ (wr1 hret A ?_))
    exact ⟨by unfold isHx; rw [hb3, hb11, hb15]; rfl, M.bel⟩
theorem jb {w : World} {b : UInt8} {c : Bool} (h : isHx b = c) : Calls Tryz.prog 116 #[.int .u8 ((b.toNat : Nat) : Int)] w fun e w' => e = .returned (bV c) ∧ Below w.heap.size w w' := h ▸ hex_any
theorem jc {w : World} {l : List UInt8} (hT : Tb w) (hl : l.length ≤ 1000000000) : Calls Tryz.prog 86 #[.string (tx l)] w fun e w' => e = .returned (iV ((tiedN l : Nat) : Int)) ∧ Below w.heap.size w w' := by
 have M : Mg w w ([]) := Mg.start w
 refine qr (l := [(0, .string ((tx l)))]) Tryz.func86 rfl Tryz.ntmps86 rfl rfl ?_
 intro Q hret hnorm hP a A
 refine wsk fun K1 hK1 => wrl (sda A λa A↦?_)
 refine qa (hK1 _ _ (wsk fun K2 hK2 => wrl (sdm A λa A↦?_)))
 refine sct A (ef rfl rfl) (dc_any (l := l) (hT.below M.bel)) ?_
 rintro _ w4 ⟨rfl, hb3⟩
 obtain ⟨q, hq⟩ : ∃ q, (dcX l).2 = q := ⟨_, rfl⟩
 have hql := dcX_le l
 rw [hq] at hql ⊢
 replace M := M.call hb3
 refine ⟨_, rfl, ?_⟩
 intro a A
 refine sdm A λa A↦?_
 iterate 2 refine sdo A (qp (vs := [.int .i32 ((((dcX l).1 : Nat) : Int)), iV (((q : Nat) : Int))]) rfl rfl) λa A↦?_
 iterate 2 refine sda A λa A↦?_
 refine qa (hK2 _ _ (wsk fun K5 hK5 => wrl (sda A λa A↦?_)))
 refine qa (hK5 _ _ (wsk fun K6 hK6 => wp_block (zm (fun m_ a w1 => ∃ (j : Nat), m_ = 1 + (l.length - (q + j)) ∧ (q + j ≤ l.length ∧ hxN (l.drop q) = j + hxN (l.drop (q + j))) ∧ Sl a 41 [(0, .string ((tx l))), (2, iV 0), (3, .int .i32 ((((dcX l).1 : Nat) : Int))), (4, iV (((q : Nat) : Int))), (5, iV (((j : Nat) : Int))), (6, .tuple #[.int .i32 ((((dcX l).1 : Nat) : Int)), iV (((q : Nat) : Int))]), (7, .string ((tx l))), (8, .tuple #[.int .i32 ((((dcX l).1 : Nat) : Int)), iV (((q : Nat) : Int))]), (9, .int .i32 ((((dcX l).1 : Nat) : Int))), (10, iV (((q : Nat) : Int)))] ∧ Mg w w1 ([])) _ ⟨0, rfl, ⟨by omega, by rw [Nat.zero_add, Nat.add_zero]⟩, A.keep _ (by repeat' constructor), M⟩ ?_)))
 clear M A
 rintro m_ a w7 ⟨j, rfl, hinv9, A, M⟩ K8 hK8
 obtain ⟨hj0, hj⟩ := hinv9
 refine wsk fun K10 hK10 => wsk fun K11 hK11 => wrl ?_
 iterate 2 refine sdm A λa A↦?_
 refine sdo (v := iV (((q + j : Nat) : Int))) A (qb rfl rfl (ar_add ((in_i64 (by omega) (by omega)).trans (by omega)))) λa A↦?_
 refine sdm A λa A↦?_
 refine sdo (v := iV (((l.length : Nat) : Int))) A (zh (s := l) Tryz.underlying9 rfl) λa A↦?_
 rcases tf (decide (((q + j : Nat) : Int) < ((l.length : Nat) : Int))) with hb12 | hb12
 ·
  have hb12' := of_decide_eq_true hb12
  refine sdc A qw hb12 λa A↦?_
  iterate 4 refine sdm A λa A↦?_
  refine sdo (v := iV (((q + j : Nat) : Int))) A (qb rfl rfl (ar_add ((in_i64 (by omega) (by omega)).trans (by omega)))) λa A↦?_
  obtain ⟨b13, hb14⟩ : ∃ b, l[q + j]? = some b := ⟨_, List.getElem?_eq_getElem (show q + j < l.length by omega)⟩
  refine sdo (v := .int .u8 (((b13.toNat : Nat) : Int))) A (zb (s := l) (i := q + j) Tryz.underlying9 rfl rfl rfl hb14) λa A↦?_
  rcases tf (isHx b13) with hb15 | hb15
  ·
   refine gcl A M (ef rfl rfl) ((jb hb15)) fun w17 hb16 M a A => ?_
   refine sdk (v := bV true) A λa A↦?_
   refine qa (hK11 _ _ (ct A ?_))
   refine wp_skip (hK10 _ _ (wp_block (wrl (sdm A λa A↦?_))))
   refine sdo (v := iV (((j + 1 : Nat) : Int))) A (qb rfl rfl (ar_add ((in_i64 (by omega) (by omega)).trans (by omega)))) λa A↦?_
   refine sda A λa A↦?_
   refine qa ?_
   refine hK8 _ _ _ (by omega) ⟨j + 1, rfl, ⟨by omega, by rw [hj, hxN_hit hb14 hb15, Nat.add_assoc]; omega⟩, A.keep _ (by repeat' constructor), M⟩
  ·
   refine gcl A M (ef rfl rfl) ((jb hb15)) fun w19 hb18 M a A => ?_
   refine sdk (v := bV false) A λa A↦?_
   refine qa (hK11 _ _ (cf A ?_))
   refine wp_exit (hK6 _ _ (wsk fun K20 hK20 => wrl ?_))
   iterate 2 refine sdm A λa A↦?_
   refine sdo (v := iV (((q + j : Nat) : Int))) A (qb rfl rfl (ar_add ((in_i64 (by omega) (by omega)).trans (by omega)))) λa A↦?_
   refine sda A λa A↦?_
   refine qa (hK20 _ _ (wsk fun K21 hK21 => wsk fun K22 hK22 => wrl (sdm A λa A↦?_)))
   rcases tf (decide (0 < ((j : Nat) : Int))) with hb23 | hb23
   ·
    have hb23' := of_decide_eq_true hb23
    refine sdc A qx hb23 λa A↦?_
    iterate 3 refine sdm A λa A↦?_
    refine sdo (v := .string ((tx (l.drop (q + j))))) A (qs (s := l) (p := q + j) Tryz.underlying9 rfl rfl rfl (by omega)) λa A↦?_
    rcases tf (Lib.hasPrefix (l.drop (q + j)) [59]) with hb24 | hb24
    ·
     refine gcl A M (ef rfl rfl) ((hp_as hb24)) fun w26 hb25 M a A => ?_
     refine sdk (v := bV true) A λa A↦?_
     refine qa (hK22 _ _ (ct A ?_))
     refine wrl (sdm A λa A↦?_)
     refine sdo (v := iV (((q + j + 1 : Nat) : Int))) A (qb rfl rfl (ar_add ((in_i64 (by omega) (by omega)).trans (by omega)))) λa A↦?_
     refine sda A λa A↦?_
     refine qa (hK21 _ _ (wsk fun K27 hK27 => wrl (sdm A λa A↦?_)))
     refine sda A λa A↦?_
     refine qa (hK27 _ _ (wr1 hret A ?_))
     have hz : hxN (l.drop (q + j)) = 0 := by first | exact hxN_not (by assumption) (by assumption) | exact hxN_end (by omega)
     have hjj : hxN (l.drop q) = j := by omega
     exact ⟨by unfold tiedN; rw [hq, hjj, hb24, if_pos (by rw [decide_eq_true (by omega)]; rfl)], M.bel⟩
    ·
     refine gcl A M (ef rfl rfl) ((hp_as hb24)) fun w29 hb28 M a A => ?_
     refine sdk (v := bV false) A λa A↦?_
     refine qa (hK22 _ _ (cf A ?_))
     refine wp_skip (hK21 _ _ (wsk fun K30 hK30 => wrl (sdm A λa A↦?_)))
     refine sda A λa A↦?_
     refine qa (hK30 _ _ (wr1 hret A ?_))
     have hz : hxN (l.drop (q + j)) = 0 := by first | exact hxN_not (by assumption) (by assumption) | exact hxN_end (by omega)
     have hjj : hxN (l.drop q) = j := by omega
     exact ⟨by unfold tiedN; rw [hq, hjj, hb24, if_neg (by rw [Bool.and_false]; decide)]; rfl, M.bel⟩
   ·
    have hb23' := of_decide_eq_false hb23
    refine sdc A qx hb23 λa A↦?_
    refine sdm A λa A↦?_
    iterate 4 refine qg A rfl rfl rfl λa A↦?_
    refine sdk (v := bV false) A λa A↦?_
    refine qa (hK22 _ _ (cf A ?_))
    refine wp_skip (hK21 _ _ (wsk fun K31 hK31 => wrl (sdm A λa A↦?_)))
    refine sda A λa A↦?_
    refine qa (hK31 _ _ (wr1 hret A ?_))
    have hz : hxN (l.drop (q + j)) = 0 := by first | exact hxN_not (by assumption) (by assumption) | exact hxN_end (by omega)
    have hjj : hxN (l.drop q) = j := by omega
    exact ⟨by unfold tiedN; rw [hq, hjj, if_neg (by rw [decide_eq_false (by omega), Bool.false_and]; decide)]; rfl, M.bel⟩
 ·
  have hb12' := of_decide_eq_false hb12
  refine sdc A qw hb12 λa A↦?_
  refine sdm A λa A↦?_
  iterate 6 refine qg A rfl rfl rfl λa A↦?_
  refine sdk (v := bV false) A λa A↦?_
  refine qa (hK11 _ _ (cf A ?_))
  refine wp_exit (hK6 _ _ (wsk fun K32 hK32 => wrl ?_))
  iterate 2 refine sdm A λa A↦?_
  refine sdo (v := iV (((q + j : Nat) : Int))) A (qb rfl rfl (ar_add ((in_i64 (by omega) (by omega)).trans (by omega)))) λa A↦?_
  refine sda A λa A↦?_
  refine qa (hK32 _ _ (wsk fun K33 hK33 => wsk fun K34 hK34 => wrl (sdm A λa A↦?_)))
  rcases tf (decide (0 < ((j : Nat) : Int))) with hb35 | hb35
  ·
   have hb35' := of_decide_eq_true hb35
   refine sdc A qx hb35 λa A↦?_
   iterate 3 refine sdm A λa A↦?_
   refine sdo (v := .string ((tx (l.drop (q + j))))) A (qs (s := l) (p := q + j) Tryz.underlying9 rfl rfl rfl (by omega)) λa A↦?_
   rcases tf (Lib.hasPrefix (l.drop (q + j)) [59]) with hb36 | hb36
   ·
    refine gcl A M (ef rfl rfl) ((hp_as hb36)) fun w38 hb37 M a A => ?_
    refine sdk (v := bV true) A λa A↦?_
    refine qa (hK34 _ _ (ct A ?_))
    refine wrl (sdm A λa A↦?_)
    refine sdo (v := iV (((q + j + 1 : Nat) : Int))) A (qb rfl rfl (ar_add ((in_i64 (by omega) (by omega)).trans (by omega)))) λa A↦?_
    refine sda A λa A↦?_
    refine qa (hK33 _ _ (wsk fun K39 hK39 => wrl (sdm A λa A↦?_)))
    refine sda A λa A↦?_
    refine qa (hK39 _ _ (wr1 hret A ?_))
    have hz : hxN (l.drop (q + j)) = 0 := by first | exact hxN_not (by assumption) (by assumption) | exact hxN_end (by omega)
    have hjj : hxN (l.drop q) = j := by omega
    exact ⟨by unfold tiedN; rw [hq, hjj, hb36, if_pos (by rw [decide_eq_true (by omega)]; rfl)], M.bel⟩
   ·
    refine gcl A M (ef rfl rfl) ((hp_as hb36)) fun w41 hb40 M a A => ?_
    refine sdk (v := bV false) A λa A↦?_
    refine qa (hK34 _ _ (cf A ?_))
    refine wp_skip (hK33 _ _ (wsk fun K42 hK42 => wrl (sdm A λa A↦?_)))
    refine sda A λa A↦?_
    refine qa (hK42 _ _ (wr1 hret A ?_))
    have hz : hxN (l.drop (q + j)) = 0 := by first | exact hxN_not (by assumption) (by assumption) | exact hxN_end (by omega)
    have hjj : hxN (l.drop q) = j := by omega
    exact ⟨by unfold tiedN; rw [hq, hjj, hb36, if_neg (by rw [Bool.and_false]; decide)]; rfl, M.bel⟩
  ·
   have hb35' := of_decide_eq_false hb35
   refine sdc A qx hb35 λa A↦?_
   refine sdm A λa A↦?_
   iterate 4 refine qg A rfl rfl rfl λa A↦?_
   refine sdk (v := bV false) A λa A↦?_
   refine qa (hK34 _ _ (cf A ?_))
   refine wp_skip (hK33 _ _ (wsk fun K43 hK43 => wrl (sdm A λa A↦?_)))
   refine sda A λa A↦?_
   refine qa (hK43 _ _ (wr1 hret A ?_))
   have hz : hxN (l.drop (q + j)) = 0 := by first | exact hxN_not (by assumption) (by assumption) | exact hxN_end (by omega)
   have hjj : hxN (l.drop q) = j := by omega
   exact ⟨by unfold tiedN; rw [hq, hjj, if_neg (by rw [decide_eq_false (by omega), Bool.false_and]; decide)]; rfl, M.bel⟩
end Go.Proofs.YtclkfideaameoaaGreatDoor.G
 ((delim_as (okR_dc _) hb15)) fun w17 hb16 M a A => ?_
   refine qa (hK14 _ _ (ct A ?_))
   refine wp_exit (hK3 _ _ (wsk fun K18 hK18 => wrl ?_))
   iterate 2 refine sdm A λa A↦?_
   refine sdo (v := .string ((tx (l.take n)))) A (zt (s := l) (p := n) Tryz.underlying9 rfl rfl rfl (by omega)) λa A↦?_
   refine sda A λa A↦?_
   refine qa (hK18 _ _ (wr1 hret A ?_))
   exact ⟨by rw [hn, show tokN (f + 1) (l.drop n) = 0 from tok_stop hb15, Nat.add_zero], M.bel⟩
  ·
   refine gcl A M (ef rfl rfl) ((delim_as (okR_dc _) hb15)) fun w20 hb19 M a A => ?_
   refine qa (hK14 _ _ (cf A ?_))
   refine wp_skip (hK13 _ _ (wsk fun K21 hK21 => wrl ?_))
   iterate 2 refine sdm A λa A↦?_
   refine sdo (v := iV (((n + (dcX (l.drop n)).2 : Nat) : Int))) A (qb rfl rfl (ar_add ((in_i64 (by omega) (by omega)).trans (by omega)))) λa A↦?_
   refine sda A λa A↦?_
   refine qa (hK21 _ _ (wsk fun K22 hK22 => wrl (sdm A λa A↦?_)))
   rcases tf (((((dcX (l.drop n)).1 : Nat) : Int) == 92)) with hb23 | hb23
   ·
    have hb23' := eq_of_beq hb23
    refine sdc A zf hb23 λa A↦?_
    refine qa (hK22 _ _ (ct A ?_))
    refine wrl ?_
    iterate 3 refine sdm A λa A↦?_
    refine sdo (v := .string ((tx (l.drop (n + (dcX (l.drop n)).2))))) A (qs (s := l) (p := n + (dcX (l.drop n)).2) Tryz.underlying9 rfl rfl rfl (by omega)) λa A↦?_
    have ht25 := tiedN_le (l.drop (n + (dcX (l.drop n)).2))
    rw [List.length_drop] at ht25
    refine gcl A M (ef rfl rfl) (jc (l := l.drop (n + (dcX (l.drop n)).2)) (hT.below M.bel) (by rw [List.length_drop]; omega)) fun w26 hb24 M a A => ?_
    refine sdo (v := iV (((n + (dcX (l.drop n)).2 + tiedN (l.drop (n + (dcX (l.drop n)).2)) : Nat) : Int))) A (qb rfl rfl (ar_add ((in_i64 (by omega) (by omega)).trans (by omega)))) λa A↦?_
    refine sda A λa A↦?_
    refine qa ?_
    have e7 := tok_go (f := f) hne hb15 (if_pos (eq_of_beq hb23))
    simp only [List.drop_drop] at e7
    refine hK5 _ _ _ (by omega) ⟨n + (dcX (l.drop n)).2 + tiedN (l.drop (n + (dcX (l.drop n)).2)), f, rfl, ⟨by omega, by omega, by rw [hn, e7, Nat.add_assoc n (dcX (l.drop n)).2 _]; exact (Nat.add_assoc _ _ _).symm⟩, A.keep _ ⟨rfl, rfl, rfl, trivial⟩, M⟩
   ·
    have hb23' := ne_of_beq_false hb23
    refine sdc A zf hb23 λa A↦?_
    refine qa (hK22 _ _ (cf A ?_))
    refine wp_skip ?_
    refine hK5 _ _ _ (by omega) ⟨n + (dcX (l.drop n)).2, f, rfl, ⟨by omega, by omega, by rw [hn, tok_go hne hb15 (if_neg (ne_of_beq_false hb23)), List.drop_drop, Nat.add_assoc]⟩, A.keep _ ⟨rfl, rfl, rfl, trivial⟩, M⟩
 ·
  have hb9' := of_decide_eq_false hb9
  refine sdc A qw hb9 λa A↦?_
  refine qa (hK8 _ _ (cf A ?_))
  refine wp_exit (hK3 _ _ (wsk fun K27 hK27 => wrl ?_))
  iterate 2 refine sdm A λa A↦?_
  refine sdo (v := .string ((tx (l.take n)))) A (zt (s := l) (p := n) Tryz.underlying9 rfl rfl rfl (by omega)) λa A↦?_
  refine sda A λa A↦?_
  refine qa (hK27 _ _ (wr1 hret A ?_))
  exact ⟨by rw [hn, show tokN (f + 1) (l.drop n) = 0 from (by rw [List.drop_eq_nil_of_le (by omega)]; exact tok_end _), Nat.add_zero], M.bel⟩
end Go.Proofs.YtclkfideaameoaaGreatDoor.G
neg (of_decide_eq_false hb5), if_neg (of_decide_eq_false hb8), if_pos (of_decide_eq_true hb11)]; rfl, M.bel⟩
   ·
    have hb11' := of_decide_eq_false hb11
    refine sdo (v := bV false) A (qb rfl rfl (fun w => (qe (a := l) (b := [98, 97, 99, 107, 115, 112, 97, 99, 101]) Tryz.underlying9 w).trans (by rw [hb11] <;> rfl))) λa A↦?_
    refine sda A λa A↦?_
    refine qa (hK10 _ _ (cf A ?_))
    refine wsk fun K13 hK13 => wrl ?_
    rcases tf (decide (l = [116, 97, 98])) with hb14 | hb14
    ·
     have hb14' := of_decide_eq_true hb14
     refine sdo (v := bV true) A (qb rfl rfl (fun w => (qe (a := l) (b := [116, 97, 98]) Tryz.underlying9 w).trans (by rw [hb14] <;> rfl))) λa A↦?_
     refine sda A λa A↦?_
     refine qa (hK13 _ _ (ct A ?_))
     refine wsk fun K15 hK15 => wrl ?_
     iterate 2 refine sda A λa A↦?_
     refine qa (hK15 _ _ (wp_ret (hret _ _ (en2 A rfl (qf rfl) (qf rfl) ?_))))
     exact ⟨by unfold nmdX; rw [if_neg (of_decide_eq_false hb5), if_neg (of_decide_eq_false hb8), if_neg (of_decide_eq_false hb11), if_pos (of_decide_eq_true hb14)]; rfl, M.bel⟩
    ·
     have hb14' := of_decide_eq_false hb14
     refine sdo (v := bV false) A (qb rfl rfl (fun w => (qe (a := l) (b := [116, 97, 98]) Tryz.underlying9 w).trans (by rw [hb14] <;> rfl))) λa A↦?_
     refine sda A λa A↦?_
     refine qa (hK13 _ _ (cf A ?_))
     refine wsk fun K16 hK16 => wsk fun K17 hK17 => wrl ?_
     rcases tf (decide (l = [108, 105, 110, 101, 102, 101, 101, 100])) with hb18 | hb18
     ·
      have hb18' := of_decide_eq_true hb18
      refine sdo (v := bV true) A (qb rfl rfl (fun w => (qe (a := l) (b := [108, 105, 110, 101, 102, 101, 101, 100]) Tryz.underlying9 w).trans (by rw [hb18] <;> rfl))) λa A↦?_
      refine sda A λa A↦?_
      refine qa (hK17 _ _ (ct A ?_))
      refine wp_skip (hK16 _ _ (ct A ?_))
      refine wsk fun K19 hK19 => wrl ?_
      iterate 2 refine sda A λa A↦?_
      refine qa (hK19 _ _ (wp_ret (hret _ _ (en2 A rfl (qf rfl) (qf rfl) ?_))))
      exact ⟨by unfold nmdX; rw [if_neg (of_decide_eq_false hb5), if_neg (of_decide_eq_false hb8), if_neg (of_decide_eq_false hb11), if_neg (of_decide_eq_false hb14), if_pos (of_decide_eq_true hb18)]; rfl, M.bel⟩
     ·
      have hb18' := of_decide_eq_false hb18
      refine sdo (v := bV false) A (qb rfl rfl (fun w => (qe (a := l) (b := [108, 105, 110, 101, 102, 101, 101, 100]) Tryz.underlying9 w).trans (by rw [hb18] <;> rfl))) λa A↦?_
      refine sda A λa A↦?_
      refine qa (hK17 _ _ (cf A ?_))
      refine wrl ?_
      rcases tf (decide (l = [110, 101, 119, 108, 105, 110, 101])) with hb20 | hb20
      ·
       have hb20' := of_decide_eq_true hb20
       refine sdo (v := bV true) A (qb rfl rfl (fun w => (qe (a := l) (b := [110, 101, 119, 108, 105, 110, 101]) Tryz.underlying9 w).trans (by rw [hb20] <;> rfl))) λa A↦?_
       refine sda A λa A↦?_
       refine qa (hK16 _ _ (ct A ?_))
       refine wsk fun K21 hK21 => wrl ?_
       iterate 2 refine sda A λa A↦?_
       refine qa (hK21 _ _ (wp_ret (hret _ _ (en2 A rfl (qf rfl) (qf rfl) ?_))))
       exact ⟨by unfold nmdX; rw [if_neg (of_decide_eq_false hb5), if_neg (of_decide_eq_false hb8), if_neg (of_decide_eq_false hb11), if_neg (of_decide_eq_false hb14), if_neg (of_decide_eq_false hb18), if_pos (of_decide_eq_true hb20)]; rfl, M.bel⟩
      ·
       have hb20' := of_decide_eq_false hb20
       refine sdo (v := bV false) A (qb rfl rfl (fun w => (qe (a := l) (b := [110, 101, 119, 108, 105, 110, 101]) Tryz.underlying9 w).trans (by rw [hb20] <;> rfl))) λa A↦?_
       refine sda A λa A↦?_
       refine qa (hK16 _ _ (cf A ?_))
       refine wsk fun K22 hK22 => wrl ?_
       rcases tf (decide (l = [118, 116, 97, 98])) with hb23 | hb23
       ·
        have hb23' := of_decide_eq_true hb23
        refine sdo (v := bV true) A (qb rfl rfl (fun w => (qe (a := l) (b := [118, 116, 97, 98]) Tryz.underlying9 w).trans (by rw [hb23] <;> rfl))) λa A↦?_
        refine sda A λa A↦?_
        refine qa (hK22 _ _ (ct A ?_))
        refine wsk fun K24 hK24 => wrl ?_
        iterate 2 refine sda A λa A↦?_
        refine qa (hK24 _ _ (wp_ret (hret _ _ (en2 A rfl (qf rfl) (qf rfl) ?_))))
        exact ⟨by unfold nmdX; rw [if_neg (of_decide_eq_false hb5), if_neg (of_decide_eq_false hb8), if_neg (of_decide_eq_false hb11), if_neg (of_decide_eq_false hb14), if_neg (of_decide_eq_false hb18), if_neg (of_decide_eq_false hb20), if_pos (of_decide_eq_true hb23)]; rfl, M.bel⟩
       ·
        have hb23' := of_decide_eq_false hb23
        refine sdo (v := bV false) A (qb rfl rfl (fun w => (qe (a := l) (b := [118, 116, 97, 98]) Tryz.underlying9 w).trans (by rw [hb23] <;> rfl))) λa A↦?_
        refine sda A λa A↦?_
        refine qa (hK22 _ _ (cf A ?_))
        refine wsk fun K25 hK25 => wrl ?_
        rcases tf (decide (l = [112, 97, 103, 101])) with hb26 | hb26
        ·
         have hb26' := of_decide_eq_true hb26
         refine sdo (v := bV true) A (qb rfl rfl (fun w => (qe (a := l) (b := [112, 97, 103, 101]) Tryz.underlying9 w).trans (by rw [hb26] <;> rfl))) λa A↦?_
         refine sda A λa A↦?_
         refine qa (hK25 _ _ (ct A ?_))
         refine wsk fun K27 hK27 => wrl ?_
         iterate 2 refine sda A λa A↦?_
         refine qa (hK27 _ _ (wp_ret (hret _ _ (en2 A rfl (qf rfl) (qf rfl) ?_))))
         exact ⟨by unfold nmdX; rw [if_neg (of_decide_eq_false hb5), if_neg (of_decide_eq_false hb8), if_neg (of_decide_eq_false hb11), if_neg (of_decide_eq_false hb14), if_neg (of_decide_eq_false hb18), if_neg (of_decide_eq_false hb20), if_neg (of_decide_eq_false hb23), if_pos (of_decide_eq_true hb26)]; rfl, M.bel⟩
        ·
         have hb26' := of_decide_eq_false hb26
         refine sdo (v := bV false) A (qb rfl rfl (fun w => (qe (a := l) (b := [112, 97, 103, 101]) Tryz.underlying9 w).trans (by rw [hb26] <;> rfl))) λa A↦?_
         refine sda A λa A↦?_
         refine qa (hK25 _ _ (cf A ?_))
         refine wsk fun K28 hK28 => wrl ?_
         rcases tf (decide (l = [114, 101, 116, 117, 114, 110])) with hb29 | hb29
         ·
          have hb29' := of_decide_eq_true hb29
          refine sdo (v := bV true) A (qb rfl rfl (fun w => (qe (a := l) (b := [114, 101, 116, 117, 114, 110]) Tryz.underlying9 w).trans (by rw [hb29] <;> rfl))) λa A↦?_
          refine sda A λa A↦?_
          refine qa (hK28 _ _ (ct A ?_))
          refine wsk fun K30 hK30 => wrl ?_
          iterate 2 refine sda A λa A↦?_
          refine qa (hK30 _ _ (wp_ret (hret _ _ (en2 A rfl (qf rfl) (qf rfl) ?_))))
          exact ⟨by unfold nmdX; rw [if_neg (of_decide_eq_false hb5), if_neg (of_decide_eq_false hb8), if_neg (of_decide_eq_false hb11), if_neg (of_decide_eq_false hb14), if_neg (of_decide_eq_false hb18), if_neg (of_decide_eq_false hb20), if_neg (of_decide_eq_false hb23), if_neg (of_decide_eq_false hb26), if_pos (of_decide_eq_true hb29)]; rfl, M.bel⟩
         ·
          have hb29' := of_decide_eq_false hb29
          refine sdo (v := bV false) A (qb rfl rfl (fun w => (qe (a := l) (b := [114, 101, 116, 117, 114, 110]) Tryz.underlying9 w).trans (by rw [hb29] <;> rfl))) λa A↦?_
          refine sda A λa A↦?_
          refine qa (hK28 _ _ (cf A ?_))
          refine wsk fun K31 hK31 => wrl ?_
          rcases tf (decide (l = [101, 115, 99])) with hb32 | hb32
          ·
           have hb32' := of_decide_eq_true hb32
           refine sdo (v := bV true) A (qb rfl rfl (fun w => (qe (a := l) (b := [101, 115, 99]) Tryz.underlying9 w).trans (by rw [hb32] <;> rfl))) λa A↦?_
           refine sda A λa A↦?_
           refine qa (hK31 _ _ (ct A ?_))
           refine wsk fun K33 hK33 => wrl ?_
           iterate 2 refine sda A λa A↦?_
           refine qa (hK33 _ _ (wp_ret (hret _ _ (en2 A rfl (qf rfl) (qf rfl) ?_))))
           exact ⟨by unfold nmdX; rw [if_neg (of_decide_eq_false hb5), if_neg (of_decide_eq_false hb8), if_neg (of_decide_eq_false hb11), if_neg (of_decide_eq_false hb14), if_neg (of_decide_eq_false hb18), if_neg (of_decide_eq_false hb20), if_neg (of_decide_eq_false hb23), if_neg (of_decide_eq_false hb26), if_neg (of_decide_eq_false hb29), if_pos (of_decide_eq_true hb32)]; rfl, M.bel⟩
          ·
           have hb32' := of_decide_eq_false hb32
           refine sdo (v := bV false) A (qb rfl rfl (fun w => (qe (a := l) (b := [101, 115, 99]) Tryz.underlying9 w).trans (by rw [hb32] <;> rfl))) λa A↦?_
           refine sda A λa A↦?_
           refine qa (hK31 _ _ (cf A ?_))
           refine wsk fun K34 hK34 => wrl ?_
           rcases tf (decide (l = [115, 112, 97, 99, 101])) with hb35 | hb35
           ·
            have hb35' := of_decide_eq_true hb35
            refine sdo (v := bV true) A (qb rfl rfl (fun w => (qe (a := l) (b := [115, 112, 97, 99, 101]) Tryz.underlying9 w).trans (by rw [hb35] <;> rfl))) λa A↦?_
            refine sda A λa A↦?_
            refine qa (hK34 _ _ (ct A ?_))
            refine wsk fun K36 hK36 => wrl ?_
            iterate 2 refine sda A λa A↦?_
            refine qa (hK36 _ _ (wp_ret (hret _ _ (en2 A rfl (qf rfl) (qf rfl) ?_))))
            exact ⟨by unfold nmdX; rw [if_neg (of_decide_eq_false hb5), if_neg (of_decide_eq_false hb8), if_neg (of_decide_eq_false hb11), if_neg (of_decide_eq_false hb14), if_neg (of_decide_eq_false hb18), if_neg (of_decide_eq_false hb20), if_neg (of_decide_eq_false hb23), if_neg (of_decide_eq_false hb26), if_neg (of_decide_eq_false hb29), if_neg (of_decide_eq_false hb32), if_pos (of_decide_eq_true hb35)]; rfl, M.bel⟩
           ·
            have hb35' := of_decide_eq_false hb35
            refine sdo (v := bV false) A (qb rfl rfl (fun w => (qe (a := l) (b := [115, 112, 97, 99, 101]) Tryz.underlying9 w).trans (by rw [hb35] <;> rfl))) λa A↦?_
            refine sda A λa A↦?_
            refine qa (hK34 _ _ (cf A ?_))
            refine wsk fun K37 hK37 => wrl ?_
            rcases tf (decide (l = [100, 101, 108, 101, 116, 101])) with hb38 | hb38
            ·
             have hb38' := of_decide_eq_true hb38
             refine sdo (v := bV true) A (qb rfl rfl (fun w => (qe (a := l) (b := [100, 101, 108, 101, 116, 101]) Tryz.underlying9 w).trans (by rw [hb38] <;> rfl))) λa A↦?_
             refine sda A λa A↦?_
             refine qa (hK37 _ _ (ct A ?_))
             refine wsk fun K39 hK39 => wrl ?_
             iterate 2 refine sda A λa A↦?_
             refine qa (hK39 _ _ (wp_ret (hret _ _ (en2 A rfl (qf rfl) (qf rfl) ?_))))
             exact ⟨by unfold nmdX; rw [if_neg (of_decide_eq_false hb5), if_neg (of_decide_eq_false hb8), if_neg (of_decide_eq_false hb11), if_neg (of_decide_eq_false hb14), if_neg (of_decide_eq_false hb18), if_neg (of_decide_eq_false hb20), if_neg (of_decide_eq_false hb23), if_neg (of_decide_eq_false hb26), if_neg (of_decide_eq_false hb29), if_neg (of_decide_eq_false hb32), if_neg (of_decide_eq_false hb35), if_pos (of_decide_eq_true hb38)]; rfl, M.bel⟩
            ·
             have hb38' := of_decide_eq_false hb38
             refine sdo (v := bV false) A (qb rfl rfl (fun w => (qe (a := l) (b := [100, 101, 108, 101, 116, 101]) Tryz.underlying9 w).trans (by rw [hb38] <;> rfl))) λa A↦?_
             refine sda A λa A↦?_
             refine qa (hK37 _ _ (cf A ?_))
             refine wp_skip (hK2 _ _ (wsk fun K40 hK40 => wrl ?_))
             iterate 2 refine sda A λa A↦?_
             refine qa (hK40 _ _ (wp_ret (hret _ _ (en2 A rfl (qf rfl) (qf rfl) ?_))))
             exact ⟨by unfold nmdX; rw [if_neg (of_decide_eq_false hb5), if_neg (of_decide_eq_false hb8), if_neg (of_decide_eq_false hb11), if_neg (of_decide_eq_false hb14), if_neg (of_decide_eq_false hb18), if_neg (of_decide_eq_false hb20), if_neg (of_decide_eq_false hb23), if_neg (of_decide_eq_false hb26), if_neg (of_decide_eq_false hb29), if_neg (of_decide_eq_false hb32), if_neg (of_decide_eq_false hb35), if_neg (of_decide_eq_false hb38)]; rfl, M.bel⟩
theorem js {w0 w : World} {g p : Nat} {lg : Bool} {L : List UInt8} {T : List Ck} (hT : Tb w0) (hp : p ≤ L.length) (hl : L.length ≤ 1000000000) (hd0 : dotB (L.drop p) = true) (hM0 : Mg w0 w (.obj g (rC L p lg) :: T)) : Calls Tryz.prog 55 #[pA g 0] w fun e w' => e = .returned (bV true) ∧ Mg w0 w' (.obj g (rC L (p + 1) lg) :: T) := by
 have hd : decide ((L.drop p).take (tokN ((L.drop p).length + 1) (L.drop p)) = [46]) = true := hd0
 have hpf := dot_pre (of_decide_eq_true hd)
 have M : Mg w0 w (.obj g (rC L p lg) :: T) := hM0
 refine qr (l := [(0, pA g 0)]) Tryz.func55 rfl Tryz.ntmps55 rfl rfl ?_
 intro Q hret hnorm hP a A
 refine wsk fun K1 hK1 => wrl (sda A λa A↦?_)
 refine qa (hK1 _ _ (wsk fun K2 hK2 => wrl (sdm A λa A↦?_)))
 refine sct A (ef rfl rfl) (qz (p := p) (L := L) (T := (T)) (by omega) M) ?_
 rintro _ w4 ⟨rfl, hM3⟩
 replace M : Mg w0 w4 (.obj g (rC L p lg) :: T) := hM3
 refine ⟨_, rfl, ?_⟩
 intro a A
 refine gcl A M (ef rfl rfl) (token_any (l := L.drop p) (hT.below M.bel) (by rw [List.length_drop]; omega)) fun w6 hb5 M a A => ?_
 refine sdo (v := bV true) A (qb rfl rfl (fun w => (qe (a := (L.drop p).take (tokN ((L.drop p).length + 1) (L.drop p))) (b := [46]) Tryz.underlying9 w).trans (by rw [hd] <;> rfl))) λa A↦?_
 iterate 2 refine sdm A λa A↦?_
 have htl9 : 1 ≤ (L.drop p).length := (List.isPrefixOf_iff_prefix.1 hpf).length_le
 rw [List.length_drop] at htl9
 refine sct A (ef rfl rfl) (take_y (p := p) (L := L) (T := (T)) (by omega) (by omega) hpf M) ?_
 rintro _ w10 ⟨rfl, hM8⟩
 replace M : Mg w0 w10 (.obj g (rC L (p + 1) lg) :: T) := hM8
 refine ⟨_, rfl, ?_⟩
 intro a A
 refine sdk (v := bV true) A λa A↦?_
 refine sda A λa A↦?_
 refine qa (hK2 _ _ (wr1 hret A ?_))
 exact ⟨rfl, M⟩
theorem jt {w0 w : World} {g p : Nat} {lg : Bool} {L : List UInt8} {T : List Ck} (hT : Tb w0) (hp : p ≤ L.length) (hl : L.length ≤ 1000000000) (hd0 : dotB (L.drop p) = false) (hM0 : Mg w0 w (.obj g (rC L p lg) :: T)) : Calls Tryz.prog 55 #[pA g 0] w fun e w' => e = .returned (bV false) ∧ Mg w0 w' (.obj g (rC L p lg) :: T) := by
 have hd : decide ((L.drop p).take (tokN ((L.drop p).length + 1) (L.drop p)) = [46]) = false := hd0
 
 have M : Mg w0 w (.obj g (rC L p lg) :: T) := hM0
 refine qr (l := [(0, pA g 0)]) Tryz.func55 rfl Tryz.ntmps55 rfl rfl ?_
 intro Q hret hnorm hP a A
 refine wsk fun K1 hK1 => wrl (sda A λa A↦?_)
 refine qa (hK1 _ _ (wsk fun K2 hK2 => wrl (sdm A λa A↦?_)))
 refine sct A (ef rfl rfl) (qz (p := p) (L := L) (T := (T)) (by omega) M) ?_
 rintro _ w4 ⟨rfl, hM3⟩
 replace M : Mg w0 w4 (.obj g (rC L p lg) :: T) := hM3
 refine ⟨_, rfl, ?_⟩
 intro a A
 refine gcl A M (ef rfl rfl) (token_any (l := L.drop p) (hT.below M.bel) (by rw [List.length_drop]; omega)) fun w6 hb5 M a A => ?_
 refine sdo (v := bV false) A (qb rfl rfl (fun w => (qe (a := (L.drop p).take (tokN ((L.drop p).length + 1) (L.drop p))) (b := [46]) Tryz.underlying9 w).trans (by rw [hd] <;> rfl))) λa A↦?_
 refine sdm A λa A↦?_
 iterate 2 refine qg A rfl rfl rfl λa A↦?_
 refine sdk (v := bV false) A λa A↦?_
 refine sda A λa A↦?_
 refine qa (hK2 _ _ (wr1 hret A ?_))
 exact ⟨rfl, M⟩
end Go.Proofs.YtclkfideaameoaaGreatDoor.G
:= by
 have M : Mg w w ([]) := Mg.start w
 refine qr (l := [(0, iV 5)]) Tryz.func106 rfl Tryz.ntmps106 rfl rfl ?_
 intro Q hret hnorm hP a A
 refine wsk fun K1 hK1 => wrl (sda A λa A↦?_)
 refine qa (hK1 _ _ (wsk fun K2 hK2 => wrl (sdm A λa A↦?_)))
 refine sdo (v := iV 21) A (qb rfl rfl (ar_add rfl)) λa A↦?_
 refine sdo (v := iV 2) A (qb rfl rfl (ar_quo (by decide) (by decide))) λa A↦?_
 refine sda A λa A↦?_
 refine qa (hK2 _ _ (wr1 hret A ?_))
 exact ⟨rfl, M.bel⟩
theorem jw {w : World} : Calls Tryz.prog 106 #[iV 6] w fun e w' => e = .returned (iV 2) ∧ Below w.heap.size w w' := by
 have M : Mg w w ([]) := Mg.start w
 refine qr (l := [(0, iV 6)]) Tryz.func106 rfl Tryz.ntmps106 rfl rfl ?_
 intro Q hret hnorm hP a A
 refine wsk fun K1 hK1 => wrl (sda A λa A↦?_)
 refine qa (hK1 _ _ (wsk fun K2 hK2 => wrl (sdm A λa A↦?_)))
 refine sdo (v := iV 22) A (qb rfl rfl (ar_add rfl)) λa A↦?_
 refine sdo (v := iV 2) A (qb rfl rfl (ar_quo (by decide) (by decide))) λa A↦?_
 refine sda A λa A↦?_
 refine qa (hK2 _ _ (wr1 hret A ?_))
 exact ⟨rfl, M.bel⟩
theorem jx {w : World} : Calls Tryz.prog 106 #[iV 7] w fun e w' => e = .returned (iV 2) ∧ Below w.heap.size w w' := by
 have M : Mg w w ([]) := Mg.start w
 refine qr (l := [(0, iV 7)]) Tryz.func106 rfl Tryz.ntmps106 rfl rfl ?_
 intro Q hret hnorm hP a A
 refine wsk fun K1 hK1 => wrl (sda A λa A↦?_)
 refine qa (hK1 _ _ (wsk fun K2 hK2 => wrl (sdm A λa A↦?_)))
 refine sdo (v := iV 23) A (qb rfl rfl (ar_add rfl)) λa A↦?_
 refine sdo (v := iV 2) A (qb rfl rfl (ar_quo (by decide) (by decide))) λa A↦?_
 refine sda A λa A↦?_
 refine qa (hK2 _ _ (wr1 hret A ?_))
 exact ⟨rfl, M.bel⟩
def s7 : List UInt8 := [10, 13, 194, 133, 226, 128, 168]
theorem zk : s7.length = 7 := rfl
theorem jy {i k : Nat} (h1 : i < k) (h2 : k < 7) : s7.getD i 0 ≠ s7.getD k 0 := by
 have h : ∀ i k : Fin 7, i < k → s7.getD i 0 ≠ s7.getD k 0 := by decide
 exact h ⟨i, by omega⟩ ⟨k, h2⟩ h1
theorem zi {l : List UInt8} {i : Nat} (h : i < l.length) : l[i]? = some (l.getD i 0) := by
 rw [List.getD_eq_getElem?_getD, List.getElem?_eq_getElem h]; rfl
theorem zl {a b : UInt8} (h : ((a.toNat : Nat) : Int) = ((b.toNat : Nat) : Int)) : a = b := UInt8.toNat_inj.1 (by omega)
def atS (B : List UInt8) (k : Nat) : Prop := B.length - 1 ≤ k ∧ k < 7 ∧ ∀ t, t < B.length → s7.getD (k - t) 0 = B.getD (B.length - 1 - t) 0
theorem jz {B : List UInt8} {i : Nat} (hB : 2 ≤ B.length) (h : Lib.indexByte (s7.drop (i + 1)) (B.getD (B.length - 1) 0) = -1) (hn : s7.getD i 0 ≠ B.getD (B.length - 1) 0) (hlt : ∀ k, k < i → ¬ atS B k) : ∀ k, ¬ atS B k := fun k hk => by
 have h0 : s7.getD k 0 = B.getD (B.length - 1) 0 := hk.2.2 0 (by omega)
 have hk7 := hk.2.1
 by_cases h1 : k < i
 ·
  exact hlt k h1 hk
 by_cases h2 : k = i
 ·
  subst h2; exact hn h0
 refine Lib.indexByte_none h (k - (i + 1)) ?_
 rw [List.getElem?_drop, show i + 1 + (k - (i + 1)) = k by omega, zi (by rw [zk]; exact hk7), h0]
theorem jd {B : List UInt8} {i o : Nat} (hB : 2 ≤ B.length) (h : Lib.indexByte (s7.drop (i + 1)) (B.getD (B.length - 1) 0) = ((o : Nat) : Int)) (hn : s7.getD i 0 ≠ B.getD (B.length - 1) 0) (hlt : ∀ k, k < i → ¬ atS B k) : i + o + 1 < 7 ∧ s7.getD (i + o + 1) 0 = B.getD (B.length - 1) 0 ∧ ∀ k, k < i + o + 1 → ¬ atS B k := by
 obtain ⟨h1, h2⟩ := Lib.indexByte_some h
 rw [List.getElem?_drop, show i + 1 + o = i + o + 1 by omega] at h1
 obtain ⟨h3, h4⟩ := List.getElem?_eq_some_iff.1 h1
 rw [zk] at h3
 have h5 := h1
 rw [zi (by rw [zk]; exact h3)] at h5
 refine ⟨h3, Option.some.inj h5, fun k hk hs => ?_⟩
 have h0 : s7.getD k 0 = B.getD (B.length - 1) 0 := hs.2.2 0 (by omega)
 by_cases h6 : k < i
 ·
  exact hlt k h6 hs
 by_cases h7 : k = i
 ·
  subst h7; exact hn h0
 refine h2 (k - (i + 1)) (by omega) ?_
 rw [List.getElem?_drop, show i + 1 + (k - (i + 1)) = k by omega, zi (by rw [zk]; omega), h0]
theorem jj {w : World} {i : Nat} (h1 : 1 ≤ i) (h : i ≤ 7) : Calls Tryz.prog 106 #[iV ((i : Nat) : Int)] w fun e w' => e = .returned (iV 2) ∧ Below w.heap.size w w' := by
 match i, h1, h with
 | 1, _, _ => exact cut_1
 | 2, _, _ => exact cut_2
 | 3, _, _ => exact cut_3
 | 4, _, _ => exact cut_4
 | 5, _, _ => exact cut_5
 | 6, _, _ => exact jw
 | 7, _, _ => exact jx
theorem jk {w : World} {r : Int} {B : List UInt8} (h2 : 2 ≤ B.length) (h4 : B.length ≤ 4) (h0 : 128 ≤ r) (hne : r ≠ 65533) (hv : Lib.validRune r = true) (henc : Utf8.encode r = tx B) : Calls Tryz.prog 71 #[.string (tx s7), .int .i32 r] w fun e w' => ∃ v : Int, e = .returned (iV v) ∧ (0 ≤ v ∧ (∃ k, atS B k) ∨ v < 0 ∧ ∀ k, ¬ atS B k) ∧ Below w.heap.size w w' := by
 have hs7 := zk
 have M : Mg w w ([]) := Mg.start w
 refine qr (l := [(0, .string ((tx s7))), (1, .int .i32 r)]) Tryz.func71 rfl Tryz.ntmps71 rfl rfl ?_
 intro Q hret hnorm hP a A
 refine wsk fun K1 hK1 => wrl (sda A λa A↦?_)
 refine qa (hK1 _ _ (wp_block (wsk fun K2 hK2 => wrl (sdm A λa A↦?_))))
 refine sdo (v := bV true) A (qb rfl rfl (fun w => (ql w).trans (by rw [show (decide (0 ≤ r)) = true from (decide_eq_true (by omega))]))) λa A↦?_
 iterate 2 refine sdm A λa A↦?_
 refine sdo (v := bV false) A (qb rfl rfl (fun w => (qw w).trans (by rw [show (decide (r < 128)) = false from (decide_eq_false (by omega))]))) λa A↦?_
 refine sdk (v := bV false) A λa A↦?_
 refine sda A λa A↦?_
 refine qa (hK2 _ _ (cf A ?_))
 refine wsk fun K3 hK3 => wrl (sdm A λa A↦?_)
 refine sdo (v := bV false) A (qb rfl rfl (fun w => (zf w).trans (by rw [show ((r == 65533)) = false from (beq_eq_false_iff_ne.2 (by omega))]))) λa A↦?_
 refine sda A λa A↦?_
 refine qa (hK3 _ _ (cf A ?_))
 refine wsk fun K4 hK4 => wrl (sdm A λa A↦?_)
 refine gcl A M (ef rfl rfl) (vr_as hv) fun w6 hb5 M a A => ?_
 refine sdo (v := bV false) A (zn rfl zs) λa A↦?_
 refine sda A λa A↦?_
 refine qa (hK4 _ _ (cf A ?_))
 refine zp 1 rfl ?_
 refine wsk fun K7 hK7 => wrl (sdm A λa A↦?_)
 refine sdo (v := .string ((tx B))) A (jh rfl (fun w => (run_convert_int_string w _ _ .i32 r (by kernel_rfl) Tryz.underlying9).trans (by rw [henc]))) λa A↦?_
 refine sda A λa A↦?_
 refine qa (hK7 _ _ (wsk fun K8 hK8 => wrl (sdm A λa A↦?_)))
 refine sdo (v := iV (((B.length : Nat) : Int))) A (zh (s := B) Tryz.underlying9 rfl) λa A↦?_
 refine sdo (v := iV (((B.length - 1 : Nat) : Int))) A (qb rfl rfl (ar_sub ((in_i64 (by omega) (by omega)).trans (by omega)))) λa A↦?_
 refine sda A λa A↦?_
 refine qa (hK8 _ _ (wsk fun K9 hK9 => wrl (sdm A λa A↦?_)))
 refine sda A λa A↦?_
 refine qa (hK9 _ _ (wsk fun K10 hK10 => wrl (sda A λa A↦?_)))
 refine qa (hK10 _ _ (wsk fun K11 hK11 => wp_block (zm (fun m_ a w1 => ∃ (i : Nat) (f : Nat), m_ = 8 - i ∧ (B.length - 1 ≤ i ∧ i ≤ 7 ∧ (∀ k, k < i → ¬ atS B k) ∧ (f = 0 ∨ f = 1 ∧ ∀ k, i ≤ k → k < 7 → s7.getD k 0 ≠ B.getD (B.length - 1) 0)) ∧ Sl a 187 [(0, .string ((tx s7))), (1, .int .i32 r), (7, .string ((tx B))), (8, iV (((B.length - 1 : Nat) : Int))), (9, iV (((i : Nat) : Int))), (10, iV (((f : Nat) : Int))), (17, .int .i32 r), (18, .string ((tx B))), (19, .string ((tx B))), (20, iV (((B.length : Nat) : Int))), (21, iV (((B.length - 1 : Nat) : Int))), (22, iV (((B.length - 1 : Nat) : Int))), (160, bV false), (161, .int .i32 r), (162, bV true), (163, bV true), (164, .int .i32 r), (165, bV false), (166, bV false), (171, bV false), (172, .int .i32 r), (173, bV false), (183, bV false), (184, .int .i32 r), (185, bV true), (186, bV false)] ∧ Mg w w1 ([])) _ ⟨B.length - 1, 0, rfl, ⟨Nat.le_refl _, by omega, fun k hk hs => absurd hs.1 (by omega), .inl rfl⟩, A.keep _ (by repeat' constructor), M⟩ ?_)))
 clear M A
 rintro m_ a w12 ⟨i, f, rfl, hinv14, A, M⟩ K13 hK13
 obtain ⟨hi1, hi2, hi3, hi4⟩ := hinv14
 refine wsk fun K15 hK15 => wsk fun K16 hK16 => wrl ?_
 iterate 2 refine sdm A λa A↦?_
 refine sdo (v := iV (((s7.length : Nat) : Int))) A (zh (s := s7) Tryz.underlying9 rfl) λa A↦?_
 rcases tf (decide (((i : Nat) : Int) < ((s7.length : Nat) : Int))) with hb17 | hb17
 ·
  have hb17' := of_decide_eq_true hb17
  refine sdc A qw hb17 λa A↦?_
  refine qa (hK16 _ _ (ct A ?_))
  refine wp_skip (hK15 _ _ (wp_block (zp 0 rfl ?_)))
  refine wsk fun K18 hK18 => ?_
  have hJ19 : ∀ a w1, (∃ (q : Nat), (B.length - 1 ≤ q ∧ i ≤ q ∧ q < 7 ∧ s7.getD q 0 = B.getD (B.length - 1) 0 ∧ (∀ k, k < q → ¬ atS B k) ∧ f = 0) ∧ Sl a 187 [(0, .string ((tx s7))), (1, .int .i32 r), (7, .string ((tx B))), (8, iV (((B.length - 1 : Nat) : Int))), (9, iV (((q : Nat) : Int))), (10, iV (((f : Nat) : Int))), (17, .int .i32 r), (18, .string ((tx B))), (19, .string ((tx B))), (20, iV (((B.length : Nat) : Int))), (21, iV (((B.length - 1 : Nat) : Int))), (22, iV (((B.length - 1 : Nat) : Int))), (23, iV (((i : Nat) : Int))), (24, .string ((tx s7))), (25, iV (((s7.length : Nat) : Int))), (26, bV true), (160, bV false), (161, .int .i32 r), (162, bV true), (163, bV true), (164, .int .i32 r), (165, bV false), (166, bV false), (171, bV false), (172, .int .i32 r), (173, bV false), (183, bV false), (184, .int .i32 r), (185, bV true), (186, bV false)] ∧ Mg w w1 ([])) → K18 a w1 := by
   clear A M
   rintro a w20 ⟨q, hf21, A, M⟩
   obtain ⟨hq1, hqi, hq2, hq3, hq4, hf0⟩ := hf21
   refine hK18 _ _ (wsk fun K22 hK22 => wsk fun K23 hK23 => wrl (sda A λa A↦?_))
   refine qa (hK23 _ _ (wp_block (zm (fun m_ a w1 => ∃ (j : Nat), m_ = B.length - j ∧ (1 ≤ j ∧ j ≤ B.length ∧ ∀ t, t < j → s7.getD (q - t) 0 = B.getD (B.length - 1 - t) 0) ∧ Sl a 187 [(0, .string ((tx s7))), (1, .int .i32 r), (7, .string ((tx B))), (8, iV (((B.length - 1 : Nat) : Int))), (9, iV (((q : Nat) : Int))), (10, iV (((f : Nat) : Int))), (12, iV (((j : Nat) : Int))), (17, .int .i32 r), (18, .string ((tx B))), (19, .string ((tx B))), (20, iV (((B.length : Nat) : Int))), (21, iV (((B.length - 1 : Nat) : Int))), (22, iV (((B.length - 1 : Nat) : Int))), (23, iV (((i : Nat) : Int))), (24, .string ((tx s7))), (25, iV (((s7.length : Nat) : Int))), (26, bV true), (160, bV false), (161, .int .i32 r), (162, bV true), (163, bV true), (164, .int .i32 r), (165, bV false), (166, bV false), (171, bV false), (172, .int .i32 r), (173, bV false), (183, bV false), (184, .int .i32 r), (185, bV true), (186, bV false)] ∧ Mg w w1 ([])) _ ⟨1, rfl, ⟨Nat.le_refl _, by omega, fun t ht => by rw [show t = 0 by omega]; exact hq3⟩, A.keep _ (by repeat' constructor), M⟩ ?_)))
   clear M A
   rintro m_ a w24 ⟨j, rfl, hinv26, A, M⟩ K25 hK25
   obtain ⟨hj1, hj2, hj3⟩ := hinv26
   refine wsk fun K27 hK27 => wsk fun K28 hK28 => wrl ?_
   iterate 2 refine sdm A λa A↦?_
   refine sdo (v := iV (((B.length : Nat) : Int))) A (zh (s := B) Tryz.underlying9 rfl) λa A↦?_
   rcases tf (decide (((j : Nat) : Int) < ((B.length : Nat) : Int))) with hb29 | hb29
   ·
    have hb29' := of_decide_eq_true hb29
    refine sdc A qw hb29 λa A↦?_
    refine qa (hK28 _ _ (ct A ?_))
    refine wp_skip (hK27 _ _ (wsk fun K30 hK30 => wp_block (wsk fun K31 hK31 => zj (S := fun w1 => Mg w w1 ([])) (by kernel_rfl) ?_)))
    replace M := M.drew
    refine amv A 0 rfl hP (M.sub ns) λa A↦?_
    refine amv A 1 rfl hP (M.sub ns) λa A↦?_
    refine amv A 2 rfl hP (M.sub ns) λa A↦?_
    refine atk (v := iV (((q - j : Nat) : Int))) A 3 rfl hP (M.sub ns) (λ_ M↦qb rfl rfl (ar_sub ((in_i64 (by omega) (by omega)).trans (by omega)))) λa A↦?_
    refine atk (v := .int .u8 ((((s7.getD (q - j) 0).toNat : Nat) : Int))) A 4 rfl hP (M.sub ns) (λ_ M↦zb (s := s7) (i := q - j) (b := s7.getD (q - j) 0) Tryz.underlying9 rfl rfl rfl (zi (by omega))) λa A↦?_
    refine amv A 5 rfl hP (M.sub ns) λa A↦?_
    refine amv A 6 rfl hP (M.sub ns) λa A↦?_
    refine amv A 7 rfl hP (M.sub ns) λa A↦?_
    refine atk (v := iV (((B.length - 1 - j : Nat) : Int))) A 8 rfl hP (M.sub ns) (λ_ M↦qb rfl rfl (ar_sub ((in_i64 (by omega) (by omega)).trans (by omega)))) λa A↦?_
    refine atk (v := .int .u8 ((((B.getD (B.length - 1 - j) 0).toNat : Nat) : Int))) A 9 rfl hP (M.sub ns) (λ_ M↦zb (s := B) (i := B.length - 1 - j) (b := B.getD (B.length - 1 - j) 0) Tryz.underlying9 rfl rfl rfl (zi (by omega))) λa A↦?_
    rcases tf (((((s7.getD (q - j) 0).toNat : Nat) : Int) != (((B.getD (B.length - 1 - j) 0).toNat : Nat) : Int))) with hb32 | hb32
    ·
     have hb32' := bne_iff_ne.1 hb32
     refine atk (v := bV true) A 10 rfl hP (M.sub ns) (λ_ M↦qb rfl rfl (fun w => (za w).trans (by rw [hb32]))) λa A↦?_
     refine qy (by kernel_rfl) ?_
     refine hK31 _ _ (ct A ?_)
     refine wp_goto (And.intro rfl ?_)
     refine wsk fun K33 hK33 => wp_skip (hK33 _ _ (wsk fun K34 hK34 => wrl (sdm A λa A↦?_)))
     refine sdo (v := iV (((f + 1 : Nat) : Int))) A (qb rfl rfl (ar_add ((in_i64 (by omega) (by omega)).trans (by omega)))) λa A↦?_
     refine sda A λa A↦?_
     refine qa (hK34 _ _ (wsk fun K35 hK35 => wrl (sdm A λa A↦?_)))
     refine sdo (v := iV (((q + 1 : Nat) : Int))) A (qb rfl rfl (ar_add ((in_i64 (by omega) (by omega)).trans (by omega)))) λa A↦?_
     refine sda A λa A↦?_
     refine qa (hK35 _ _ (wsk fun K36 hK36 => wrl ?_))
     iterate 3 refine sdm A λa A↦?_
     refine gcl A M (ef rfl rfl) (jj (by omega) (by omega)) fun w38 hb37 M a A => ?_
     refine sdo (v := bV false) A (qb rfl rfl (fun w => (qx w).trans (by rw [show (decide (2 < ((f + 1 : Nat) : Int))) = false from (decide_eq_false (by omega))]))) λa A↦?_
     refine sdk (v := bV false) A λa A↦?_
     refine sdm A λa A↦?_
     iterate 4 refine qg A rfl rfl rfl λa A↦?_
     refine sdk (v := bV false) A λa A↦?_
     iterate 2 refine sdm A λa A↦?_
     iterate 5 refine qg A rfl rfl rfl λa A↦?_
     refine sdk (v := bV false) A λa A↦?_
     refine sdm A λa A↦?_
     iterate 4 refine qg A rfl rfl rfl λa A↦?_
     iterate 2 refine sdk (v := bV false) A λa A↦?_
     refine qa (hK36 _ _ (cf A ?_))
     refine wp_skip ?_
     refine hK13 _ _ _ (by omega) ⟨q + 1, f + 1, rfl, ⟨by omega, by omega, fun k hk hs => by by_cases h9 : k < q; exact hq4 k h9 hs; rw [show k = q by omega] at hs; exact bne_iff_ne.1 hb32 (by rw [hs.2.2 j (by omega)]), .inr ⟨by omega, fun k h8 h9 k9 => jy (i := q) (k := k) (by omega) h9 (hq3.trans k9.symm)⟩⟩, A.keep _ (by repeat' constructor), M⟩
    ·
     have hb32' := bne_eq_false_iff_eq.1 hb32
     refine atk (v := bV false) A 10 rfl hP (M.sub ns) (λ_ M↦qb rfl rfl (fun w => (za w).trans (by rw [hb32]))) λa A↦?_
     refine qy (by kernel_rfl) ?_
     refine hK31 _ _ (cf A ?_)
     refine wp_skip (hK30 _ _ (wrl (sdm A λa A↦?_)))
     refine sdo (v := iV (((j + 1 : Nat) : Int))) A (qb rfl rfl (ar_add ((in_i64 (by omega) (by omega)).trans (by omega)))) λa A↦?_
     refine sda A λa A↦?_
     refine qa ?_
     refine hK25 _ _ _ (by omega) ⟨j + 1, rfl, ⟨by omega, by omega, fun t ht => by by_cases h9 : t < j; exact hj3 t h9; rw [show t = j by omega]; exact zl (by simpa using hb32)⟩, A.keep _ (by repeat' constructor), M⟩
   ·
    have hb29' := of_decide_eq_false hb29
    refine sdc A qw hb29 λa A↦?_
    refine qa (hK28 _ _ (cf A ?_))
    refine wp_exit (hK22 _ _ (wsk fun K39 hK39 => wsk fun K40 hK40 => wrl ?_))
    iterate 2 refine sdm A λa A↦?_
    refine sdo (v := iV (((q - (B.length - 1) : Nat) : Int))) A (qb rfl rfl (ar_sub ((in_i64 (by omega) (by omega)).trans (by omega)))) λa A↦?_
    refine sda A λa A↦?_
    refine qa (hK40 _ _ (wr1 hret A ?_))
    exact ⟨_, rfl, .inl ⟨by omega, q, hq1, hq2, fun t ht => hj3 t (by have h9 := of_decide_eq_false hb29; omega)⟩, M.bel⟩
  refine wsk fun K41 hK41 => zj (S := fun w1 => Mg w w1 ([])) (by kernel_rfl) ?_
  replace M := M.drew
  refine amv A 0 rfl hP (M.sub ns) λa A↦?_
  refine amv A 1 rfl hP (M.sub ns) λa A↦?_
  refine atk (v := .int .u8 ((((s7.getD i 0).toNat : Nat) : Int))) A 2 rfl hP (M.sub ns) (λ_ M↦zb (s := s7) (i := i) (b := s7.getD i 0) Tryz.underlying9 rfl rfl rfl (zi (by omega))) λa A↦?_
  refine amv A 3 rfl hP (M.sub ns) λa A↦?_
  refine amv A 4 rfl hP (M.sub ns) λa A↦?_
  refine atk (v := .int .u8 ((((B.getD (B.length - 1) 0).toNat : Nat) : Int))) A 5 rfl hP (M.sub ns) (λ_ M↦zb (s := B) (i := B.length - 1) (b := B.getD (B.length - 1) 0) Tryz.underlying9 rfl rfl rfl (zi (by omega))) λa A↦?_
  rcases tf (((((s7.getD i 0).toNat : Nat) : Int) != (((B.getD (B.length - 1) 0).toNat : Nat) : Int))) with hb42 | hb42
  ·
   have hb42' := bne_iff_ne.1 hb42
   refine atk (v := bV true) A 6 rfl hP (M.sub ns) (λ_ M↦qb rfl rfl (fun w => (za w).trans (by rw [hb42]))) λa A↦?_
   refine qy (by kernel_rfl) ?_
   refine hK41 _ _ (ct A ?_)
   refine wsk fun K43 hK43 => zj (S := fun w1 => Mg w w1 ([])) (by kernel_rfl) ?_
   replace M := M.drew
   refine amv A 0 rfl hP (M.sub ns) λa A↦?_
   refine amv A 1 rfl hP (M.sub ns) λa A↦?_
   refine atk (v := iV (((i + 1 : Nat) : Int))) A 2 rfl hP (M.sub ns) (λ_ M↦qb rfl rfl (ar_add ((in_i64 (by omega) (by omega)).trans (by omega)))) λa A↦?_
   refine atk (v := .string ((tx (s7.drop (i + 1))))) A 3 rfl hP (M.sub ns) (λ_ M↦qs (s := s7) (p := i + 1) Tryz.underlying9 rfl rfl rfl (by omega)) λa A↦?_
   refine amv A 4 rfl hP (M.sub ns) λa A↦?_
   refine amv A 5 rfl hP (M.sub ns) λa A↦?_
   refine atk (v := .int .u8 ((((B.getD (B.length - 1) 0).toNat : Nat) : Int))) A 6 rfl hP (M.sub ns) (λ_ M↦zb (s := B) (i := B.length - 1) (b := B.getD (B.length - 1) 0) Tryz.underlying9 rfl rfl rfl (zi (by omega))) λa A↦?_
   rcases tf (decide (0 ≤ Lib.indexByte (s7.drop (i + 1)) (B.getD (B.length - 1) 0))) with hb45 | hb45
   ·
    have hb45' := of_decide_eq_true hb45
    obtain ⟨o, ho47⟩ := Int.eq_ofNat_of_zero_le (of_decide_eq_true hb45)
    have hoB := (jd h2 ho47 (fun k9 => bne_iff_ne.1 hb42 (by rw [k9])) hi3).1
    refine zw (by kernel_rfl) (ji A 7 rfl rfl rfl rfl (ef rfl rfl) (ib_as (l := s7.drop (i + 1)) (b := B.getD (B.length - 1) 0) ho47) ?_)
    rintro _ w48 ⟨rfl, hb46⟩
    replace M := M.call hb46
    refine ⟨_, rfl, (M.sub ns), ?_⟩
    intro a A
    refine atk A 8 rfl hP (M.sub ns) (λ_ M↦zd rfl) λa A↦?_
    refine qy (by kernel_rfl) ?_
    refine hK43 _ _ (wsk fun K49 hK49 => wsk fun K50 hK50 => wrl (sdm A λa A↦?_))
    refine sdo (v := bV false) A (qb rfl rfl (fun w => (qw w).trans (by rw [show (decide (((o : Nat) : Int) < 0)) = false from (decide_eq_false (by omega))]))) λa A↦?_
    refine qa (hK50 _ _ (cf A ?_))
    refine wp_skip (hK49 _ _ (wrl ?_))
    iterate 2 refine sdm A λa A↦?_
    refine sdo (v := iV (((o + 1 : Nat) : Int))) A (qb rfl rfl (ar_add ((in_i64 (by omega) (by omega)).trans (by omega)))) λa A↦?_
    refine sdo (v := iV (((i + o + 1 : Nat) : Int))) A (qb rfl rfl (ar_add ((in_i64 (by omega) (by omega)).trans (by omega)))) λa A↦?_
    refine sda A λa A↦?_
    refine qa ?_
    exact hJ19 _ _ ⟨i + o + 1, (by obtain ⟨y1, y2, y3⟩ := jd h2 ho47 (fun k9 => bne_iff_ne.1 hb42 (by rw [k9])) hi3; exact ⟨by omega, by omega, y1, y2, y3, hi4.elim id fun k => absurd y2 (k.2 _ (by omega) y1)⟩), A.keep _ (by repeat' constructor), M⟩
   ·
    have hb45' := of_decide_eq_false hb45
    have ho52 : Lib.indexByte (s7.drop (i + 1)) (B.getD (B.length - 1) 0) = -1 := by have h8 := Lib.indexByte_ge (s7.drop (i + 1)) (B.getD (B.length - 1) 0); have h9 := of_decide_eq_false hb45; omega
    refine zw (by kernel_rfl) (ji A 7 rfl rfl rfl rfl (ef rfl rfl) (ib_as (l := s7.drop (i + 1)) (b := B.getD (B.length - 1) 0) ho52) ?_)
    rintro _ w53 ⟨rfl, hb51⟩
    replace M := M.call hb51
    refine ⟨_, rfl, (M.sub ns), ?_⟩
    intro a A
    refine atk A 8 rfl hP (M.sub ns) (λ_ M↦zd rfl) λa A↦?_
    refine qy (by kernel_rfl) ?_
    refine hK43 _ _ (wsk fun K54 hK54 => wsk fun K55 hK55 => wrl (sdm A λa A↦?_))
    refine sdo (v := bV true) A dbK λa A↦?_
    refine qa (hK55 _ _ (ct A ?_))
    refine wsk fun K56 hK56 => wrl (sda A λa A↦?_)
    refine qa (hK56 _ _ (wr1 hret A ?_))
    exact ⟨_, rfl, .inr ⟨by decide, jz h2 ho52 (fun k9 => bne_iff_ne.1 hb42 (by rw [k9])) hi3⟩, M.bel⟩
  ·
   have hb42' := bne_eq_false_iff_eq.1 hb42
   refine atk (v := bV false) A 6 rfl hP (M.sub ns) (λ_ M↦qb rfl rfl (fun w => (za w).trans (by rw [hb42]))) λa A↦?_
   refine qy (by kernel_rfl) ?_
   refine hK41 _ _ (cf A ?_)
   refine wp_skip ?_
   exact hJ19 _ _ ⟨i, (by have y2 : s7.getD i 0 = B.getD (B.length - 1) 0 := zl (by simpa using hb42); exact ⟨hi1, Nat.le_refl _, by omega, y2, hi3, hi4.elim id fun k => absurd y2 (k.2 _ (Nat.le_refl _) (by omega))⟩), A.keep _ (by repeat' constructor), M⟩
 ·
  have hb17' := of_decide_eq_false hb17
  refine sdc A qw hb17 λa A↦?_
  refine qa (hK16 _ _ (cf A ?_))
  refine wp_exit (hK11 _ _ (wsk fun K57 hK57 => wsk fun K58 hK58 => wrl (sda A λa A↦?_)))
  refine qa (hK58 _ _ (wr1 hret A ?_))
  exact ⟨_, rfl, .inr ⟨by decide, fun k hk => hi3 k (by have h8 := hk.2.1; have h9 := of_decide_eq_false hb17; omega) hk⟩, M.bel⟩
theorem zq {w : World} {r : Int} {B : List UInt8} (h2 : 2 ≤ B.length) (h4 : B.length ≤ 4) (h0 : 128 ≤ r) (hne : r ≠ 65533) (hv : Lib.validRune r = true) (henc : Utf8.encode r = tx B) (hx : (∃ k, atS B k) ↔ ln7 r = true) : Calls Tryz.prog 71 #[.string (tx s7), .int .i32 r] w fun e w' => ∃ v : Int, e = .returned (iV v) ∧ decide (0 ≤ v) = ln7 r ∧ Below w.heap.size w w' := (jk h2 h4 h0 hne hv henc).mono fun e w' ⟨v, h1, h3, h5⟩ => by
 refine ⟨v, h1, ?_, h5⟩
 rcases h3 with ⟨h6, h7⟩ | ⟨h6, h7⟩
 ·
  rw [hx.1 h7]; exact decide_eq_true h6
 ·
  rw [show ln7 r = false from Bool.eq_false_iff.2 fun k => (hx.2 k).elim h7]; exact decide_eq_false (by omega)
theorem je {k : Nat} (h : k < 7) : k = 0 ∨ k = 1 ∨ k = 2 ∨ k = 3 ∨ k = 4 ∨ k = 5 ∨ k = 6 := by omega
theorem xh {r : Int} {b0 b1 : UInt8} (h0 : 128 ≤ r) (h1 : r ≤ 2047) (e0 : ((b0.toNat : Nat) : Int) = 192 + r / 64) (e1 : ((b1.toNat : Nat) : Int) = 128 + r % 64) : (∃ k, atS [b0, b1] k) ↔ ln7 r = true := by
 constructor
 ·
  rintro ⟨k, q1, q2, q3⟩
  have z1 : s7.getD k 0 = b1 := q3 0 (by simp)
  have z0 : s7.getD (k - 1) 0 = b0 := q3 1 (by simp)
  subst z1 z0
  apply decide_eq_true
  rcases je q2 with rfl | rfl | rfl | rfl | rfl | rfl | rfl <;> simp [s7] at e0 e1 <;> omega
 ·
  intro h
  have hr : r = 133 := by have := of_decide_eq_true h; omega
  subst hr
  obtain rfl : b0 = 194 := zl (e0.trans (by decide))
  obtain rfl : b1 = 133 := zl (e1.trans (by decide))
  exact ⟨3, by decide, by decide, by decide⟩
theorem xi {r : Int} {b0 b1 b2 : UInt8} (h0 : 2048 ≤ r) (h1 : r ≤ 65535) (e0 : ((b0.toNat : Nat) : Int) = 224 + r / 4096) (e1 : ((b1.toNat : Nat) : Int) = 128 + r / 64 % 64) (e2 : ((b2.toNat : Nat) : Int) = 128 + r % 64) : (∃ k, atS [b0, b1, b2] k) ↔ ln7 r = true := by
 constructor
 ·
  rintro ⟨k, q1, q2, q3⟩
  have z2 : s7.getD k 0 = b2 := q3 0 (by simp)
  have z1 : s7.getD (k - 1) 0 = b1 := q3 1 (by simp)
  have z0 : s7.getD (k - 2) 0 = b0 := q3 2 (by simp)
  subst z2 z1 z0
  apply decide_eq_true
  rcases je q2 with rfl | rfl | rfl | rfl | rfl | rfl | rfl <;> simp [s7] at e0 e1 e2 <;> omega
 ·
  intro h
  have hr : r = 8232 := by have := of_decide_eq_true h; omega
  subst hr
  obtain rfl : b0 = 226 := zl (e0.trans (by decide))
  obtain rfl : b1 = 128 := zl (e1.trans (by decide))
  obtain rfl : b2 = 168 := zl (e2.trans (by decide))
  exact ⟨6, by decide, by decide, by decide⟩
theorem xj {r : Int} {b0 b1 b2 b3 : UInt8} (h0 : 65536 ≤ r) (h1 : r ≤ 1114111) (e0 : ((b0.toNat : Nat) : Int) = 240 + r / 262144) : (∃ k, atS [b0, b1, b2, b3] k) ↔ ln7 r = true := by
 constructor
 ·
  rintro ⟨k, q1, q2, q3⟩
  have z0 : s7.getD (k - 3) 0 = b0 := q3 3 (by simp)
  subst z0
  exfalso
  rcases je q2 with rfl | rfl | rfl | rfl | rfl | rfl | rfl <;> simp [s7] at e0 <;> omega
 ·
  intro h
  have := of_decide_eq_true h
  omega
theorem jo {w : World} {r : Int} (h : C.OkR r) : Calls Tryz.prog 71 #[.string (tx [10, 13, 194, 133, 226, 128, 168]), .int .i32 r] w fun e w' => ∃ v : Int, e = .returned (iV v) ∧ decide (0 ≤ v) = ln7 r ∧ Below w.heap.size w w' := by
 by_cases h128 : r < 128
 ·
  have h0 : 0 ≤ r := by unfold C.OkR at h; omega
  refine (Tryz.strings_IndexRune_ascii (tx [10, 13, 194, 133, 226, 128, 168]) r w h0 h128).mono ?_
  rintro e w' ⟨rfl, rfl⟩
  have := C.ix7 r.toNat (by omega)
  rw [Int.toNat_of_nonneg h0] at this
  exact ⟨_, rfl, this, Below.refl _ _⟩
 ·
  by_cases he : r = 65533
  ·
   subst he
   refine (C.irune_err7 w).mono ?_
   rintro e w' ⟨rfl, hb⟩
   exact ⟨_, rfl, by decide, hb⟩
  ·
   have hv := h.valid
   unfold C.OkR at h
   by_cases h2 : r ≤ 2047
   ·
    exact zq (by simp) (by simp) (by omega) he hv (enc_tx hv (by unfold Lib.encodeRune; rw [Lib.encodeRuneZ_two (by omega) h2]; rfl)) (xh (by omega) h2 (byte_of (x := 192 + r / 64) (by omega) (by omega)) (byte_of (x := 128 + r % 64) (by omega) (by omega)))
   ·
    by_cases h3 : r ≤ 65535
    ·
     exact zq (by simp) (by simp) (by omega) he hv (enc_tx hv (by unfold Lib.encodeRune; rw [Lib.encodeRuneZ_three (by omega)]; rfl)) (xi (by omega) h3 (byte_of (x := 224 + r / 4096) (by omega) (by omega)) (byte_of (x := 128 + r / 64 % 64) (by omega) (by omega)) (byte_of (x := 128 + r % 64) (by omega) (by omega)))
    ·
     exact zq (by simp) (by simp) (by omega) he hv (enc_tx hv (by unfold Lib.encodeRune; rw [Lib.encodeRuneZ_four (by omega) (by omega)]; rfl)) (xj (by omega) (by omega) (byte_of (x := 240 + r / 262144) (by omega) (by omega)))
def lnX (l : List UInt8) : Nat := C.lnN l.length l
theorem zv {w : World} {l : List UInt8} (hl : l.length < 4294967281) : Calls Tryz.prog 51 #[.string (tx l), .string (tx [10, 13, 194, 133, 226, 128, 168])] w fun e w' => (∃ v : Int, e = .returned (iV v) ∧ (v = ((lnX l : Nat) : Int) ∧ lnX l < l.length ∨ v = -1 ∧ lnX l = l.length)) ∧ Below w.heap.size w w' := by
 have := C.iany7 (tx l) (fun r w h => jo h) w (by rw [jg]; exact hl)
 rwa [jg, xe] at this
theorem xk {w : World} {l : List UInt8} (hl : l.length < 4294967281) (h : decide (lnX l < l.length) = true) : Calls Tryz.prog 51 #[.string (tx l), .string (tx [10, 13, 194, 133, 226, 128, 168])] w fun e w' => e = .returned (iV ((lnX l : Nat) : Int)) ∧ Below w.heap.size w w' := (zv hl).mono fun e w' h1 => by
 obtain ⟨⟨v, rfl, h2 | h2⟩, hb⟩ := h1
 ·
  exact ⟨by rw [h2.1], hb⟩
 ·
  exact absurd (of_decide_eq_true h) (by omega)
theorem xl {w : World} {l : List UInt8} (hl : l.length < 4294967281) (h : decide (lnX l < l.length) = false) : Calls Tryz.prog 51 #[.string (tx l), .string (tx [10, 13, 194, 133, 226, 128, 168])] w fun e w' => e = .returned (iV (-1)) ∧ lnX l = l.length ∧ Below w.heap.size w w' := (zv hl).mono fun e w' h1 => by
 obtain ⟨⟨v, rfl, h2 | h2⟩, hb⟩ := h1
 ·
  exact absurd h2.2 (of_decide_eq_false h)
 ·
  exact ⟨by rw [h2.1], h2.2, hb⟩
end Go.Proofs.YtclkfideaameoaaGreatDoor.G
namespace Go.Proofs.YtclkfideaameoaaGreatDoor.G
open Go.RowKit
set_option maxRecDepth 100000
theorem ze {W : World} {n nm : String} {d : DataW Unit} {g t : Nat} {ms : Array (String × TypeId)} (hg : Tryz.prog.globalNamed n = some g) (ht : (Tryz.prog.globals[g]?).map (·.type) = some t) (hi : Tryz.prog.underlying t = some (.interface ms)) (h : Lib.VarReads Tryz.prog W n (.iface nm d)) :
  ∃ ev : Value, W.cell? ⟨g, 0, none⟩ = some ev ∧ (ev = .nilIface ∨ ∃ te pe, ev = .iface te pe) := by
 obtain ⟨g', t', cs, fuel, p, h1, h2, h3, h4⟩ := h
 obtain rfl : g' = g := Option.some.inj (h1.symm.trans hg)
 obtain rfl : t' = t := Option.some.inj (h2.symm.trans ht)
 obtain ⟨_, u, v, hc, _⟩ := iface_of_trod hi h4
 refine ⟨.iface u v, ?_, .inr ⟨u, v, rfl⟩⟩
 rw [World.var?_cell h1 h3 0, ← Array.getElem?_toList, hc]
 rfl
theorem ju {W : World} (h : World.ShapedOpen Tryz.prog W) : ∃ m : Int, W.cell? ⟨Tryz.lays145_ren.g 1, 0, none⟩ = some (iV m) := by
 obtain ⟨ha, _⟩ := h
 obtain ⟨cs, h1, h2, h3⟩ := ha 2 #[iV 0] 3 (of_decide_eq_true (by kernel_rfl)) (by kernel_rfl)
 obtain ⟨ts, e1, _, e2⟩ := h3 (by kernel_rfl)
 have ets : ts = [3] := Option.some.inj (e1.symm.trans (by kernel_rfl))
 subst ets
 have h0 : 0 < cs.size := by rw [h2]; exact Nat.one_pos
 obtain ⟨u, hu, ho⟩ := e2 0 cs[0] (Array.getElem?_eq_getElem h0)
 obtain rfl : 3 = u := Option.some.inj hu
 have hc : W.cell? ⟨2, 0, none⟩ = some cs[0] := by
  simp only [World.cell?, h1]
  exact Array.getElem?_eq_getElem h0
 unfold Cell.ok at ho
 rw [Tryz.underlying3] at ho
 generalize cs[0] = v at hc ho
 cases v with
 | int k n =>
  obtain ⟨e, _⟩ := ho
  cases e
  exact ⟨n, hc⟩
 | _ => exact absurd ho id
theorem xg {W : World} (hT : Tb W) (hR : Lib.VarReads Tryz.prog W "strconv.ErrRange" Rows.laid_strconv_ErrRange) (S : Lib.VarReads Tryz.prog W "strconv.ErrSyntax" Rows.laid_strconv_ErrSyntax) (hO : World.ShapedOpen Tryz.prog W) : Env W :=
 ⟨hT, ⟨ze (by kernel_rfl) (by kernel_rfl) Tryz.underlying85 S, ze (by kernel_rfl) (by kernel_rfl) Tryz.underlying85 hR⟩, ju hO⟩
theorem jq {W : World} {s : ByteArray} (hE : Env W) (hs : s.size ≤ 140737488351232) : Calls Tryz.prog 4 #[.string s] W fun e w' => e = .returned (bV true) ∧ Below W.heap.size W w' := by
 have h := steps_any (L := s.data.toList) hE (by rw [Array.length_toList]; exact Nat.le_trans hs (by decide))
 have e : tx s.data.toList = s := xm s
 rwa [e] at h
end Go.Proofs.YtclkfideaameoaaGreatDoor.G
namespace Go.Proofs.YtclkfideaameoaaGreatDoor.G
open Go.RowKit
set_option maxRecDepth 100000
theorem RdA_is1_3 : Is1 Tryz.prog 3 := ⟨⟨_, Tryz.underlying3, rfl⟩, by kernel_rfl⟩
theorem RdA_is1_9 : Is1 Tryz.prog 9 := ⟨⟨_, Tryz.underlying9, rfl⟩, by kernel_rfl⟩
theorem RdA_fld_50_0 : FieldAt Tryz.prog 50 0 0 := ⟨_, _, Tryz.underlying50, rfl, rfl, by kernel_rfl⟩
theorem RdA_fld_50_1 : FieldAt Tryz.prog 50 1 1 := ⟨_, _, Tryz.underlying50, rfl, rfl, by kernel_rfl⟩
def flt : List PanicEntry := [{ v := .iface 47 (.agg #[]), recovered := false }]
theorem ja {P : Program} {w : World} {l : List (Nat × Value)} {dst : Option Tmp} {ty t : TypeId} {pos : String} {after : Array Edge} {guard : Option (Nat × Bool)} {x : Operand} {v : Value} (ht : P.concrete t = true) (hx : ev l x = some v) : Does P l ⟨dst, .makeInterface t x, ty, pos, after, guard⟩ w (.iface t v) w := fun ρ h => by
 simp [execOp, h x _ hx, run_makeInterface w t v ht]
theorem jn {w : World} : Calls Tryz.prog 23 #[bV true] w fun e w' => e = .returned (.tuple #[]) ∧ Below w.heap.size w w' := by
 have M : Mg w w ([]) := Mg.start w
 refine qr (l := [(0, bV true)]) Tryz.func23 rfl Tryz.ntmps23 rfl rfl ?_
 intro Q hret hnorm hP a A
 refine wsk fun K1 hK1 => wrl (sdm A λa A↦?_)
 refine sdo (v := bV false) A (zn rfl zs) λa A↦?_
 refine qa (hK1 _ _ (cf A ?_))
 refine wp_skip (hnorm _ _ (xn (v := .tuple #[]) A rfl .nil rfl ?_))
 exact ⟨rfl, M.bel⟩
theorem zx {w : World} : Calls Tryz.prog 23 #[bV false] w fun e w' => e = .panicked flt ∧ Below w.heap.size w w' := by
 have M : Mg w w ([]) := Mg.start w
 refine zy (l := [(0, bV false)]) Tryz.func23 rfl Tryz.ntmps23 rfl rfl ?_
 intro Q hret hnorm hP hX a A
 refine wsk fun K1 hK1 => wrl (sdm A λa A↦?_)
 refine sdo (v := bV true) A (zn rfl zs) λa A↦?_
 refine qa (hK1 _ _ (ct A ?_))
 refine wrl (sdo (v := .agg #[]) A (jm rfl (fun w => by kernel_rfl)) λa A↦?_)
 refine sdo (v := .iface 47 (.agg #[])) A (ja (by kernel_rfl) rfl) λa A↦?_
 refine jp (v := .iface 47 (.agg #[])) A rfl (fun ρ h => by simp only [execOp, h (.tmp 5) _ rfl]; rfl) ?_
 exact hX _ _ _ _ _ A ⟨rfl, M.bel⟩
theorem qz {w0 w : World} {g p : Nat} {lg : Bool} {L : List UInt8} {T : List Ck} (hp : p ≤ L.length) (hM0 : Mg w0 w (.obj g (rC L p lg) :: T)) : Calls Tryz.prog 21 #[pA g 0] w fun e w' => e = .returned (.string (tx (L.drop p))) ∧ Mg w0 w' (.obj g (rC L p lg) :: T) := by
 have M : Mg w0 w (.obj g (rC L p lg) :: T) := hM0
 refine qr (l := [(0, pA g 0)]) Tryz.func21 rfl Tryz.ntmps21 rfl rfl ?_
 intro Q hret hnorm hP a A
 refine wsk fun K1 hK1 => wrl (sda A λa A↦?_)
 refine qa (hK1 _ _ (wsk fun K2 hK2 => zj (S := fun w1 => Mg w0 w1 (.obj g (rC L p lg) :: [])) (by kernel_rfl) ?_))
 replace M := M.drew
 refine amv A 0 rfl hP (M.sub (cc ns)) λa A↦?_
 refine atk A 1 rfl hP (M.sub (cc ns)) (λ_ M↦zg rfl) λa A↦?_
 refine atk (v := pA g 0) A 2 rfl hP (M.sub (cc ns)) (λ_ M↦qj RdA_fld_50_0 rfl rfl) λa A↦?_
 refine atk A 3 rfl hP (M.sub (cc ns)) (λ_ M↦zu M RdA_is1_9 rfl 0 rfl rfl) λa A↦?_
 refine amv A 4 rfl hP (M.sub (cc ns)) λa A↦?_
 refine atk A 5 rfl hP (M.sub (cc ns)) (λ_ M↦zg rfl) λa A↦?_
 refine atk (v := pA g 1) A 6 rfl hP (M.sub (cc ns)) (λ_ M↦qj RdA_fld_50_1 rfl rfl) λa A↦?_
 refine atk A 7 rfl hP (M.sub (cc ns)) (λ_ M↦zu M RdA_is1_3 rfl 0 rfl rfl) λa A↦?_
 refine atk (v := .string ((tx (L.drop p)))) A 8 rfl hP (M.sub (cc ns)) (λ_ M↦qs (s := L) (p := p) Tryz.underlying9 rfl rfl rfl (by omega)) λa A↦?_
 refine atk A 9 rfl hP (M.sub (cc ns)) (λ_ M↦zd rfl) λa A↦?_
 refine qy (by kernel_rfl) ?_
 refine hK2 _ _ (wr1 hret A ?_)
 exact ⟨rfl, M⟩
end Go.Proofs.YtclkfideaameoaaGreatDoor.G
∧ Mg w0 w' (.obj g (rC L p lg) :: T) := by
 have M : Mg w0 w (.obj g (rC L p lg) :: T) := hM0
 refine qr (l := [(0, pA g 0), (1, .string ((tx t)))]) Tryz.func32 rfl Tryz.ntmps32 rfl rfl ?_
 intro Q hret hnorm hP a A
 refine wsk fun K1 hK1 => wrl (sda A λa A↦?_)
 refine qa (hK1 _ _ (wsk fun K2 hK2 => wsk fun K3 hK3 => wrl (sdm A λa A↦?_)))
 refine sct A (ef rfl rfl) (qz (p := p) (L := L) (T := (T)) (by omega) M) ?_
 rintro _ w5 ⟨rfl, hM4⟩
 replace M : Mg w0 w5 (.obj g (rC L p lg) :: T) := hM4
 refine ⟨_, rfl, ?_⟩
 intro a A
 refine sdm A λa A↦?_
 refine gcl A M (ef rfl rfl) ((hp_as hh)) fun w7 hb6 M a A => ?_
 refine sdo (v := bV true) A (zn rfl zs) λa A↦?_
 refine qa (hK3 _ _ (ct A ?_))
 refine wsk fun K8 hK8 => wrl (sda A λa A↦?_)
 refine qa (hK8 _ _ (wr1 hret A ?_))
 exact ⟨rfl, M⟩
theorem xd {w0 w : World} {g p : Nat} {lg : Bool} {L : List UInt8} {T : List Ck} (hT : Tb w0) (hp : p ≤ L.length) (hl : L.length ≤ 1000000000) (hne : L.drop p ≠ []) (hM0 : Mg w0 w (.obj g (rC L p lg) :: T)) : Calls Tryz.prog 53 #[pA g 0] w fun e w' => e = .returned (.int .i32 (((dcX (L.drop p)).1 : Nat) : Int)) ∧ Mg w0 w' (.obj g (rC L (p + (dcX (L.drop p)).2) lg) :: T) := by
 obtain ⟨hw1, hw2⟩ := dcX_wide hne
 rw [List.length_drop] at hw2
 have M : Mg w0 w (.obj g (rC L p lg) :: T) := hM0
 refine qr (l := [(0, pA g 0)]) Tryz.func53 rfl Tryz.ntmps53 rfl rfl ?_
 intro Q hret hnorm hP a A
 refine wsk fun K1 hK1 => wrl (sda A λa A↦?_)
 refine qa (hK1 _ _ (wsk fun K2 hK2 => wrl (sdm A λa A↦?_)))
 refine sct A (ef rfl rfl) (qz (p := p) (L := L) (T := (T)) (by omega) M) ?_
 rintro _ w4 ⟨rfl, hM3⟩
 replace M : Mg w0 w4 (.obj g (rC L p lg) :: T) := hM3
 refine ⟨_, rfl, ?_⟩
 intro a A
 refine gcl A M (ef rfl rfl) (dc_any (l := L.drop p) (hT.below M.bel)) fun w6 hb5 M a A => ?_
 refine sdm A λa A↦?_
 iterate 2 refine sdo A (qp (vs := [.int .i32 ((((dcX (L.drop p)).1 : Nat) : Int)), iV ((((dcX (L.drop p)).2 : Nat) : Int))]) rfl rfl) λa A↦?_
 iterate 2 refine sda A λa A↦?_
 refine qa (hK2 _ _ (wsk fun K7 hK7 => wrl (sdm A λa A↦?_)))
 refine sdo (v := bV true) A (qb rfl rfl (fun w => (qx w).trans (by rw [show (decide (0 < (((dcX (L.drop p)).2 : Nat) : Int))) = true from (decide_eq_true (by omega))]))) λa A↦?_
 refine gcl A M (ef rfl rfl) (jn) fun w9 hb8 M a A => ?_
 refine qa (hK7 _ _ (wsk fun K10 hK10 => wrl (sdm A λa A↦?_)))
 refine sdo A (zg rfl) λa A↦?_
 refine sdo (v := pA g 1) A (qj RdB_fld_50_1 rfl rfl) λa A↦?_
 refine sdo A (zu M RdB_is1_3 rfl 0 rfl rfl) λa A↦?_
 refine sdm A λa A↦?_
 refine sdo (v := iV (((p + (dcX (L.drop p)).2 : Nat) : Int))) A (qb rfl rfl (ar_add ((in_i64 (by omega) (by omega)).trans (by omega)))) λa A↦?_
 refine sdo A (zg rfl) λa A↦?_
 refine sdo (v := pA g 1) A (qj RdB_fld_50_1 rfl rfl) λa A↦?_
 refine xb (L' := (.obj g (rC L (p + (dcX (L.drop p)).2) lg) :: T)) A M rfl rfl (xa rfl rfl rfl (by kernel_rfl) M 0 rfl rfl rfl) 0 rfl rfl rfl ?_
 intro w11 M
 refine qa (hK10 _ _ (wsk fun K12 hK12 => wrl (sdm A λa A↦?_)))
 refine sda A λa A↦?_
 refine qa (hK12 _ _ (wr1 hret A ?_))
 exact ⟨rfl, M⟩
theorem jv {w0 w : World} {g p : Nat} {lg : Bool} {L : List UInt8} {T : List Ck} (hT : Tb w0) (hp : p ≤ L.length) (hl : L.length ≤ 1000000000) (hne : L.drop p = []) (hM0 : Mg w0 w (.obj g (rC L p lg) :: T)) : Calls Tryz.prog 53 #[pA g 0] w fun e w' => e = .panicked flt ∧ Mg w0 w' (.obj g (rC L p lg) :: T) := by
 have hw1 : (dcX (L.drop p)).2 = 0 := by rw [hne]; rfl
 have M : Mg w0 w (.obj g (rC L p lg) :: T) := hM0
 refine zy (l := [(0, pA g 0)]) Tryz.func53 rfl Tryz.ntmps53 rfl rfl ?_
 intro Q hret hnorm hP hX a A
 refine wsk fun K1 hK1 => wrl (sda A λa A↦?_)
 refine qa (hK1 _ _ (wsk fun K2 hK2 => wrl (sdm A λa A↦?_)))
 refine sct A (ef rfl rfl) (qz (p := p) (L := L) (T := (T)) (by omega) M) ?_
 rintro _ w4 ⟨rfl, hM3⟩
 replace M : Mg w0 w4 (.obj g (rC L p lg) :: T) := hM3
 refine ⟨_, rfl, ?_⟩
 intro a A
 refine gcl A M (ef rfl rfl) (dc_any (l := L.drop p) (hT.below M.bel)) fun w6 hb5 M a A => ?_
 refine sdm A λa A↦?_
 iterate 2 refine sdo A (qp (vs := [.int .i32 ((((dcX (L.drop p)).1 : Nat) : Int)), iV ((((dcX (L.drop p)).2 : Nat) : Int))]) rfl rfl) λa A↦?_
 iterate 2 refine sda A λa A↦?_
 refine qa (hK2 _ _ (wsk fun K7 hK7 => wrl (sdm A λa A↦?_)))
 refine sdo (v := bV false) A (qb rfl rfl (fun w => (qx w).trans (by rw [show (decide (0 < (((dcX (L.drop p)).2 : Nat) : Int))) = false from (decide_eq_false (by omega))]))) λa A↦?_
 refine zr A rfl rfl rfl (ef rfl rfl) (zx) ?_
 rintro _ w9 ⟨rfl, hp10⟩
 exact .inl ⟨_, rfl, hX _ _ _ _ _ A (⟨rfl, M.call hp10⟩)⟩
end Go.Proofs.YtclkfideaameoaaGreatDoor.G
true) A λa A↦?_
     refine sda A λa A↦?_
     refine qa (hK2 _ _ (wr1 hret A ?_))
     exact ⟨by unfold isHx; rw [hb3, hb4, hb5, hb6]; rfl, M.bel⟩
    ·
     have hb6' := of_decide_eq_false hb6
     refine sdc A ql hb6 λa A↦?_
     iterate 2 refine sdk (v := bV false) A λa A↦?_
     iterate 2 refine sdm A λa A↦?_
     rcases tf (decide (65 ≤ ((b.toNat : Nat) : Int))) with hb7 | hb7
     ·
      have hb7' := of_decide_eq_true hb7
      refine sdc A qk hb7 λa A↦?_
      iterate 2 refine sdm A λa A↦?_
      rcases tf (decide (((b.toNat : Nat) : Int) ≤ 70)) with hb8 | hb8
      ·
       have hb8' := of_decide_eq_true hb8
       refine sdc A ql hb8 λa A↦?_
       iterate 2 refine sdk (v := bV true) A λa A↦?_
       refine sda A λa A↦?_
       refine qa (hK2 _ _ (wr1 hret A ?_))
       exact ⟨by unfold isHx; rw [hb3, hb4, hb5, hb6, hb7, hb8]; rfl, M.bel⟩
      ·
       have hb8' := of_decide_eq_false hb8
       refine sdc A ql hb8 λa A↦?_
       iterate 2 refine sdk (v := bV false) A λa A↦?_
       refine sda A λa A↦?_
       refine qa (hK2 _ _ (wr1 hret A ?_))
       exact ⟨by unfold isHx; rw [hb3, hb4, hb5, hb6, hb7, hb8]; rfl, M.bel⟩
     ·
      have hb7' := of_decide_eq_false hb7
      refine sdc A qk hb7 λa A↦?_
      refine sdm A λa A↦?_
      iterate 2 refine qg A rfl rfl rfl λa A↦?_
      iterate 2 refine sdk (v := bV false) A λa A↦?_
      refine sda A λa A↦?_
      refine qa (hK2 _ _ (wr1 hret A ?_))
      exact ⟨by unfold isHx; rw [hb3, hb4, hb5, hb6, hb7]; rfl, M.bel⟩
   ·
    have hb5' := of_decide_eq_false hb5
    refine sdc A qk hb5 λa A↦?_
    refine sdm A λa A↦?_
    iterate 2 refine qg A rfl rfl rfl λa A↦?_
    iterate 2 refine sdk (v := bV false) A λa A↦?_
    iterate 2 refine sdm A λa A↦?_
    rcases tf (decide (65 ≤ ((b.toNat : Nat) : Int))) with hb9 | hb9
    ·
     have hb9' := of_decide_eq_true hb9
     refine sdc A qk hb9 λa A↦?_
     iterate 2 refine sdm A λa A↦?_
     rcases tf (decide (((b.toNat : Nat) : Int) ≤ 70)) with hb10 | hb10
     ·
      have hb10' := of_decide_eq_true hb10
      refine sdc A ql hb10 λa A↦?_
      iterate 2 refine sdk (v := bV true) A λa A↦?_
      refine sda A λa A↦?_
      refine qa (hK2 _ _ (wr1 hret A ?_))
      exact ⟨by unfold isHx; rw [hb3, hb4, hb5, hb9, hb10]; rfl, M.bel⟩
     ·
      have hb10' := of_decide_eq_false hb10
      refine sdc A ql hb10 λa A↦?_
      iterate 2 refine sdk (v := bV false) A λa A↦?_
      refine sda A λa A↦?_
      refine qa (hK2 _ _ (wr1 hret A ?_))
      exact ⟨by unfold isHx; rw [hb3, hb4, hb5, hb9, hb10]; rfl, M.bel⟩
    ·
     have hb9' := of_decide_eq_false hb9
     refine sdc A qk hb9 λa A↦?_
     refine sdm A λa A↦?_
     iterate 2 refine qg A rfl rfl rfl λa A↦?_
     iterate 2 refine sdk (v := bV false) A λa A↦?_
     refine sda A λa A↦?_
     refine qa (hK2 _ _ (wr1 hret A ?_))
     exact ⟨by unfold isHx; rw [hb3, hb4, hb5, hb9]; rfl, M.bel⟩
 ·
  have hb3' := of_decide_eq_false hb3
  refine sdc A qk hb3 λa A↦?_
  refine sdm A λa A↦?_
  iterate 2 refine qg A rfl rfl rfl λa A↦?_
  refine sdk (v := bV false) A λa A↦?_
  iterate 2 refine sdm A λa A↦?_
  rcases tf (decide (97 ≤ ((b.toNat : Nat) : Int))) with hb11 | hb11
  ·
   have hb11' := of_decide_eq_true hb11
   refine sdc A qk hb11 λa A↦?_
   iterate 2 refine sdm A λa A↦?_
   rcases tf (decide (((b.toNat : Nat) : Int) ≤ 102)) with hb12 | hb12
   ·
    have hb12' := of_decide_eq_true hb12
    refine sdc A ql hb12 λa A↦?_
    iterate 2 refine sdk (v := bV true) A λa A↦?_
    refine sdm A λa A↦?_
    iterate 3 refine qg A rfl rfl rfl λa A↦?_
    iterate 2 refine jr A rfl rfl rfl λa A↦?_
    refine qg A rfl rfl rfl λa A↦?_
    refine sdk (v := bV true) A λa A↦?_
    refine sda A λa A↦?_
    refine qa (hK2 _ _ (wr1 hret A ?_))
    exact ⟨by unfold isHx; rw [hb3, hb11, hb12]; rfl, M.bel⟩
   ·
    have hb12' := of_decide_eq_false hb12
    refine sdc A ql hb12 λa A↦?_
    iterate 2 refine sdk (v := bV false) A λa A↦?_
    iterate 2 refine sdm A λa A↦?_
    rcases tf (decide (65 ≤ ((b.toNat : Nat) : Int))) with hb13 | hb13
    ·
     have hb13' := of_decide_eq_true hb13
     refine sdc A qk hb13 λa A↦?_
     iterate 2 refine sdm A λa A↦?_
     rcases tf (decide (((b.toNat : Nat) : Int) ≤ 70)) with hb14 | hb14
     ·
      have hb14' := of_decide_eq_true hb14
      refine sdc A ql hb14 λa A↦?_
      iterate 2 refine sdk (v := bV true) A λa A↦?_
      refine sda A λa A↦?_
      refine qa (hK2 _ _ (wr1 hret A ?_))
      exact ⟨by unfold isHx; rw [hb3, hb11, hb12, hb13, hb14]; rfl, M.bel⟩
     ·
      have hb14' := of_decide_eq_false hb14
      refine sdc A ql hb14 λa A↦?_
      iterate 2 refine sdk (v := bV false) A λa A↦?_
      refine sda A λa A↦?_
      refine qa (hK2 _ _ (wr1 hret A ?_))
      exact ⟨by unfold isHx; rw [hb3, hb11, hb12, hb13, hb14]; rfl, M.bel⟩
    ·
     have hb13' := of_decide_eq_false hb13
     refine sdc A qk hb13 λa A↦?_
     refine sdm A λa A↦?_
     iterate 2 refine qg A rfl rfl rfl λa A↦?_
     iterate 2 refine sdk (v := bV false) A λa A↦?_
     refine sda A λa A↦?_
     refine qa (hK2 _ _ (wr1 hret A ?_))
     exact ⟨by unfold isHx; rw [hb3, hb11, hb12, hb13]; rfl, M.bel⟩
  ·
   have hb11' := of_decide_eq_false hb11
   refine sdc A qk hb11 λa A↦?_
   refine sdm A λa A↦?_
   iterate 2 refine qg A rfl rfl rfl λa A↦?_
   iterate 2 refine sdk (v := bV false) A λa A↦?_
   iterate 2 refine sdm A λa A↦?_
   rcases tf (decide (65 ≤ ((b.toNat : Nat) : Int))) with hb15 | hb15
   ·
    have hb15' := of_decide_eq_true hb15
    refine sdc A qk hb15 λa A↦?_
    iterate 2 refine sdm A λa A↦?_
    rcases tf (decide (((b.toNat : Nat) : Int) ≤ 70)) with hb16 | hb16
    ·
     have hb16' := of_decide_eq_true hb16
     refine sdc A ql hb16 λa A↦?_
     iterate 2 refine sdk (v := bV true) A λa A↦?_
     refine sda A λa A↦?_
     refine qa (hK2 _ _ (wr1 hret A ?_))
     exact ⟨by unfold isHx; rw [hb3, hb11, hb15, hb16]; rfl, M.bel⟩
    ·
     have hb16' := of_decide_eq_false hb16
     refine sdc A ql hb16 λa A↦?_
     iterate 2 refine sdk (v := bV false) A λa A↦?_
     refine sda A λa A↦?_
     refine qa (hK2 _ _ (wr1 hret A ?_))
     exact ⟨by unfold isHx; rw [hb3, hb11, hb15, hb16]; rfl, M.bel⟩
   ·
    have hb15' := of_decide_eq_false hb15
    refine sdc A qk hb15 λa A↦?_
    refine sdm A λa A↦?_
    iterate 2 refine qg A rfl rfl rfl λa A↦?_
    iterate 2 refine sdk (v := bV false) A λa A↦?_
    refine sda A λa A↦?_
    refine qa (hK2 _ _ (wr1 hret A ?_))
    exact ⟨by unfold isHx; rw [hb3, hb11, hb15]; rfl, M.bel⟩
theorem jb {w : World} {b : UInt8} {c : Bool} (h : isHx b = c) : Calls Tryz.prog 116 #[.int .u8 ((b.toNat : Nat) : Int)] w fun e w' => e = .returned (bV c) ∧ Below w.heap.size w w' := h ▸ hex_any
theorem jc {w : World} {l : List UInt8} (hT : Tb w) (hl : l.length ≤ 1000000000) : Calls Tryz.prog 86 #[.string (tx l)] w fun e w' => e = .returned (iV ((tiedN l : Nat) : Int)) ∧ Below w.heap.size w w' := by
 have M : Mg w w ([]) := Mg.start w
 refine qr (l := [(0, .string ((tx l)))]) Tryz.func86 rfl Tryz.ntmps86 rfl rfl ?_
 intro Q hret hnorm hP a A
 refine wsk fun K1 hK1 => wrl (sda A λa A↦?_)
 refine qa (hK1 _ _ (wsk fun K2 hK2 => wrl (sdm A λa A↦?_)))
 refine sct A (ef rfl rfl) (dc_any (l := l) (hT.below M.bel)) ?_
 rintro _ w4 ⟨rfl, hb3⟩
 obtain ⟨q, hq⟩ : ∃ q, (dcX l).2 = q := ⟨_, rfl⟩
 have hql := dcX_le l
 rw [hq] at hql ⊢
 replace M := M.call hb3
 refine ⟨_, rfl, ?_⟩
 intro a A
 refine sdm A λa A↦?_
 iterate 2 refine sdo A (qp (vs := [.int .i32 ((((dcX l).1 : Nat) : Int)), iV (((q : Nat) : Int))]) rfl rfl) λa A↦?_
 iterate 2 refine sda A λa A↦?_
 refine qa (hK2 _ _ (wsk fun K5 hK5 => wrl (sda A λa A↦?_)))
 refine qa (hK5 _ _ (wsk fun K6 hK6 => wp_block (zm (fun m_ a w1 => ∃ (j : Nat), m_ = 1 + (l.length - (q + j)) ∧ (q + j ≤ l.length ∧ hxN (l.drop q) = j + hxN (l.drop (q + j))) ∧ Sl a 41 [(0, .string ((tx l))), (2, iV 0), (3, .int .i32 ((((dcX l).1 : Nat) : Int))), (4, iV (((q : Nat) : Int))), (5, iV (((j : Nat) : Int))), (6, .tuple #[.int .i32 ((((dcX l).1 : Nat) : Int)), iV (((q : Nat) : Int))]), (7, .string ((tx l))), (8, .tuple #[.int .i32 ((((dcX l).1 : Nat) : Int)), iV (((q : Nat) : Int))]), (9, .int .i32 ((((dcX l).1 : Nat) : Int))), (10, iV (((q : Nat) : Int)))] ∧ Mg w w1 ([])) _ ⟨0, rfl, ⟨by omega, by rw [Nat.zero_add, Nat.add_zero]⟩, A.keep _ (by repeat' constructor), M⟩ ?_)))
 clear M A
 rintro m_ a w7 ⟨j, rfl, hinv9, A, M⟩ K8 hK8
 obtain ⟨hj0, hj⟩ := hinv9
 refine wsk fun K10 hK10 => wsk fun K11 hK11 => wrl ?_
 iterate 2 refine sdm A λa A↦?_
 refine sdo (v := iV (((q + j : Nat) : Int))) A (qb rfl rfl (ar_add ((in_i64 (by omega) (by omega)).trans (by omega)))) λa A↦?_
 refine sdm A λa A↦?_
 refine sdo (v := iV (((l.length : Nat) : Int))) A (zh (s := l) Tryz.underlying9 rfl) λa A↦?_
 rcases tf (decide (((q + j : Nat) : Int) < ((l.length : Nat) : Int))) with hb12 | hb12
 ·
  have hb12' := of_decide_eq_true hb12
  refine sdc A qw hb12 λa A↦?_
  iterate 4 refine sdm A λa A↦?_
  refine sdo (v := iV (((q + j : Nat) : Int))) A (qb rfl rfl (ar_add ((in_i64 (by omega) (by omega)).trans (by omega)))) λa A↦?_
  obtain ⟨b13, hb14⟩ : ∃ b, l[q + j]? = some b := ⟨_, List.getElem?_eq_getElem (show q + j < l.length by omega)⟩
  refine sdo (v := .int .u8 (((b13.toNat : Nat) : Int))) A (zb (s := l) (i := q + j) Tryz.underlying9 rfl rfl rfl hb14) λa A↦?_
  rcases tf (isHx b13) with hb15 | hb15
  ·
   refine gcl A M (ef rfl rfl) ((jb hb15)) fun w17 hb16 M a A => ?_
   refine sdk (v := bV true) A λa A↦?_
   refine qa (hK11 _ _ (ct A ?_))
   refine wp_skip (hK10 _ _ (wp_block (wrl (sdm A λa A↦?_))))
   refine sdo (v := iV (((j + 1 : Nat) : Int))) A (qb rfl rfl (ar_add ((in_i64 (by omega) (by omega)).trans (by omega)))) λa A↦?_
   refine sda A λa A↦?_
   refine qa ?_
   refine hK8 _ _ _ (by omega) ⟨j + 1, rfl, ⟨by omega, by rw [hj, hxN_hit hb14 hb15, Nat.add_assoc]; omega⟩, A.keep _ (by repeat' constructor), M⟩
  ·
   refine gcl A M (ef rfl rfl) ((jb hb15)) fun w19 hb18 M a A => ?_
   refine sdk (v := bV false) A λa A↦?_
   refine qa (hK11 _ _ (cf A ?_))
   refine wp_exit (hK6 _ _ (wsk fun K20 hK20 => wrl ?_))
   iterate 2 refine sdm A λa A↦?_
   refine sdo (v := iV (((q + j : Nat) : Int))) A (qb rfl rfl (ar_add ((in_i64 (by omega) (by omega)).trans (by omega)))) λa A↦?_
   refine sda A λa A↦?_
   refine qa (hK20 _ _ (wsk fun K21 hK21 => wsk fun K22 hK22 => wrl (sdm A λa A↦?_)))
   rcases tf (decide (0 < ((j : Nat) : Int))) with hb23 | hb23
   ·
    have hb23' := of_decide_eq_true hb23
    refine sdc A qx hb23 λa A↦?_
    iterate 3 refine sdm A λa A↦?_
    refine sdo (v := .string ((tx (l.drop (q + j))))) A (qs (s := l) (p := q + j) Tryz.underlying9 rfl rfl rfl (by omega)) λa A↦?_
    rcases tf (Lib.hasPrefix (l.drop (q + j)) [59]) with hb24 | hb24
    ·
     refine gcl A M (ef rfl rfl) ((hp_as hb24)) fun w26 hb25 M a A => ?_
     refine sdk (v := bV true) A λa A↦?_
     refine qa (hK22 _ _ (ct A ?_))
     refine wrl (sdm A λa A↦?_)
     refine sdo (v := iV (((q + j + 1 : Nat) : Int))) A (qb rfl rfl (ar_add ((in_i64 (by omega) (by omega)).trans (by omega)))) λa A↦?_
     refine sda A λa A↦?_
     refine qa (hK21 _ _ (wsk fun K27 hK27 => wrl (sdm A λa A↦?_)))
     refine sda A λa A↦?_
     refine qa (hK27 _ _ (wr1 hret A ?_))
     have hz : hxN (l.drop (q + j)) = 0 := by first | exact hxN_not (by assumption) (by assumption) | exact hxN_end (by omega)
     have hjj : hxN (l.drop q) = j := by omega
     exact ⟨by unfold tiedN; rw [hq, hjj, hb24, if_pos (by rw [decide_eq_true (by omega)]; rfl)], M.bel⟩
    ·
     refine gcl A M (ef rfl rfl) ((hp_as hb24)) fun w29 hb28 M a A => ?_
     refine sdk (v := bV false) A λa A↦?_
     refine qa (hK22 _ _ (cf A ?_))
     refine wp_skip (hK21 _ _ (wsk fun K30 hK30 => wrl (sdm A λa A↦?_)))
     refine sda A λa A↦?_
     refine qa (hK30 _ _ (wr1 hret A ?_))
     have hz : hxN (l.drop (q + j)) = 0 := by first | exact hxN_not (by assumption) (by assumption) | exact hxN_end (by omega)
     have hjj : hxN (l.drop q) = j := by omega
     exact ⟨by unfold tiedN; rw [hq, hjj, hb24, if_neg (by rw [Bool.and_false]; decide)]; rfl, M.bel⟩
   ·
    have hb23' := of_decide_eq_false hb23
    refine sdc A qx hb23 λa A↦?_
    refine sdm A λa A↦?_
    iterate 4 refine qg A rfl rfl rfl λa A↦?_
    refine sdk (v := bV false) A λa A↦?_
    refine qa (hK22 _ _ (cf A ?_))
    refine wp_skip (hK21 _ _ (wsk fun K31 hK31 => wrl (sdm A λa A↦?_)))
    refine sda A λa A↦?_
    refine qa (hK31 _ _ (wr1 hret A ?_))
    have hz : hxN (l.drop (q + j)) = 0 := by first | exact hxN_not (by assumption) (by assumption) | exact hxN_end (by omega)
    have hjj : hxN (l.drop q) = j := by omega
    exact ⟨by unfold tiedN; rw [hq, hjj, if_neg (by rw [decide_eq_false (by omega), Bool.false_and]; decide)]; rfl, M.bel⟩
 ·
  have hb12' := of_decide_eq_false hb12
  refine sdc A qw hb12 λa A↦?_
  refine sdm A λa A↦?_
  iterate 6 refine qg A rfl rfl rfl λa A↦?_
  refine sdk (v := bV false) A λa A↦?_
  refine qa (hK11 _ _ (cf A ?_))
  refine wp_exit (hK6 _ _ (wsk fun K32 hK32 => wrl ?_))
  iterate 2 refine sdm A λa A↦?_
  refine sdo (v := iV (((q + j : Nat) : Int))) A (qb rfl rfl (ar_add ((in_i64 (by omega) (by omega)).trans (by omega)))) λa A↦?_
  refine sda A λa A↦?_
  refine qa (hK32 _ _ (wsk fun K33 hK33 => wsk fun K34 hK34 => wrl (sdm A λa A↦?_)))
  rcases tf (decide (0 < ((j : Nat) : Int))) with hb35 | hb35
  ·
   have hb35' := of_decide_eq_true hb35
   refine sdc A qx hb35 λa A↦?_
   iterate 3 refine sdm A λa A↦?_
   refine sdo (v := .string ((tx (l.drop (q + j))))) A (qs (s := l) (p := q + j) Tryz.underlying9 rfl rfl rfl (by omega)) λa A↦?_
   rcases tf (Lib.hasPrefix (l.drop (q + j)) [59]) with hb36 | hb36
   ·
    refine gcl A M (ef rfl rfl) ((hp_as hb36)) fun w38 hb37 M a A => ?_
    refine sdk (v := bV true) A λa A↦?_
    refine qa (hK34 _ _ (ct A ?_))
    refine wrl (sdm A λa A↦?_)
    refine sdo (v := iV (((q + j + 1 : Nat) : Int))) A (qb rfl rfl (ar_add ((in_i64 (by omega) (by omega)).trans (by omega)))) λa A↦?_
    refine sda A λa A↦?_
    refine qa (hK33 _ _ (wsk fun K39 hK39 => wrl (sdm A λa A↦?_)))
    refine sda A λa A↦?_
    refine qa (hK39 _ _ (wr1 hret A ?_))
    have hz : hxN (l.drop (q + j)) = 0 := by first | exact hxN_not (by assumption) (by assumption) | exact hxN_end (by omega)
    have hjj : hxN (l.drop q) = j := by omega
    exact ⟨by unfold tiedN; rw [hq, hjj, hb36, if_pos (by rw [decide_eq_true (by omega)]; rfl)], M.bel⟩
   ·
    refine gcl A M (ef rfl rfl) ((hp_as hb36)) fun w41 hb40 M a A => ?_
    refine sdk (v := bV false) A λa A↦?_
    refine qa (hK34 _ _ (cf A ?_))
    refine wp_skip (hK33 _ _ (wsk fun K42 hK42 => wrl (sdm A λa A↦?_)))
    refine sda A λa A↦?_
    refine qa (hK42 _ _ (wr1 hret A ?_))
    have hz : hxN (l.drop (q + j)) = 0 := by first | exact hxN_not (by assumption) (by assumption) | exact hxN_end (by omega)
    have hjj : hxN (l.drop q) = j := by omega
    exact ⟨by unfold tiedN; rw [hq, hjj, hb36, if_neg (by rw [Bool.and_false]; decide)]; rfl, M.bel⟩
  ·
   have hb35' := of_decide_eq_false hb35
   refine sdc A qx hb35 λa A↦?_
   refine sdm A λa A↦?_
   iterate 4 refine qg A rfl rfl rfl λa A↦?_
   refine sdk (v := bV false) A λa A↦?_
   refine qa (hK34 _ _ (cf A ?_))
   refine wp_skip (hK33 _ _ (wsk fun K43 hK43 => wrl (sdm A λa A↦?_)))
   refine sda A λa A↦?_
   refine qa (hK43 _ _ (wr1 hret A ?_))
   have hz : hxN (l.drop (q + j)) = 0 := by first | exact hxN_not (by assumption) (by assumption) | exact hxN_end (by omega)
   have hjj : hxN (l.drop q) = j := by omega
   exact ⟨by unfold tiedN; rw [hq, hjj, if_neg (by rw [decide_eq_false (by omega), Bool.false_and]; decide)]; rfl, M.bel⟩
end Go.Proofs.YtclkfideaameoaaGreatDoor.G
 ((delim_as (okR_dc _) hb15)) fun w17 hb16 M a A => ?_
   refine qa (hK14 _ _ (ct A ?_))
   refine wp_exit (hK3 _ _ (wsk fun K18 hK18 => wrl ?_))
   iterate 2 refine sdm A λa A↦?_
   refine sdo (v := .string ((tx (l.take n)))) A (zt (s := l) (p := n) Tryz.underlying9 rfl rfl rfl (by omega)) λa A↦?_
   refine sda A λa A↦?_
   refine qa (hK18 _ _ (wr1 hret A ?_))
   exact ⟨by rw [hn, show tokN (f + 1) (l.drop n) = 0 from tok_stop hb15, Nat.add_zero], M.bel⟩
  ·
   refine gcl A M (ef rfl rfl) ((delim_as (okR_dc _) hb15)) fun w20 hb19 M a A => ?_
   refine qa (hK14 _ _ (cf A ?_))
   refine wp_skip (hK13 _ _ (wsk fun K21 hK21 => wrl ?_))
   iterate 2 refine sdm A λa A↦?_
   refine sdo (v := iV (((n + (dcX (l.drop n)).2 : Nat) : Int))) A (qb rfl rfl (ar_add ((in_i64 (by omega) (by omega)).trans (by omega)))) λa A↦?_
   refine sda A λa A↦?_
   refine qa (hK21 _ _ (wsk fun K22 hK22 => wrl (sdm A λa A↦?_)))
   rcases tf (((((dcX (l.drop n)).1 : Nat) : Int) == 92)) with hb23 | hb23
   ·
    have hb23' := eq_of_beq hb23
    refine sdc A zf hb23 λa A↦?_
    refine qa (hK22 _ _ (ct A ?_))
    refine wrl ?_
    iterate 3 refine sdm A λa A↦?_
    refine sdo (v := .string ((tx (l.drop (n + (dcX (l.drop n)).2))))) A (qs (s := l) (p := n + (dcX (l.drop n)).2) Tryz.underlying9 rfl rfl rfl (by omega)) λa A↦?_
    have ht25 := tiedN_le (l.drop (n + (dcX (l.drop n)).2))
    rw [List.length_drop] at ht25
    refine gcl A M (ef rfl rfl) (jc (l := l.drop (n + (dcX (l.drop n)).2)) (hT.below M.bel) (by rw [List.length_drop]; omega)) fun w26 hb24 M a A => ?_
    refine sdo (v := iV (((n + (dcX (l.drop n)).2 + tiedN (l.drop (n + (dcX (l.drop n)).2)) : Nat) : Int))) A (qb rfl rfl (ar_add ((in_i64 (by omega) (by omega)).trans (by omega)))) λa A↦?_
    refine sda A λa A↦?_
    refine qa ?_
    have e7 := tok_go (f := f) hne hb15 (if_pos (eq_of_beq hb23))
    simp only [List.drop_drop] at e7
    refine hK5 _ _ _ (by omega) ⟨n + (dcX (l.drop n)).2 + tiedN (l.drop (n + (dcX (l.drop n)).2)), f, rfl, ⟨by omega, by omega, by rw [hn, e7, Nat.add_assoc n (dcX (l.drop n)).2 _]; exact (Nat.add_assoc _ _ _).symm⟩, A.keep _ ⟨rfl, rfl, rfl, trivial⟩, M⟩
   ·
    have hb23' := ne_of_beq_false hb23
    refine sdc A zf hb23 λa A↦?_
    refine qa (hK22 _ _ (cf A ?_))
    refine wp_skip ?_
    refine hK5 _ _ _ (by omega) ⟨n + (dcX (l.drop n)).2, f, rfl, ⟨by omega, by omega, by rw [hn, tok_go hne hb15 (if_neg (ne_of_beq_false hb23)), List.drop_drop, Nat.add_assoc]⟩, A.keep _ ⟨rfl, rfl, rfl, trivial⟩, M⟩
 ·
  have hb9' := of_decide_eq_false hb9
  refine sdc A qw hb9 λa A↦?_
  refine qa (hK8 _ _ (cf A ?_))
  refine wp_exit (hK3 _ _ (wsk fun K27 hK27 => wrl ?_))
  iterate 2 refine sdm A λa A↦?_
  refine sdo (v := .string ((tx (l.take n)))) A (zt (s := l) (p := n) Tryz.underlying9 rfl rfl rfl (by omega)) λa A↦?_
  refine sda A λa A↦?_
  refine qa (hK27 _ _ (wr1 hret A ?_))
  exact ⟨by rw [hn, show tokN (f + 1) (l.drop n) = 0 from (by rw [List.drop_eq_nil_of_le (by omega)]; exact tok_end _), Nat.add_zero], M.bel⟩
end Go.Proofs.YtclkfideaameoaaGreatDoor.G
neg (of_decide_eq_false hb5), if_neg (of_decide_eq_false hb8), if_pos (of_decide_eq_true hb11)]; rfl, M.bel⟩
   ·
    have hb11' := of_decide_eq_false hb11
    refine sdo (v := bV false) A (qb rfl rfl (fun w => (qe (a := l) (b := [98, 97, 99, 107, 115, 112, 97, 99, 101]) Tryz.underlying9 w).trans (by rw [hb11] <;> rfl))) λa A↦?_
    refine sda A λa A↦?_
    refine qa (hK10 _ _ (cf A ?_))
    refine wsk fun K13 hK13 => wrl ?_
    rcases tf (decide (l = [116, 97, 98])) with hb14 | hb14
    ·
     have hb14' := of_decide_eq_true hb14
     refine sdo (v := bV true) A (qb rfl rfl (fun w => (qe (a := l) (b := [116, 97, 98]) Tryz.underlying9 w).trans (by rw [hb14] <;> rfl))) λa A↦?_
     refine sda A λa A↦?_
     refine qa (hK13 _ _ (ct A ?_))
     refine wsk fun K15 hK15 => wrl ?_
     iterate 2 refine sda A λa A↦?_
     refine qa (hK15 _ _ (wp_ret (hret _ _ (en2 A rfl (qf rfl) (qf rfl) ?_))))
     exact ⟨by unfold nmdX; rw [if_neg (of_decide_eq_false hb5), if_neg (of_decide_eq_false hb8), if_neg (of_decide_eq_false hb11), if_pos (of_decide_eq_true hb14)]; rfl, M.bel⟩
    ·
     have hb14' := of_decide_eq_false hb14
     refine sdo (v := bV false) A (qb rfl rfl (fun w => (qe (a := l) (b := [116, 97, 98]) Tryz.underlying9 w).trans (by rw [hb14] <;> rfl))) λa A↦?_
     refine sda A λa A↦?_
     refine qa (hK13 _ _ (cf A ?_))
     refine wsk fun K16 hK16 => wsk fun K17 hK17 => wrl ?_
     rcases tf (decide (l = [108, 105, 110, 101, 102, 101, 101, 100])) with hb18 | hb18
     ·
      have hb18' := of_decide_eq_true hb18
      refine sdo (v := bV true) A (qb rfl rfl (fun w => (qe (a := l) (b := [108, 105, 110, 101, 102, 101, 101, 100]) Tryz.underlying9 w).trans (by rw [hb18] <;> rfl))) λa A↦?_
      refine sda A λa A↦?_
      refine qa (hK17 _ _ (ct A ?_))
      refine wp_skip (hK16 _ _ (ct A ?_))
      refine wsk fun K19 hK19 => wrl ?_
      iterate 2 refine sda A λa A↦?_
      refine qa (hK19 _ _ (wp_ret (hret _ _ (en2 A rfl (qf rfl) (qf rfl) ?_))))
      exact ⟨by unfold nmdX; rw [if_neg (of_decide_eq_false hb5), if_neg (of_decide_eq_false hb8), if_neg (of_decide_eq_false hb11), if_neg (of_decide_eq_false hb14), if_pos (of_decide_eq_true hb18)]; rfl, M.bel⟩
     ·
      have hb18' := of_decide_eq_false hb18
      refine sdo (v := bV false) A (qb rfl rfl (fun w => (qe (a := l) (b := [108, 105, 110, 101, 102, 101, 101, 100]) Tryz.underlying9 w).trans (by rw [hb18] <;> rfl))) λa A↦?_
      refine sda A λa A↦?_
      refine qa (hK17 _ _ (cf A ?_))
      refine wrl ?_
      rcases tf (decide (l = [110, 101, 119, 108, 105, 110, 101])) with hb20 | hb20
      ·
       have hb20' := of_decide_eq_true hb20
       refine sdo (v := bV true) A (qb rfl rfl (fun w => (qe (a := l) (b := [110, 101, 119, 108, 105, 110, 101]) Tryz.underlying9 w).trans (by rw [hb20] <;> rfl))) λa A↦?_
       refine sda A λa A↦?_
       refine qa (hK16 _ _ (ct A ?_))
       refine wsk fun K21 hK21 => wrl ?_
       iterate 2 refine sda A λa A↦?_
       refine qa (hK21 _ _ (wp_ret (hret _ _ (en2 A rfl (qf rfl) (qf rfl) ?_))))
       exact ⟨by unfold nmdX; rw [if_neg (of_decide_eq_false hb5), if_neg (of_decide_eq_false hb8), if_neg (of_decide_eq_false hb11), if_neg (of_decide_eq_false hb14), if_neg (of_decide_eq_false hb18), if_pos (of_decide_eq_true hb20)]; rfl, M.bel⟩
      ·
       have hb20' := of_decide_eq_false hb20
       refine sdo (v := bV false) A (qb rfl rfl (fun w => (qe (a := l) (b := [110, 101, 119, 108, 105, 110, 101]) Tryz.underlying9 w).trans (by rw [hb20] <;> rfl))) λa A↦?_
       refine sda A λa A↦?_
       refine qa (hK16 _ _ (cf A ?_))
       refine wsk fun K22 hK22 => wrl ?_
       rcases tf (decide (l = [118, 116, 97, 98])) with hb23 | hb23
       ·
        have hb23' := of_decide_eq_true hb23
        refine sdo (v := bV true) A (qb rfl rfl (fun w => (qe (a := l) (b := [118, 116, 97, 98]) Tryz.underlying9 w).trans (by rw [hb23] <;> rfl))) λa A↦?_
        refine sda A λa A↦?_
        refine qa (hK22 _ _ (ct A ?_))
        refine wsk fun K24 hK24 => wrl ?_
        iterate 2 refine sda A λa A↦?_
        refine qa (hK24 _ _ (wp_ret (hret _ _ (en2 A rfl (qf rfl) (qf rfl) ?_))))
        exact ⟨by unfold nmdX; rw [if_neg (of_decide_eq_false hb5), if_neg (of_decide_eq_false hb8), if_neg (of_decide_eq_false hb11), if_neg (of_decide_eq_false hb14), if_neg (of_decide_eq_false hb18), if_neg (of_decide_eq_false hb20), if_pos (of_decide_eq_true hb23)]; rfl, M.bel⟩
       ·
        have hb23' := of_decide_eq_false hb23
        refine sdo (v := bV false) A (qb rfl rfl (fun w => (qe (a := l) (b := [118, 116, 97, 98]) Tryz.underlying9 w).trans (by rw [hb23] <;> rfl))) λa A↦?_
        refine sda A λa A↦?_
        refine qa (hK22 _ _ (cf A ?_))
        refine wsk fun K25 hK25 => wrl ?_
        rcases tf (decide (l = [112, 97, 103, 101])) with hb26 | hb26
        ·
         have hb26' := of_decide_eq_true hb26
         refine sdo (v := bV true) A (qb rfl rfl (fun w => (qe (a := l) (b := [112, 97, 103, 101]) Tryz.underlying9 w).trans (by rw [hb26] <;> rfl))) λa A↦?_
         refine sda A λa A↦?_
         refine qa (hK25 _ _ (ct A ?_))
         refine wsk fun K27 hK27 => wrl ?_
         iterate 2 refine sda A λa A↦?_
         refine qa (hK27 _ _ (wp_ret (hret _ _ (en2 A rfl (qf rfl) (qf rfl) ?_))))
         exact ⟨by unfold nmdX; rw [if_neg (of_decide_eq_false hb5), if_neg (of_decide_eq_false hb8), if_neg (of_decide_eq_false hb11), if_neg (of_decide_eq_false hb14), if_neg (of_decide_eq_false hb18), if_neg (of_decide_eq_false hb20), if_neg (of_decide_eq_false hb23), if_pos (of_decide_eq_true hb26)]; rfl, M.bel⟩
        ·
         have hb26' := of_decide_eq_false hb26
         refine sdo (v := bV false) A (qb rfl rfl (fun w => (qe (a := l) (b := [112, 97, 103, 101]) Tryz.underlying9 w).trans (by rw [hb26] <;> rfl))) λa A↦?_
         refine sda A λa A↦?_
         refine qa (hK25 _ _ (cf A ?_))
         refine wsk fun K28 hK28 => wrl ?_
         rcases tf (decide (l = [114, 101, 116, 117, 114, 110])) with hb29 | hb29
         ·
          have hb29' := of_decide_eq_true hb29
          refine sdo (v := bV true) A (qb rfl rfl (fun w => (qe (a := l) (b := [114, 101, 116, 117, 114, 110]) Tryz.underlying9 w).trans (by rw [hb29] <;> rfl))) λa A↦?_
          refine sda A λa A↦?_
          refine qa (hK28 _ _ (ct A ?_))
          refine wsk fun K30 hK30 => wrl ?_
          iterate 2 refine sda A λa A↦?_
          refine qa (hK30 _ _ (wp_ret (hret _ _ (en2 A rfl (qf rfl) (qf rfl) ?_))))
          exact ⟨by unfold nmdX; rw [if_neg (of_decide_eq_false hb5), if_neg (of_decide_eq_false hb8), if_neg (of_decide_eq_false hb11), if_neg (of_decide_eq_false hb14), if_neg (of_decide_eq_false hb18), if_neg (of_decide_eq_false hb20), if_neg (of_decide_eq_false hb23), if_neg (of_decide_eq_false hb26), if_pos (of_decide_eq_true hb29)]; rfl, M.bel⟩
         ·
          have hb29' := of_decide_eq_false hb29
          refine sdo (v := bV false) A (qb rfl rfl (fun w => (qe (a := l) (b := [114, 101, 116, 117, 114, 110]) Tryz.underlying9 w).trans (by rw [hb29] <;> rfl))) λa A↦?_
          refine sda A λa A↦?_
          refine qa (hK28 _ _ (cf A ?_))
          refine wsk fun K31 hK31 => wrl ?_
          rcases tf (decide (l = [101, 115, 99])) with hb32 | hb32
          ·
           have hb32' := of_decide_eq_true hb32
           refine sdo (v := bV true) A (qb rfl rfl (fun w => (qe (a := l) (b := [101, 115, 99]) Tryz.underlying9 w).trans (by rw [hb32] <;> rfl))) λa A↦?_
           refine sda A λa A↦?_
           refine qa (hK31 _ _ (ct A ?_))
           refine wsk fun K33 hK33 => wrl ?_
           iterate 2 refine sda A λa A↦?_
           refine qa (hK33 _ _ (wp_ret (hret _ _ (en2 A rfl (qf rfl) (qf rfl) ?_))))
           exact ⟨by unfold nmdX; rw [if_neg (of_decide_eq_false hb5), if_neg (of_decide_eq_false hb8), if_neg (of_decide_eq_false hb11), if_neg (of_decide_eq_false hb14), if_neg (of_decide_eq_false hb18), if_neg (of_decide_eq_false hb20), if_neg (of_decide_eq_false hb23), if_neg (of_decide_eq_false hb26), if_neg (of_decide_eq_false hb29), if_pos (of_decide_eq_true hb32)]; rfl, M.bel⟩
          ·
           have hb32' := of_decide_eq_false hb32
           refine sdo (v := bV false) A (qb rfl rfl (fun w => (qe (a := l) (b := [101, 115, 99]) Tryz.underlying9 w).trans (by rw [hb32] <;> rfl))) λa A↦?_
           refine sda A λa A↦?_
           refine qa (hK31 _ _ (cf A ?_))
           refine wsk fun K34 hK34 => wrl ?_
           rcases tf (decide (l = [115, 112, 97, 99, 101])) with hb35 | hb35
           ·
            have hb35' := of_decide_eq_true hb35
            refine sdo (v := bV true) A (qb rfl rfl (fun w => (qe (a := l) (b := [115, 112, 97, 99, 101]) Tryz.underlying9 w).trans (by rw [hb35] <;> rfl))) λa A↦?_
            refine sda A λa A↦?_
            refine qa (hK34 _ _ (ct A ?_))
            refine wsk fun K36 hK36 => wrl ?_
            iterate 2 refine sda A λa A↦?_
            refine qa (hK36 _ _ (wp_ret (hret _ _ (en2 A rfl (qf rfl) (qf rfl) ?_))))
            exact ⟨by unfold nmdX; rw [if_neg (of_decide_eq_false hb5), if_neg (of_decide_eq_false hb8), if_neg (of_decide_eq_false hb11), if_neg (of_decide_eq_false hb14), if_neg (of_decide_eq_false hb18), if_neg (of_decide_eq_false hb20), if_neg (of_decide_eq_false hb23), if_neg (of_decide_eq_false hb26), if_neg (of_decide_eq_false hb29), if_neg (of_decide_eq_false hb32), if_pos (of_decide_eq_true hb35)]; rfl, M.bel⟩
           ·
            have hb35' := of_decide_eq_false hb35
            refine sdo (v := bV false) A (qb rfl rfl (fun w => (qe (a := l) (b := [115, 112, 97, 99, 101]) Tryz.underlying9 w).trans (by rw [hb35] <;> rfl))) λa A↦?_
            refine sda A λa A↦?_
            refine qa (hK34 _ _ (cf A ?_))
            refine wsk fun K37 hK37 => wrl ?_
            rcases tf (decide (l = [100, 101, 108, 101, 116, 101])) with hb38 | hb38
            ·
             have hb38' := of_decide_eq_true hb38
             refine sdo (v := bV true) A (qb rfl rfl (fun w => (qe (a := l) (b := [100, 101, 108, 101, 116, 101]) Tryz.underlying9 w).trans (by rw [hb38] <;> rfl))) λa A↦?_
             refine sda A λa A↦?_
             refine qa (hK37 _ _ (ct A ?_))
             refine wsk fun K39 hK39 => wrl ?_
             iterate 2 refine sda A λa A↦?_
             refine qa (hK39 _ _ (wp_ret (hret _ _ (en2 A rfl (qf rfl) (qf rfl) ?_))))
             exact ⟨by unfold nmdX; rw [if_neg (of_decide_eq_false hb5), if_neg (of_decide_eq_false hb8), if_neg (of_decide_eq_false hb11), if_neg (of_decide_eq_false hb14), if_neg (of_decide_eq_false hb18), if_neg (of_decide_eq_false hb20), if_neg (of_decide_eq_false hb23), if_neg (of_decide_eq_false hb26), if_neg (of_decide_eq_false hb29), if_neg (of_decide_eq_false hb32), if_neg (of_decide_eq_false hb35), if_pos (of_decide_eq_true hb38)]; rfl, M.bel⟩
            ·
             have hb38' := of_decide_eq_false hb38
             refine sdo (v := bV false) A (qb rfl rfl (fun w => (qe (a := l) (b := [100, 101, 108, 101, 116, 101]) Tryz.underlying9 w).trans (by rw [hb38] <;> rfl))) λa A↦?_
             refine sda A λa A↦?_
             refine qa (hK37 _ _ (cf A ?_))
             refine wp_skip (hK2 _ _ (wsk fun K40 hK40 => wrl ?_))
             iterate 2 refine sda A λa A↦?_
             refine qa (hK40 _ _ (wp_ret (hret _ _ (en2 A rfl (qf rfl) (qf rfl) ?_))))
             exact ⟨by unfold nmdX; rw [if_neg (of_decide_eq_false hb5), if_neg (of_decide_eq_false hb8), if_neg (of_decide_eq_false hb11), if_neg (of_decide_eq_false hb14), if_neg (of_decide_eq_false hb18), if_neg (of_decide_eq_false hb20), if_neg (of_decide_eq_false hb23), if_neg (of_decide_eq_false hb26), if_neg (of_decide_eq_false hb29), if_neg (of_decide_eq_false hb32), if_neg (of_decide_eq_false hb35), if_neg (of_decide_eq_false hb38)]; rfl, M.bel⟩
theorem js {w0 w : World} {g p : Nat} {lg : Bool} {L : List UInt8} {T : List Ck} (hT : Tb w0) (hp : p ≤ L.length) (hl : L.length ≤ 1000000000) (hd0 : dotB (L.drop p) = true) (hM0 : Mg w0 w (.obj g (rC L p lg) :: T)) : Calls Tryz.prog 55 #[pA g 0] w fun e w' => e = .returned (bV true) ∧ Mg w0 w' (.obj g (rC L (p + 1) lg) :: T) := by
 have hd : decide ((L.drop p).take (tokN ((L.drop p).length + 1) (L.drop p)) = [46]) = true := hd0
 have hpf := dot_pre (of_decide_eq_true hd)
 have M : Mg w0 w (.obj g (rC L p lg) :: T) := hM0
 refine qr (l := [(0, pA g 0)]) Tryz.func55 rfl Tryz.ntmps55 rfl rfl ?_
 intro Q hret hnorm hP a A
 refine wsk fun K1 hK1 => wrl (sda A λa A↦?_)
 refine qa (hK1 _ _ (wsk fun K2 hK2 => wrl (sdm A λa A↦?_)))
 refine sct A (ef rfl rfl) (qz (p := p) (L := L) (T := (T)) (by omega) M) ?_
 rintro _ w4 ⟨rfl, hM3⟩
 replace M : Mg w0 w4 (.obj g (rC L p lg) :: T) := hM3
 refine ⟨_, rfl, ?_⟩
 intro a A
 refine gcl A M (ef rfl rfl) (token_any (l := L.drop p) (hT.below M.bel) (by rw [List.length_drop]; omega)) fun w6 hb5 M a A => ?_
 refine sdo (v := bV true) A (qb rfl rfl (fun w => (qe (a := (L.drop p).take (tokN ((L.drop p).length + 1) (L.drop p))) (b := [46]) Tryz.underlying9 w).trans (by rw [hd] <;> rfl))) λa A↦?_
 iterate 2 refine sdm A λa A↦?_
 have htl9 : 1 ≤ (L.drop p).length := (List.isPrefixOf_iff_prefix.1 hpf).length_le
 rw [List.length_drop] at htl9
 refine sct A (ef rfl rfl) (take_y (p := p) (L := L) (T := (T)) (by omega) (by omega) hpf M) ?_
 rintro _ w10 ⟨rfl, hM8⟩
 replace M : Mg w0 w10 (.obj g (rC L (p + 1) lg) :: T) := hM8
 refine ⟨_, rfl, ?_⟩
 intro a A
 refine sdk (v := bV true) A λa A↦?_
 refine sda A λa A↦?_
 refine qa (hK2 _ _ (wr1 hret A ?_))
 exact ⟨rfl, M⟩
theorem jt {w0 w : World} {g p : Nat} {lg : Bool} {L : List UInt8} {T : List Ck} (hT : Tb w0) (hp : p ≤ L.length) (hl : L.length ≤ 1000000000) (hd0 : dotB (L.drop p) = false) (hM0 : Mg w0 w (.obj g (rC L p lg) :: T)) : Calls Tryz.prog 55 #[pA g 0] w fun e w' => e = .returned (bV false) ∧ Mg w0 w' (.obj g (rC L p lg) :: T) := by
 have hd : decide ((L.drop p).take (tokN ((L.drop p).length + 1) (L.drop p)) = [46]) = false := hd0
 
 have M : Mg w0 w (.obj g (rC L p lg) :: T) := hM0
 refine qr (l := [(0, pA g 0)]) Tryz.func55 rfl Tryz.ntmps55 rfl rfl ?_
 intro Q hret hnorm hP a A
 refine wsk fun K1 hK1 => wrl (sda A λa A↦?_)
 refine qa (hK1 _ _ (wsk fun K2 hK2 => wrl (sdm A λa A↦?_)))
 refine sct A (ef rfl rfl) (qz (p := p) (L := L) (T := (T)) (by omega) M) ?_
 rintro _ w4 ⟨rfl, hM3⟩
 replace M : Mg w0 w4 (.obj g (rC L p lg) :: T) := hM3
 refine ⟨_, rfl, ?_⟩
 intro a A
 refine gcl A M (ef rfl rfl) (token_any (l := L.drop p) (hT.below M.bel) (by rw [List.length_drop]; omega)) fun w6 hb5 M a A => ?_
 refine sdo (v := bV false) A (qb rfl rfl (fun w => (qe (a := (L.drop p).take (tokN ((L.drop p).length + 1) (L.drop p))) (b := [46]) Tryz.underlying9 w).trans (by rw [hd] <;> rfl))) λa A↦?_
 refine sdm A λa A↦?_
 iterate 2 refine qg A rfl rfl rfl λa A↦?_
 refine sdk (v := bV false) A λa A↦?_
 refine sda A λa A↦?_
 refine qa (hK2 _ _ (wr1 hret A ?_))
 exact ⟨rfl, M⟩
end Go.Proofs.YtclkfideaameoaaGreatDoor.G
:= by
 have M : Mg w w ([]) := Mg.start w
 refine qr (l := [(0, iV 5)]) Tryz.func106 rfl Tryz.ntmps106 rfl rfl ?_
 intro Q hret hnorm hP a A
 refine wsk fun K1 hK1 => wrl (sda A λa A↦?_)
 refine qa (hK1 _ _ (wsk fun K2 hK2 => wrl (sdm A λa A↦?_)))
 refine sdo (v := iV 21) A (qb rfl rfl (ar_add rfl)) λa A↦?_
 refine sdo (v := iV 2) A (qb rfl rfl (ar_quo (by decide) (by decide))) λa A↦?_
 refine sda A λa A↦?_
 refine qa (hK2 _ _ (wr1 hret A ?_))
 exact ⟨rfl, M.bel⟩
theorem jw {w : World} : Calls Tryz.prog 106 #[iV 6] w fun e w' => e = .returned (iV 2) ∧ Below w.heap.size w w' := by
 have M : Mg w w ([]) := Mg.start w
 refine qr (l := [(0, iV 6)]) Tryz.func106 rfl Tryz.ntmps106 rfl rfl ?_
 intro Q hret hnorm hP a A
 refine wsk fun K1 hK1 => wrl (sda A λa A↦?_)
 refine qa (hK1 _ _ (wsk fun K2 hK2 => wrl (sdm A λa A↦?_)))
 refine sdo (v := iV 22) A (qb rfl rfl (ar_add rfl)) λa A↦?_
 refine sdo (v := iV 2) A (qb rfl rfl (ar_quo (by decide) (by decide))) λa A↦?_
 refine sda A λa A↦?_
 refine qa (hK2 _ _ (wr1 hret A ?_))
 exact ⟨rfl, M.bel⟩
theorem jx {w : World} : Calls Tryz.prog 106 #[iV 7] w fun e w' => e = .returned (iV 2) ∧ Below w.heap.size w w' := by
 have M : Mg w w ([]) := Mg.start w
 refine qr (l := [(0, iV 7)]) Tryz.func106 rfl Tryz.ntmps106 rfl rfl ?_
 intro Q hret hnorm hP a A
 refine wsk fun K1 hK1 => wrl (sda A λa A↦?_)
 refine qa (hK1 _ _ (wsk fun K2 hK2 => wrl (sdm A λa A↦?_)))
 refine sdo (v := iV 23) A (qb rfl rfl (ar_add rfl)) λa A↦?_
 refine sdo (v := iV 2) A (qb rfl rfl (ar_quo (by decide) (by decide))) λa A↦?_
 refine sda A λa A↦?_
 refine qa (hK2 _ _ (wr1 hret A ?_))
 exact ⟨rfl, M.bel⟩
def s7 : List UInt8 := [10, 13, 194, 133, 226, 128, 168]
theorem zk : s7.length = 7 := rfl
theorem jy {i k : Nat} (h1 : i < k) (h2 : k < 7) : s7.getD i 0 ≠ s7.getD k 0 := by
 have h : ∀ i k : Fin 7, i < k → s7.getD i 0 ≠ s7.getD k 0 := by decide
 exact h ⟨i, by omega⟩ ⟨k, h2⟩ h1
theorem zi {l : List UInt8} {i : Nat} (h : i < l.length) : l[i]? = some (l.getD i 0) := by
 rw [List.getD_eq_getElem?_getD, List.getElem?_eq_getElem h]; rfl
theorem zl {a b : UInt8} (h : ((a.toNat : Nat) : Int) = ((b.toNat : Nat) : Int)) : a = b := UInt8.toNat_inj.1 (by omega)
def atS (B : List UInt8) (k : Nat) : Prop := B.length - 1 ≤ k ∧ k < 7 ∧ ∀ t, t < B.length → s7.getD (k - t) 0 = B.getD (B.length - 1 - t) 0
theorem jz {B : List UInt8} {i : Nat} (hB : 2 ≤ B.length) (h : Lib.indexByte (s7.drop (i + 1)) (B.getD (B.length - 1) 0) = -1) (hn : s7.getD i 0 ≠ B.getD (B.length - 1) 0) (hlt : ∀ k, k < i → ¬ atS B k) : ∀ k, ¬ atS B k := fun k hk => by
 have h0 : s7.getD k 0 = B.getD (B.length - 1) 0 := hk.2.2 0 (by omega)
 have hk7 := hk.2.1
 by_cases h1 : k < i
 ·
  exact hlt k h1 hk
 by_cases h2 : k = i
 ·
  subst h2; exact hn h0
 refine Lib.indexByte_none h (k - (i + 1)) ?_
 rw [List.getElem?_drop, show i + 1 + (k - (i + 1)) = k by omega, zi (by rw [zk]; exact hk7), h0]
theorem jd {B : List UInt8} {i o : Nat} (hB : 2 ≤ B.length) (h : Lib.indexByte (s7.drop (i + 1)) (B.getD (B.length - 1) 0) = ((o : Nat) : Int)) (hn : s7.getD i 0 ≠ B.getD (B.length - 1) 0) (hlt : ∀ k, k < i → ¬ atS B k) : i + o + 1 < 7 ∧ s7.getD (i + o + 1) 0 = B.getD (B.length - 1) 0 ∧ ∀ k, k < i + o + 1 → ¬ atS B k := by
 obtain ⟨h1, h2⟩ := Lib.indexByte_some h
 rw [List.getElem?_drop, show i + 1 + o = i + o + 1 by omega] at h1
 obtain ⟨h3, h4⟩ := List.getElem?_eq_some_iff.1 h1
 rw [zk] at h3
 have h5 := h1
 rw [zi (by rw [zk]; exact h3)] at h5
 refine ⟨h3, Option.some.inj h5, fun k hk hs => ?_⟩
 have h0 : s7.getD k 0 = B.getD (B.length - 1) 0 := hs.2.2 0 (by omega)
 by_cases h6 : k < i
 ·
  exact hlt k h6 hs
 by_cases h7 : k = i
 ·
  subst h7; exact hn h0
 refine h2 (k - (i + 1)) (by omega) ?_
 rw [List.getElem?_drop, show i + 1 + (k - (i + 1)) = k by omega, zi (by rw [zk]; omega), h0]
theorem jj {w : World} {i : Nat} (h1 : 1 ≤ i) (h : i ≤ 7) : Calls Tryz.prog 106 #[iV ((i : Nat) : Int)] w fun e w' => e = .returned (iV 2) ∧ Below w.heap.size w w' := by
 match i, h1, h with
 | 1, _, _ => exact cut_1
 | 2, _, _ => exact cut_2
 | 3, _, _ => exact cut_3
 | 4, _, _ => exact cut_4
 | 5, _, _ => exact cut_5
 | 6, _, _ => exact jw
 | 7, _, _ => exact jx
theorem jk {w : World} {r : Int} {B : List UInt8} (h2 : 2 ≤ B.length) (h4 : B.length ≤ 4) (h0 : 128 ≤ r) (hne : r ≠ 65533) (hv : Lib.validRune r = true) (henc : Utf8.encode r = tx B) : Calls Tryz.prog 71 #[.string (tx s7), .int .i32 r] w fun e w' => ∃ v : Int, e = .returned (iV v) ∧ (0 ≤ v ∧ (∃ k, atS B k) ∨ v < 0 ∧ ∀ k, ¬ atS B k) ∧ Below w.heap.size w w' := by
 have hs7 := zk
 have M : Mg w w ([]) := Mg.start w
 refine qr (l := [(0, .string ((tx s7))), (1, .int .i32 r)]) Tryz.func71 rfl Tryz.ntmps71 rfl rfl ?_
 intro Q hret hnorm hP a A
 refine wsk fun K1 hK1 => wrl (sda A λa A↦?_)
 refine qa (hK1 _ _ (wp_block (wsk fun K2 hK2 => wrl (sdm A λa A↦?_))))
 refine sdo (v := bV true) A (qb rfl rfl (fun w => (ql w).trans (by rw [show (decide (0 ≤ r)) = true from (decide_eq_true (by omega))]))) λa A↦?_
 iterate 2 refine sdm A λa A↦?_
 refine sdo (v := bV false) A (qb rfl rfl (fun w => (qw w).trans (by rw [show (decide (r < 128)) = false from (decide_eq_false (by omega))]))) λa A↦?_
 refine sdk (v := bV false) A λa A↦?_
 refine sda A λa A↦?_
 refine qa (hK2 _ _ (cf A ?_))
 refine wsk fun K3 hK3 => wrl (sdm A λa A↦?_)
 refine sdo (v := bV false) A (qb rfl rfl (fun w => (zf w).trans (by rw [show ((r == 65533)) = false from (beq_eq_false_iff_ne.2 (by omega))]))) λa A↦?_
 refine sda A λa A↦?_
 refine qa (hK3 _ _ (cf A ?_))
 refine wsk fun K4 hK4 => wrl (sdm A λa A↦?_)
 refine gcl A M (ef rfl rfl) (vr_as hv) fun w6 hb5 M a A => ?_
 refine sdo (v := bV false) A (zn rfl zs) λa A↦?_
 refine sda A λa A↦?_
 refine qa (hK4 _ _ (cf A ?_))
 refine zp 1 rfl ?_
 refine wsk fun K7 hK7 => wrl (sdm A λa A↦?_)
 refine sdo (v := .string ((tx B))) A (jh rfl (fun w => (run_convert_int_string w _ _ .i32 r (by kernel_rfl) Tryz.underlying9).trans (by rw [henc]))) λa A↦?_
 refine sda A λa A↦?_
 refine qa (hK7 _ _ (wsk fun K8 hK8 => wrl (sdm A λa A↦?_)))
 refine sdo (v := iV (((B.length : Nat) : Int))) A (zh (s := B) Tryz.underlying9 rfl) λa A↦?_
 refine sdo (v := iV (((B.length - 1 : Nat) : Int))) A (qb rfl rfl (ar_sub ((in_i64 (by omega) (by omega)).trans (by omega)))) λa A↦?_
 refine sda A λa A↦?_
 refine qa (hK8 _ _ (wsk fun K9 hK9 => wrl (sdm A λa A↦?_)))
 refine sda A λa A↦?_
 refine qa (hK9 _ _ (wsk fun K10 hK10 => wrl (sda A λa A↦?_)))
 refine qa (hK10 _ _ (wsk fun K11 hK11 => wp_block (zm (fun m_ a w1 => ∃ (i : Nat) (f : Nat), m_ = 8 - i ∧ (B.length - 1 ≤ i ∧ i ≤ 7 ∧ (∀ k, k < i → ¬ atS B k) ∧ (f = 0 ∨ f = 1 ∧ ∀ k, i ≤ k → k < 7 → s7.getD k 0 ≠ B.getD (B.length - 1) 0)) ∧ Sl a 187 [(0, .string ((tx s7))), (1, .int .i32 r), (7, .string ((tx B))), (8, iV (((B.length - 1 : Nat) : Int))), (9, iV (((i : Nat) : Int))), (10, iV (((f : Nat) : Int))), (17, .int .i32 r), (18, .string ((tx B))), (19, .string ((tx B))), (20, iV (((B.length : Nat) : Int))), (21, iV (((B.length - 1 : Nat) : Int))), (22, iV (((B.length - 1 : Nat) : Int))), (160, bV false), (161, .int .i32 r), (162, bV true), (163, bV true), (164, .int .i32 r), (165, bV false), (166, bV false), (171, bV false), (172, .int .i32 r), (173, bV false), (183, bV false), (184, .int .i32 r), (185, bV true), (186, bV false)] ∧ Mg w w1 ([])) _ ⟨B.length - 1, 0, rfl, ⟨Nat.le_refl _, by omega, fun k hk hs => absurd hs.1 (by omega), .inl rfl⟩, A.keep _ (by repeat' constructor), M⟩ ?_)))
 clear M A
 rintro m_ a w12 ⟨i, f, rfl, hinv14, A, M⟩ K13 hK13
 obtain ⟨hi1, hi2, hi3, hi4⟩ := hinv14
 refine wsk fun K15 hK15 => wsk fun K16 hK16 => wrl ?_
 iterate 2 refine sdm A λa A↦?_
 refine sdo (v := iV (((s7.length : Nat) : Int))) A (zh (s := s7) Tryz.underlying9 rfl) λa A↦?_
 rcases tf (decide (((i : Nat) : Int) < ((s7.length : Nat) : Int))) with hb17 | hb17
 ·
  have hb17' := of_decide_eq_true hb17
  refine sdc A qw hb17 λa A↦?_
  refine qa (hK16 _ _ (ct A ?_))
  refine wp_skip (hK15 _ _ (wp_block (zp 0 rfl ?_)))
  refine wsk fun K18 hK18 => ?_
  have hJ19 : ∀ a w1, (∃ (q : Nat), (B.length - 1 ≤ q ∧ i ≤ q ∧ q < 7 ∧ s7.getD q 0 = B.getD (B.length - 1) 0 ∧ (∀ k, k < q → ¬ atS B k) ∧ f = 0) ∧ Sl a 187 [(0, .string ((tx s7))), (1, .int .i32 r), (7, .string ((tx B))), (8, iV (((B.length - 1 : Nat) : Int))), (9, iV (((q : Nat) : Int))), (10, iV (((f : Nat) : Int))), (17, .int .i32 r), (18, .string ((tx B))), (19, .string ((tx B))), (20, iV (((B.length : Nat) : Int))), (21, iV (((B.length - 1 : Nat) : Int))), (22, iV (((B.length - 1 : Nat) : Int))), (23, iV (((i : Nat) : Int))), (24, .string ((tx s7))), (25, iV (((s7.length : Nat) : Int))), (26, bV true), (160, bV false), (161, .int .i32 r), (162, bV true), (163, bV true), (164, .int .i32 r), (165, bV false), (166, bV false), (171, bV false), (172, .int .i32 r), (173, bV false), (183, bV false), (184, .int .i32 r), (185, bV true), (186, bV false)] ∧ Mg w w1 ([])) → K18 a w1 := by
   clear A M
   rintro a w20 ⟨q, hf21, A, M⟩
   obtain ⟨hq1, hqi, hq2, hq3, hq4, hf0⟩ := hf21
   refine hK18 _ _ (wsk fun K22 hK22 => wsk fun K23 hK23 => wrl (sda A λa A↦?_))
   refine qa (hK23 _ _ (wp_block (zm (fun m_ a w1 => ∃ (j : Nat), m_ = B.length - j ∧ (1 ≤ j ∧ j ≤ B.length ∧ ∀ t, t < j → s7.getD (q - t) 0 = B.getD (B.length - 1 - t) 0) ∧ Sl a 187 [(0, .string ((tx s7))), (1, .int .i32 r), (7, .string ((tx B))), (8, iV (((B.length - 1 : Nat) : Int))), (9, iV (((q : Nat) : Int))), (10, iV (((f : Nat) : Int))), (12, iV (((j : Nat) : Int))), (17, .int .i32 r), (18, .string ((tx B))), (19, .string ((tx B))), (20, iV (((B.length : Nat) : Int))), (21, iV (((B.length - 1 : Nat) : Int))), (22, iV (((B.length - 1 : Nat) : Int))), (23, iV (((i : Nat) : Int))), (24, .string ((tx s7))), (25, iV (((s7.length : Nat) : Int))), (26, bV true), (160, bV false), (161, .int .i32 r), (162, bV true), (163, bV true), (164, .int .i32 r), (165, bV false), (166, bV false), (171, bV false), (172, .int .i32 r), (173, bV false), (183, bV false), (184, .int .i32 r), (185, bV true), (186, bV false)] ∧ Mg w w1 ([])) _ ⟨1, rfl, ⟨Nat.le_refl _, by omega, fun t ht => by rw [show t = 0 by omega]; exact hq3⟩, A.keep _ (by repeat' constructor), M⟩ ?_)))
   clear M A
   rintro m_ a w24 ⟨j, rfl, hinv26, A, M⟩ K25 hK25
   obtain ⟨hj1, hj2, hj3⟩ := hinv26
   refine wsk fun K27 hK27 => wsk fun K28 hK28 => wrl ?_
   iterate 2 refine sdm A λa A↦?_
   refine sdo (v := iV (((B.length : Nat) : Int))) A (zh (s := B) Tryz.underlying9 rfl) λa A↦?_
   rcases tf (decide (((j : Nat) : Int) < ((B.length : Nat) : Int))) with hb29 | hb29
   ·
    have hb29' := of_decide_eq_true hb29
    refine sdc A qw hb29 λa A↦?_
    refine qa (hK28 _ _ (ct A ?_))
    refine wp_skip (hK27 _ _ (wsk fun K30 hK30 => wp_block (wsk fun K31 hK31 => zj (S := fun w1 => Mg w w1 ([])) (by kernel_rfl) ?_)))
    replace M := M.drew
    refine amv A 0 rfl hP (M.sub ns) λa A↦?_
    refine amv A 1 rfl hP (M.sub ns) λa A↦?_
    refine amv A 2 rfl hP (M.sub ns) λa A↦?_
    refine atk (v := iV (((q - j : Nat) : Int))) A 3 rfl hP (M.sub ns) (λ_ M↦qb rfl rfl (ar_sub ((in_i64 (by omega) (by omega)).trans (by omega)))) λa A↦?_
    refine atk (v := .int .u8 ((((s7.getD (q - j) 0).toNat : Nat) : Int))) A 4 rfl hP (M.sub ns) (λ_ M↦zb (s := s7) (i := q - j) (b := s7.getD (q - j) 0) Tryz.underlying9 rfl rfl rfl (zi (by omega))) λa A↦?_
    refine amv A 5 rfl hP (M.sub ns) λa A↦?_
    refine amv A 6 rfl hP (M.sub ns) λa A↦?_
    refine amv A 7 rfl hP (M.sub ns) λa A↦?_
    refine atk (v := iV (((B.length - 1 - j : Nat) : Int))) A 8 rfl hP (M.sub ns) (λ_ M↦qb rfl rfl (ar_sub ((in_i64 (by omega) (by omega)).trans (by omega)))) λa A↦?_
    refine atk (v := .int .u8 ((((B.getD (B.length - 1 - j) 0).toNat : Nat) : Int))) A 9 rfl hP (M.sub ns) (λ_ M↦zb (s := B) (i := B.length - 1 - j) (b := B.getD (B.length - 1 - j) 0) Tryz.underlying9 rfl rfl rfl (zi (by omega))) λa A↦?_
    rcases tf (((((s7.getD (q - j) 0).toNat : Nat) : Int) != (((B.getD (B.length - 1 - j) 0).toNat : Nat) : Int))) with hb32 | hb32
    ·
     have hb32' := bne_iff_ne.1 hb32
     refine atk (v := bV true) A 10 rfl hP (M.sub ns) (λ_ M↦qb rfl rfl (fun w => (za w).trans (by rw [hb32]))) λa A↦?_
     refine qy (by kernel_rfl) ?_
     refine hK31 _ _ (ct A ?_)
     refine wp_goto (And.intro rfl ?_)
     refine wsk fun K33 hK33 => wp_skip (hK33 _ _ (wsk fun K34 hK34 => wrl (sdm A λa A↦?_)))
     refine sdo (v := iV (((f + 1 : Nat) : Int))) A (qb rfl rfl (ar_add ((in_i64 (by omega) (by omega)).trans (by omega)))) λa A↦?_
     refine sda A λa A↦?_
     refine qa (hK34 _ _ (wsk fun K35 hK35 => wrl (sdm A λa A↦?_)))
     refine sdo (v := iV (((q + 1 : Nat) : Int))) A (qb rfl rfl (ar_add ((in_i64 (by omega) (by omega)).trans (by omega)))) λa A↦?_
     refine sda A λa A↦?_
     refine qa (hK35 _ _ (wsk fun K36 hK36 => wrl ?_))
     iterate 3 refine sdm A λa A↦?_
     refine gcl A M (ef rfl rfl) (jj (by omega) (by omega)) fun w38 hb37 M a A => ?_
     refine sdo (v := bV false) A (qb rfl rfl (fun w => (qx w).trans (by rw [show (decide (2 < ((f + 1 : Nat) : Int))) = false from (decide_eq_false (by omega))]))) λa A↦?_
     refine sdk (v := bV false) A λa A↦?_
     refine sdm A λa A↦?_
     iterate 4 refine qg A rfl rfl rfl λa A↦?_
     refine sdk (v := bV false) A λa A↦?_
     iterate 2 refine sdm A λa A↦?_
     iterate 5 refine qg A rfl rfl rfl λa A↦?_
     refine sdk (v := bV false) A λa A↦?_
     refine sdm A λa A↦?_
     iterate 4 refine qg A rfl rfl rfl λa A↦?_
     iterate 2 refine sdk (v := bV false) A λa A↦?_
     refine qa (hK36 _ _ (cf A ?_))
     refine wp_skip ?_
     refine hK13 _ _ _ (by omega) ⟨q + 1, f + 1, rfl, ⟨by omega, by omega, fun k hk hs => by by_cases h9 : k < q; exact hq4 k h9 hs; rw [show k = q by omega] at hs; exact bne_iff_ne.1 hb32 (by rw [hs.2.2 j (by omega)]), .inr ⟨by omega, fun k h8 h9 k9 => jy (i := q) (k := k) (by omega) h9 (hq3.trans k9.symm)⟩⟩, A.keep _ (by repeat' constructor), M⟩
    ·
     have hb32' := bne_eq_false_iff_eq.1 hb32
     refine atk (v := bV false) A 10 rfl hP (M.sub ns) (λ_ M↦qb rfl rfl (fun w => (za w).trans (by rw [hb32]))) λa A↦?_
     refine qy (by kernel_rfl) ?_
     refine hK31 _ _ (cf A ?_)
     refine wp_skip (hK30 _ _ (wrl (sdm A λa A↦?_)))
     refine sdo (v := iV (((j + 1 : Nat) : Int))) A (qb rfl rfl (ar_add ((in_i64 (by omega) (by omega)).trans (by omega)))) λa A↦?_
     refine sda A λa A↦?_
     refine qa ?_
     refine hK25 _ _ _ (by omega) ⟨j + 1, rfl, ⟨by omega, by omega, fun t ht => by by_cases h9 : t < j; exact hj3 t h9; rw [show t = j by omega]; exact zl (by simpa using hb32)⟩, A.keep _ (by repeat' constructor), M⟩
   ·
    have hb29' := of_decide_eq_false hb29
    refine sdc A qw hb29 λa A↦?_
    refine qa (hK28 _ _ (cf A ?_))
    refine wp_exit (hK22 _ _ (wsk fun K39 hK39 => wsk fun K40 hK40 => wrl ?_))
    iterate 2 refine sdm A λa A↦?_
    refine sdo (v := iV (((q - (B.length - 1) : Nat) : Int))) A (qb rfl rfl (ar_sub ((in_i64 (by omega) (by omega)).trans (by omega)))) λa A↦?_
    refine sda A λa A↦?_
    refine qa (hK40 _ _ (wr1 hret A ?_))
    exact ⟨_, rfl, .inl ⟨by omega, q, hq1, hq2, fun t ht => hj3 t (by have h9 := of_decide_eq_false hb29; omega)⟩, M.bel⟩
  refine wsk fun K41 hK41 => zj (S := fun w1 => Mg w w1 ([])) (by kernel_rfl) ?_
  replace M := M.drew
  refine amv A 0 rfl hP (M.sub ns) λa A↦?_
  refine amv A 1 rfl hP (M.sub ns) λa A↦?_
  refine atk (v := .int .u8 ((((s7.getD i 0).toNat : Nat) : Int))) A 2 rfl hP (M.sub ns) (λ_ M↦zb (s := s7) (i := i) (b := s7.getD i 0) Tryz.underlying9 rfl rfl rfl (zi (by omega))) λa A↦?_
  refine amv A 3 rfl hP (M.sub ns) λa A↦?_
  refine amv A 4 rfl hP (M.sub ns) λa A↦?_
  refine atk (v := .int .u8 ((((B.getD (B.length - 1) 0).toNat : Nat) : Int))) A 5 rfl hP (M.sub ns) (λ_ M↦zb (s := B) (i := B.length - 1) (b := B.getD (B.length - 1) 0) Tryz.underlying9 rfl rfl rfl (zi (by omega))) λa A↦?_
  rcases tf (((((s7.getD i 0).toNat : Nat) : Int) != (((B.getD (B.length - 1) 0).toNat : Nat) : Int))) with hb42 | hb42
  ·
   have hb42' := bne_iff_ne.1 hb42
   refine atk (v := bV true) A 6 rfl hP (M.sub ns) (λ_ M↦qb rfl rfl (fun w => (za w).trans (by rw [hb42]))) λa A↦?_
   refine qy (by kernel_rfl) ?_
   refine hK41 _ _ (ct A ?_)
   refine wsk fun K43 hK43 => zj (S := fun w1 => Mg w w1 ([])) (by kernel_rfl) ?_
   replace M := M.drew
   refine amv A 0 rfl hP (M.sub ns) λa A↦?_
   refine amv A 1 rfl hP (M.sub ns) λa A↦?_
   refine atk (v := iV (((i + 1 : Nat) : Int))) A 2 rfl hP (M.sub ns) (λ_ M↦qb rfl rfl (ar_add ((in_i64 (by omega) (by omega)).trans (by omega)))) λa A↦?_
   refine atk (v := .string ((tx (s7.drop (i + 1))))) A 3 rfl hP (M.sub ns) (λ_ M↦qs (s := s7) (p := i + 1) Tryz.underlying9 rfl rfl rfl (by omega)) λa A↦?_
   refine amv A 4 rfl hP (M.sub ns) λa A↦?_
   refine amv A 5 rfl hP (M.sub ns) λa A↦?_
   refine atk (v := .int .u8 ((((B.getD (B.length - 1) 0).toNat : Nat) : Int))) A 6 rfl hP (M.sub ns) (λ_ M↦zb (s := B) (i := B.length - 1) (b := B.getD (B.length - 1) 0) Tryz.underlying9 rfl rfl rfl (zi (by omega))) λa A↦?_
   rcases tf (decide (0 ≤ Lib.indexByte (s7.drop (i + 1)) (B.getD (B.length - 1) 0))) with hb45 | hb45
   ·
    have hb45' := of_decide_eq_true hb45
    obtain ⟨o, ho47⟩ := Int.eq_ofNat_of_zero_le (of_decide_eq_true hb45)
    have hoB := (jd h2 ho47 (fun k9 => bne_iff_ne.1 hb42 (by rw [k9])) hi3).1
    refine zw (by kernel_rfl) (ji A 7 rfl rfl rfl rfl (ef rfl rfl) (ib_as (l := s7.drop (i + 1)) (b := B.getD (B.length - 1) 0) ho47) ?_)
    rintro _ w48 ⟨rfl, hb46⟩
    replace M := M.call hb46
    refine ⟨_, rfl, (M.sub ns), ?_⟩
    intro a A
    refine atk A 8 rfl hP (M.sub ns) (λ_ M↦zd rfl) λa A↦?_
    refine qy (by kernel_rfl) ?_
    refine hK43 _ _ (wsk fun K49 hK49 => wsk fun K50 hK50 => wrl (sdm A λa A↦?_))
    refine sdo (v := bV false) A (qb rfl rfl (fun w => (qw w).trans (by rw [show (decide (((o : Nat) : Int) < 0)) = false from (decide_eq_false (by omega))]))) λa A↦?_
    refine qa (hK50 _ _ (cf A ?_))
    refine wp_skip (hK49 _ _ (wrl ?_))
    iterate 2 refine sdm A λa A↦?_
    refine sdo (v := iV (((o + 1 : Nat) : Int))) A (qb rfl rfl (ar_add ((in_i64 (by omega) (by omega)).trans (by omega)))) λa A↦?_
    refine sdo (v := iV (((i + o + 1 : Nat) : Int))) A (qb rfl rfl (ar_add ((in_i64 (by omega) (by omega)).trans (by omega)))) λa A↦?_
    refine sda A λa A↦?_
    refine qa ?_
    exact hJ19 _ _ ⟨i + o + 1, (by obtain ⟨y1, y2, y3⟩ := jd h2 ho47 (fun k9 => bne_iff_ne.1 hb42 (by rw [k9])) hi3; exact ⟨by omega, by omega, y1, y2, y3, hi4.elim id fun k => absurd y2 (k.2 _ (by omega) y1)⟩), A.keep _ (by repeat' constructor), M⟩
   ·
    have hb45' := of_decide_eq_false hb45
    have ho52 : Lib.indexByte (s7.drop (i + 1)) (B.getD (B.length - 1) 0) = -1 := by have h8 := Lib.indexByte_ge (s7.drop (i + 1)) (B.getD (B.length - 1) 0); have h9 := of_decide_eq_false hb45; omega
    refine zw (by kernel_rfl) (ji A 7 rfl rfl rfl rfl (ef rfl rfl) (ib_as (l := s7.drop (i + 1)) (b := B.getD (B.length - 1) 0) ho52) ?_)
    rintro _ w53 ⟨rfl, hb51⟩
    replace M := M.call hb51
    refine ⟨_, rfl, (M.sub ns), ?_⟩
    intro a A
    refine atk A 8 rfl hP (M.sub ns) (λ_ M↦zd rfl) λa A↦?_
    refine qy (by kernel_rfl) ?_
    refine hK43 _ _ (wsk fun K54 hK54 => wsk fun K55 hK55 => wrl (sdm A λa A↦?_))
    refine sdo (v := bV true) A dbK λa A↦?_
    refine qa (hK55 _ _ (ct A ?_))
    refine wsk fun K56 hK56 => wrl (sda A λa A↦?_)
    refine qa (hK56 _ _ (wr1 hret A ?_))
    exact ⟨_, rfl, .inr ⟨by decide, jz h2 ho52 (fun k9 => bne_iff_ne.1 hb42 (by rw [k9])) hi3⟩, M.bel⟩
  ·
   have hb42' := bne_eq_false_iff_eq.1 hb42
   refine atk (v := bV false) A 6 rfl hP (M.sub ns) (λ_ M↦qb rfl rfl (fun w => (za w).trans (by rw [hb42]))) λa A↦?_
   refine qy (by kernel_rfl) ?_
   refine hK41 _ _ (cf A ?_)
   refine wp_skip ?_
   exact hJ19 _ _ ⟨i, (by have y2 : s7.getD i 0 = B.getD (B.length - 1) 0 := zl (by simpa using hb42); exact ⟨hi1, Nat.le_refl _, by omega, y2, hi3, hi4.elim id fun k => absurd y2 (k.2 _ (Nat.le_refl _) (by omega))⟩), A.keep _ (by repeat' constructor), M⟩
 ·
  have hb17' := of_decide_eq_false hb17
  refine sdc A qw hb17 λa A↦?_
  refine qa (hK16 _ _ (cf A ?_))
  refine wp_exit (hK11 _ _ (wsk fun K57 hK57 => wsk fun K58 hK58 => wrl (sda A λa A↦?_)))
  refine qa (hK58 _ _ (wr1 hret A ?_))
  exact ⟨_, rfl, .inr ⟨by decide, fun k hk => hi3 k (by have h8 := hk.2.1; have h9 := of_decide_eq_false hb17; omega) hk⟩, M.bel⟩
theorem zq {w : World} {r : Int} {B : List UInt8} (h2 : 2 ≤ B.length) (h4 : B.length ≤ 4) (h0 : 128 ≤ r) (hne : r ≠ 65533) (hv : Lib.validRune r = true) (henc : Utf8.encode r = tx B) (hx : (∃ k, atS B k) ↔ ln7 r = true) : Calls Tryz.prog 71 #[.string (tx s7), .int .i32 r] w fun e w' => ∃ v : Int, e = .returned (iV v) ∧ decide (0 ≤ v) = ln7 r ∧ Below w.heap.size w w' := (jk h2 h4 h0 hne hv henc).mono fun e w' ⟨v, h1, h3, h5⟩ => by
 refine ⟨v, h1, ?_, h5⟩
 rcases h3 with ⟨h6, h7⟩ | ⟨h6, h7⟩
 ·
  rw [hx.1 h7]; exact decide_eq_true h6
 ·
  rw [show ln7 r = false from Bool.eq_false_iff.2 fun k => (hx.2 k).elim h7]; exact decide_eq_false (by omega)
theorem je {k : Nat} (h : k < 7) : k = 0 ∨ k = 1 ∨ k = 2 ∨ k = 3 ∨ k = 4 ∨ k = 5 ∨ k = 6 := by omega
theorem xh {r : Int} {b0 b1 : UInt8} (h0 : 128 ≤ r) (h1 : r ≤ 2047) (e0 : ((b0.toNat : Nat) : Int) = 192 + r / 64) (e1 : ((b1.toNat : Nat) : Int) = 128 + r % 64) : (∃ k, atS [b0, b1] k) ↔ ln7 r = true := by
 constructor
 ·
  rintro ⟨k, q1, q2, q3⟩
  have z1 : s7.getD k 0 = b1 := q3 0 (by simp)
  have z0 : s7.getD (k - 1) 0 = b0 := q3 1 (by simp)
  subst z1 z0
  apply decide_eq_true
  rcases je q2 with rfl | rfl | rfl | rfl | rfl | rfl | rfl <;> simp [s7] at e0 e1 <;> omega
 ·
  intro h
  have hr : r = 133 := by have := of_decide_eq_true h; omega
  subst hr
  obtain rfl : b0 = 194 := zl (e0.trans (by decide))
  obtain rfl : b1 = 133 := zl (e1.trans (by decide))
  exact ⟨3, by decide, by decide, by decide⟩
theorem xi {r : Int} {b0 b1 b2 : UInt8} (h0 : 2048 ≤ r) (h1 : r ≤ 65535) (e0 : ((b0.toNat : Nat) : Int) = 224 + r / 4096) (e1 : ((b1.toNat : Nat) : Int) = 128 + r / 64 % 64) (e2 : ((b2.toNat : Nat) : Int) = 128 + r % 64) : (∃ k, atS [b0, b1, b2] k) ↔ ln7 r = true := by
 constructor
 ·
  rintro ⟨k, q1, q2, q3⟩
  have z2 : s7.getD k 0 = b2 := q3 0 (by simp)
  have z1 : s7.getD (k - 1) 0 = b1 := q3 1 (by simp)
  have z0 : s7.getD (k - 2) 0 = b0 := q3 2 (by simp)
  subst z2 z1 z0
  apply decide_eq_true
  rcases je q2 with rfl | rfl | rfl | rfl | rfl | rfl | rfl <;> simp [s7] at e0 e1 e2 <;> omega
 ·
  intro h
  have hr : r = 8232 := by have := of_decide_eq_true h; omega
  subst hr
  obtain rfl : b0 = 226 := zl (e0.trans (by decide))
  obtain rfl : b1 = 128 := zl (e1.trans (by decide))
  obtain rfl : b2 = 168 := zl (e2.trans (by decide))
  exact ⟨6, by decide, by decide, by decide⟩
theorem xj {r : Int} {b0 b1 b2 b3 : UInt8} (h0 : 65536 ≤ r) (h1 : r ≤ 1114111) (e0 : ((b0.toNat : Nat) : Int) = 240 + r / 262144) : (∃ k, atS [b0, b1, b2, b3] k) ↔ ln7 r = true := by
 constructor
 ·
  rintro ⟨k, q1, q2, q3⟩
  have z0 : s7.getD (k - 3) 0 = b0 := q3 3 (by simp)
  subst z0
  exfalso
  rcases je q2 with rfl | rfl | rfl | rfl | rfl | rfl | rfl <;> simp [s7] at e0 <;> omega
 ·
  intro h
  have := of_decide_eq_true h
  omega
theorem jo {w : World} {r : Int} (h : C.OkR r) : Calls Tryz.prog 71 #[.string (tx [10, 13, 194, 133, 226, 128, 168]), .int .i32 r] w fun e w' => ∃ v : Int, e = .returned (iV v) ∧ decide (0 ≤ v) = ln7 r ∧ Below w.heap.size w w' := by
 by_cases h128 : r < 128
 ·
  have h0 : 0 ≤ r := by unfold C.OkR at h; omega
  refine (Tryz.strings_IndexRune_ascii (tx [10, 13, 194, 133, 226, 128, 168]) r w h0 h128).mono ?_
  rintro e w' ⟨rfl, rfl⟩
  have := C.ix7 r.toNat (by omega)
  rw [Int.toNat_of_nonneg h0] at this
  exact ⟨_, rfl, this, Below.refl _ _⟩
 ·
  by_cases he : r = 65533
  ·
   subst he
   refine (C.irune_err7 w).mono ?_
   rintro e w' ⟨rfl, hb⟩
   exact ⟨_, rfl, by decide, hb⟩
  ·
   have hv := h.valid
   unfold C.OkR at h
   by_cases h2 : r ≤ 2047
   ·
    exact zq (by simp) (by simp) (by omega) he hv (enc_tx hv (by unfold Lib.encodeRune; rw [Lib.encodeRuneZ_two (by omega) h2]; rfl)) (xh (by omega) h2 (byte_of (x := 192 + r / 64) (by omega) (by omega)) (byte_of (x := 128 + r % 64) (by omega) (by omega)))
   ·
    by_cases h3 : r ≤ 65535
    ·
     exact zq (by simp) (by simp) (by omega) he hv (enc_tx hv (by unfold Lib.encodeRune; rw [Lib.encodeRuneZ_three (by omega)]; rfl)) (xi (by omega) h3 (byte_of (x := 224 + r / 4096) (by omega) (by omega)) (byte_of (x := 128 + r / 64 % 64) (by omega) (by omega)) (byte_of (x := 128 + r % 64) (by omega) (by omega)))
    ·
     exact zq (by simp) (by simp) (by omega) he hv (enc_tx hv (by unfold Lib.encodeRune; rw [Lib.encodeRuneZ_four (by omega) (by omega)]; rfl)) (xj (by omega) (by omega) (byte_of (x := 240 + r / 262144) (by omega) (by omega)))
def lnX (l : List UInt8) : Nat := C.lnN l.length l
theorem zv {w : World} {l : List UInt8} (hl : l.length < 4294967281) : Calls Tryz.prog 51 #[.string (tx l), .string (tx [10, 13, 194, 133, 226, 128, 168])] w fun e w' => (∃ v : Int, e = .returned (iV v) ∧ (v = ((lnX l : Nat) : Int) ∧ lnX l < l.length ∨ v = -1 ∧ lnX l = l.length)) ∧ Below w.heap.size w w' := by
 have := C.iany7 (tx l) (fun r w h => jo h) w (by rw [jg]; exact hl)
 rwa [jg, xe] at this
theorem xk {w : World} {l : List UInt8} (hl : l.length < 4294967281) (h : decide (lnX l < l.length) = true) : Calls Tryz.prog 51 #[.string (tx l), .string (tx [10, 13, 194, 133, 226, 128, 168])] w fun e w' => e = .returned (iV ((lnX l : Nat) : Int)) ∧ Below w.heap.size w w' := (zv hl).mono fun e w' h1 => by
 obtain ⟨⟨v, rfl, h2 | h2⟩, hb⟩ := h1
 ·
  exact ⟨by rw [h2.1], hb⟩
 ·
  exact absurd (of_decide_eq_true h) (by omega)
theorem xl {w : World} {l : List UInt8} (hl : l.length < 4294967281) (h : decide (lnX l < l.length) = false) : Calls Tryz.prog 51 #[.string (tx l), .string (tx [10, 13, 194, 133, 226, 128, 168])] w fun e w' => e = .returned (iV (-1)) ∧ lnX l = l.length ∧ Below w.heap.size w w' := (zv hl).mono fun e w' h1 => by
 obtain ⟨⟨v, rfl, h2 | h2⟩, hb⟩ := h1
 ·
  exact absurd h2.2 (of_decide_eq_false h)
 ·
  exact ⟨by rw [h2.1], h2.2, hb⟩
end Go.Proofs.YtclkfideaameoaaGreatDoor.G
namespace Go.Proofs.YtclkfideaameoaaGreatDoor.G
open Go.RowKit
set_option maxRecDepth 100000
theorem ze {W : World} {n nm : String} {d : DataW Unit} {g t : Nat} {ms : Array (String × TypeId)} (hg : Tryz.prog.globalNamed n = some g) (ht : (Tryz.prog.globals[g]?).map (·.type) = some t) (hi : Tryz.prog.underlying t = some (.interface ms)) (h : Lib.VarReads Tryz.prog W n (.iface nm d)) :
  ∃ ev : Value, W.cell? ⟨g, 0, none⟩ = some ev ∧ (ev = .nilIface ∨ ∃ te pe, ev = .iface te pe) := by
 obtain ⟨g', t', cs, fuel, p, h1, h2, h3, h4⟩ := h
 obtain rfl : g' = g := Option.some.inj (h1.symm.trans hg)
 obtain rfl : t' = t := Option.some.inj (h2.symm.trans ht)
 obtain ⟨_, u, v, hc, _⟩ := iface_of_trod hi h4
 refine ⟨.iface u v, ?_, .inr ⟨u, v, rfl⟩⟩
 rw [World.var?_cell h1 h3 0, ← Array.getElem?_toList, hc]
 rfl
theorem ju {W : World} (h : World.ShapedOpen Tryz.prog W) : ∃ m : Int, W.cell? ⟨Tryz.lays145_ren.g 1, 0, none⟩ = some (iV m) := by
 obtain ⟨ha, _⟩ := h
 obtain ⟨cs, h1, h2, h3⟩ := ha 2 #[iV 0] 3 (of_decide_eq_true (by kernel_rfl)) (by kernel_rfl)
 obtain ⟨ts, e1, _, e2⟩ := h3 (by kernel_rfl)
 have ets : ts = [3] := Option.some.inj (e1.symm.trans (by kernel_rfl))
 subst ets
 have h0 : 0 < cs.size := by rw [h2]; exact Nat.one_pos
 obtain ⟨u, hu, ho⟩ := e2 0 cs[0] (Array.getElem?_eq_getElem h0)
 obtain rfl : 3 = u := Option.some.inj hu
 have hc : W.cell? ⟨2, 0, none⟩ = some cs[0] := by
  simp only [World.cell?, h1]
  exact Array.getElem?_eq_getElem h0
 unfold Cell.ok at ho
 rw [Tryz.underlying3] at ho
 generalize cs[0] = v at hc ho
 cases v with
 | int k n =>
  obtain ⟨e, _⟩ := ho
  cases e
  exact ⟨n, hc⟩
 | _ => exact absurd ho id
theorem xg {W : World} (hT : Tb W) (hR : Lib.VarReads Tryz.prog W "strconv.ErrRange" Rows.laid_strconv_ErrRange) (S : Lib.VarReads Tryz.prog W "strconv.ErrSyntax" Rows.laid_strconv_ErrSyntax) (hO : World.ShapedOpen Tryz.prog W) : Env W :=
 ⟨hT, ⟨ze (by kernel_rfl) (by kernel_rfl) Tryz.underlying85 S, ze (by kernel_rfl) (by kernel_rfl) Tryz.underlying85 hR⟩, ju hO⟩
theorem jq {W : World} {s : ByteArray} (hE : Env W) (hs : s.size ≤ 140737488351232) : Calls Tryz.prog 4 #[.string s] W fun e w' => e = .returned (bV true) ∧ Below W.heap.size W w' := by
 have h := steps_any (L := s.data.toList) hE (by rw [Array.length_toList]; exact Nat.le_trans hs (by decide))
 have e : tx s.data.toList = s := xm s
 rwa [e] at h
end Go.Proofs.YtclkfideaameoaaGreatDoor.G
namespace Go.Proofs.YtclkfideaameoaaGreatDoor.G
open Go.RowKit
set_option maxRecDepth 100000
theorem RdA_is1_3 : Is1 Tryz.prog 3 := ⟨⟨_, Tryz.underlying3, rfl⟩, by kernel_rfl⟩
theorem RdA_is1_9 : Is1 Tryz.prog 9 := ⟨⟨_, Tryz.underlying9, rfl⟩, by kernel_rfl⟩
theorem RdA_fld_50_0 : FieldAt Tryz.prog 50 0 0 := ⟨_, _, Tryz.underlying50, rfl, rfl, by kernel_rfl⟩
theorem RdA_fld_50_1 : FieldAt Tryz.prog 50 1 1 := ⟨_, _, Tryz.underlying50, rfl, rfl, by kernel_rfl⟩
def flt : List PanicEntry := [{ v := .iface 47 (.agg #[]), recovered := false }]
theorem ja {P : Program} {w : World} {l : List (Nat × Value)} {dst : Option Tmp} {ty t : TypeId} {pos : String} {after : Array Edge} {guard : Option (Nat × Bool)} {x : Operand} {v : Value} (ht : P.concrete t = true) (hx : ev l x = some v) : Does P l ⟨dst, .makeInterface t x, ty, pos, after, guard⟩ w (.iface t v) w := fun ρ h => by
 simp [execOp, h x _ hx, run_makeInterface w t v ht]
theorem jn {w : World} : Calls Tryz.prog 23 #[bV true] w fun e w' => e = .returned (.tuple #[]) ∧ Below w.heap.size w w' := by
 have M : Mg w w ([]) := Mg.start w
 refine qr (l := [(0, bV true)]) Tryz.func23 rfl Tryz.ntmps23 rfl rfl ?_
 intro Q hret hnorm hP a A
 refine wsk fun K1 hK1 => wrl (sdm A λa A↦?_)
 refine sdo (v := bV false) A (zn rfl zs) λa A↦?_
 refine qa (hK1 _ _ (cf A ?_))
 refine wp_skip (hnorm _ _ (xn (v := .tuple #[]) A rfl .nil rfl ?_))
 exact ⟨rfl, M.bel⟩
theorem zx {w : World} : Calls Tryz.prog 23 #[bV false] w fun e w' => e = .panicked flt ∧ Below w.heap.size w w' := by
 have M : Mg w w ([]) := Mg.start w
 refine zy (l := [(0, bV false)]) Tryz.func23 rfl Tryz.ntmps23 rfl rfl ?_
 intro Q hret hnorm hP hX a A
 refine wsk fun K1 hK1 => wrl (sdm A λa A↦?_)
 refine sdo (v := bV true) A (zn rfl zs) λa A↦?_
 refine qa (hK1 _ _ (ct A ?_))
 refine wrl (sdo (v := .agg #[]) A (jm rfl (fun w => by kernel_rfl)) λa A↦?_)
 refine sdo (v := .iface 47 (.agg #[])) A (ja (by kernel_rfl) rfl) λa A↦?_
 refine jp (v := .iface 47 (.agg #[])) A rfl (fun ρ h => by simp only [execOp, h (.tmp 5) _ rfl]; rfl) ?_
 exact hX _ _ _ _ _ A ⟨rfl, M.bel⟩
theorem qz {w0 w : World} {g p : Nat} {lg : Bool} {L : List UInt8} {T : List Ck} (hp : p ≤ L.length) (hM0 : Mg w0 w (.obj g (rC L p lg) :: T)) : Calls Tryz.prog 21 #[pA g 0] w fun e w' => e = .returned (.string (tx (L.drop p))) ∧ Mg w0 w' (.obj g (rC L p lg) :: T) := by
 have M : Mg w0 w (.obj g (rC L p lg) :: T) := hM0
 refine qr (l := [(0, pA g 0)]) Tryz.func21 rfl Tryz.ntmps21 rfl rfl ?_
 intro Q hret hnorm hP a A
 refine wsk fun K1 hK1 => wrl (sda A λa A↦?_)
 refine qa (hK1 _ _ (wsk fun K2 hK2 => zj (S := fun w1 => Mg w0 w1 (.obj g (rC L p lg) :: [])) (by kernel_rfl) ?_))
 replace M := M.drew
 refine amv A 0 rfl hP (M.sub (cc ns)) λa A↦?_
 refine atk A 1 rfl hP (M.sub (cc ns)) (λ_ M↦zg rfl) λa A↦?_
 refine atk (v := pA g 0) A 2 rfl hP (M.sub (cc ns)) (λ_ M↦qj RdA_fld_50_0 rfl rfl) λa A↦?_
 refine atk A 3 rfl hP (M.sub (cc ns)) (λ_ M↦zu M RdA_is1_9 rfl 0 rfl rfl) λa A↦?_
 refine amv A 4 rfl hP (M.sub (cc ns)) λa A↦?_
 refine atk A 5 rfl hP (M.sub (cc ns)) (λ_ M↦zg rfl) λa A↦?_
 refine atk (v := pA g 1) A 6 rfl hP (M.sub (cc ns)) (λ_ M↦qj RdA_fld_50_1 rfl rfl) λa A↦?_
 refine atk A 7 rfl hP (M.sub (cc ns)) (λ_ M↦zu M RdA_is1_3 rfl 0 rfl rfl) λa A↦?_
 refine atk (v := .string ((tx (L.drop p)))) A 8 rfl hP (M.sub (cc ns)) (λ_ M↦qs (s := L) (p := p) Tryz.underlying9 rfl rfl rfl (by omega)) λa A↦?_
 refine atk A 9 rfl hP (M.sub (cc ns)) (λ_ M↦zd rfl) λa A↦?_
 refine qy (by kernel_rfl) ?_
 refine hK2 _ _ (wr1 hret A ?_)
 exact ⟨rfl, M⟩
end Go.Proofs.YtclkfideaameoaaGreatDoor.G
∧ Mg w0 w' (.obj g (rC L p lg) :: T) := by
 have M : Mg w0 w (.obj g (rC L p lg) :: T) := hM0
 refine qr (l := [(0, pA g 0), (1, .string ((tx t)))]) Tryz.func32 rfl Tryz.ntmps32 rfl rfl ?_
 intro Q hret hnorm hP a A
 refine wsk fun K1 hK1 => wrl (sda A λa A↦?_)
 refine qa (hK1 _ _ (wsk fun K2 hK2 => wsk fun K3 hK3 => wrl (sdm A λa A↦?_)))
 refine sct A (ef rfl rfl) (qz (p := p) (L := L) (T := (T)) (by omega) M) ?_
 rintro _ w5 ⟨rfl, hM4⟩
 replace M : Mg w0 w5 (.obj g (rC L p lg) :: T) := hM4
 refine ⟨_, rfl, ?_⟩
 intro a A
 refine sdm A λa A↦?_
 refine gcl A M (ef rfl rfl) ((hp_as hh)) fun w7 hb6 M a A => ?_
 refine sdo (v := bV true) A (zn rfl zs) λa A↦?_
 refine qa (hK3 _ _ (ct A ?_))
 refine wsk fun K8 hK8 => wrl (sda A λa A↦?_)
 refine qa (hK8 _ _ (wr1 hret A ?_))
 exact ⟨rfl, M⟩
theorem xd {w0 w : World} {g p : Nat} {lg : Bool} {L : List UInt8} {T : List Ck} (hT : Tb w0) (hp : p ≤ L.length) (hl : L.length ≤ 1000000000) (hne : L.drop p ≠ []) (hM0 : Mg w0 w (.obj g (rC L p lg) :: T)) : Calls Tryz.prog 53 #[pA g 0] w fun e w' => e = .returned (.int .i32 (((dcX (L.drop p)).1 : Nat) : Int)) ∧ Mg w0 w' (.obj g (rC L (p + (dcX (L.drop p)).2) lg) :: T) := by
 obtain ⟨hw1, hw2⟩ := dcX_wide hne
 rw [List.length_drop] at hw2
 have M : Mg w0 w (.obj g (rC L p lg) :: T) := hM0
 refine qr (l := [(0, pA g 0)]) Tryz.func53 rfl Tryz.ntmps53 rfl rfl ?_
 intro Q hret hnorm hP a A
 refine wsk fun K1 hK1 => wrl (sda A λa A↦?_)
 refine qa (hK1 _ _ (wsk fun K2 hK2 => wrl (sdm A λa A↦?_)))
 refine sct A (ef rfl rfl) (qz (p := p) (L := L) (T := (T)) (by omega) M) ?_
 rintro _ w4 ⟨rfl, hM3⟩
 replace M : Mg w0 w4 (.obj g (rC L p lg) :: T) := hM3
 refine ⟨_, rfl, ?_⟩
 intro a A
 refine gcl A M (ef rfl rfl) (dc_any (l := L.drop p) (hT.below M.bel)) fun w6 hb5 M a A => ?_
 refine sdm A λa A↦?_
 iterate 2 refine sdo A (qp (vs := [.int .i32 ((((dcX (L.drop p)).1 : Nat) : Int)), iV ((((dcX (L.drop p)).2 : Nat) : Int))]) rfl rfl) λa A↦?_
 iterate 2 refine sda A λa A↦?_
 refine qa (hK2 _ _ (wsk fun K7 hK7 => wrl (sdm A λa A↦?_)))
 refine sdo (v := bV true) A (qb rfl rfl (fun w => (qx w).trans (by rw [show (decide (0 < (((dcX (L.drop p)).2 : Nat) : Int))) = true from (decide_eq_true (by omega))]))) λa A↦?_
 refine gcl A M (ef rfl rfl) (jn) fun w9 hb8 M a A => ?_
 refine qa (hK7 _ _ (wsk fun K10 hK10 => wrl (sdm A λa A↦?_)))
 refine sdo A (zg rfl) λa A↦?_
 refine sdo (v := pA g 1) A (qj RdB_fld_50_1 rfl rfl) λa A↦?_
 refine sdo A (zu M RdB_is1_3 rfl 0 rfl rfl) λa A↦?_
 refine sdm A λa A↦?_
 refine sdo (v := iV (((p + (dcX (L.drop p)).2 : Nat) : Int))) A (qb rfl rfl (ar_add ((in_i64 (by omega) (by omega)).trans (by omega)))) λa A↦?_
 refine sdo A (zg rfl) λa A↦?_
 refine sdo (v := pA g 1) A (qj RdB_fld_50_1 rfl rfl) λa A↦?_
 refine xb (L' := (.obj g (rC L (p + (dcX (L.drop p)).2) lg) :: T)) A M rfl rfl (xa rfl rfl rfl (by kernel_rfl) M 0 rfl rfl rfl) 0 rfl rfl rfl ?_
 intro w11 M
 refine qa (hK10 _ _ (wsk fun K12 hK12 => wrl (sdm A λa A↦?_)))
 refine sda A λa A↦?_
 refine qa (hK12 _ _ (wr1 hret A ?_))
 exact ⟨rfl, M⟩
theorem jv {w0 w : World} {g p : Nat} {lg : Bool} {L : List UInt8} {T : List Ck} (hT : Tb w0) (hp : p ≤ L.length) (hl : L.length ≤ 1000000000) (hne : L.drop p = []) (hM0 : Mg w0 w (.obj g (rC L p lg) :: T)) : Calls Tryz.prog 53 #[pA g 0] w fun e w' => e = .panicked flt ∧ Mg w0 w' (.obj g (rC L p lg) :: T) := by
 have hw1 : (dcX (L.drop p)).2 = 0 := by rw [hne]; rfl
 have M : Mg w0 w (.obj g (rC L p lg) :: T) := hM0
 refine zy (l := [(0, pA g 0)]) Tryz.func53 rfl Tryz.ntmps53 rfl rfl ?_
 intro Q hret hnorm hP hX a A
 refine wsk fun K1 hK1 => wrl (sda A λa A↦?_)
 refine qa (hK1 _ _ (wsk fun K2 hK2 => wrl (sdm A λa A↦?_)))
 refine sct A (ef rfl rfl) (qz (p := p) (L := L) (T := (T)) (by omega) M) ?_
 rintro _ w4 ⟨rfl, hM3⟩
 replace M : Mg w0 w4 (.obj g (rC L p lg) :: T) := hM3
 refine ⟨_, rfl, ?_⟩
 intro a A
 refine gcl A M (ef rfl rfl) (dc_any (l := L.drop p) (hT.below M.bel)) fun w6 hb5 M a A => ?_
 refine sdm A λa A↦?_
 iterate 2 refine sdo A (qp (vs := [.int .i32 ((((dcX (L.drop p)).1 : Nat) : Int)), iV ((((dcX (L.drop p)).2 : Nat) : Int))]) rfl rfl) λa A↦?_
 iterate 2 refine sda A λa A↦?_
 refine qa (hK2 _ _ (wsk fun K7 hK7 => wrl (sdm A λa A↦?_)))
 refine sdo (v := bV false) A (qb rfl rfl (fun w => (qx w).trans (by rw [show (decide (0 < (((dcX (L.drop p)).2 : Nat) : Int))) = false from (decide_eq_false (by omega))]))) λa A↦?_
 refine zr A rfl rfl rfl (ef rfl rfl) (zx) ?_
 rintro _ w9 ⟨rfl, hp10⟩
 exact .inl ⟨_, rfl, hX _ _ _ _ _ A (⟨rfl, M.call hp10⟩)⟩
end Go.Proofs.YtclkfideaameoaaGreatDoor.G
true) A λa A↦?_
     refine sda A λa A↦?_
     refine qa (hK2 _ _ (wr1 hret A ?_))
     exact ⟨by unfold isHx; rw [hb3, hb4, hb5, hb6]; rfl, M.bel⟩
    ·
     have hb6' := of_decide_eq_false hb6
     refine sdc A ql hb6 λa A↦?_
     iterate 2 refine sdk (v := bV false) A λa A↦?_
     iterate 2 refine sdm A λa A↦?_
     rcases tf (decide (65 ≤ ((b.toNat : Nat) : Int))) with hb7 | hb7
     ·
      have hb7' := of_decide_eq_true hb7
      refine sdc A qk hb7 λa A↦?_
      iterate 2 refine sdm A λa A↦?_
      rcases tf (decide (((b.toNat : Nat) : Int) ≤ 70)) with hb8 | hb8
      ·
       have hb8' := of_decide_eq_true hb8
       refine sdc A ql hb8 λa A↦?_
       iterate 2 refine sdk (v := bV true) A λa A↦?_
       refine sda A λa A↦?_
       refine qa (hK2 _ _ (wr1 hret A ?_))
       exact ⟨by unfold isHx; rw [hb3, hb4, hb5, hb6, hb7, hb8]; rfl, M.bel⟩
      ·
       have hb8' := of_decide_eq_false hb8
       refine sdc A ql hb8 λa A↦?_
       iterate 2 refine sdk (v := bV false) A λa A↦?_
       refine sda A λa A↦?_
       refine qa (hK2 _ _ (wr1 hret A ?_))
       exact ⟨by unfold isHx; rw [hb3, hb4, hb5, hb6, hb7, hb8]; rfl, M.bel⟩
     ·
      have hb7' := of_decide_eq_false hb7
      refine sdc A qk hb7 λa A↦?_
      refine sdm A λa A↦?_
      iterate 2 refine qg A rfl rfl rfl λa A↦?_
      iterate 2 refine sdk (v := bV false) A λa A↦?_
      refine sda A λa A↦?_
      refine qa (hK2 _ _ (wr1 hret A ?_))
      exact ⟨by unfold isHx; rw [hb3, hb4, hb5, hb6, hb7]; rfl, M.bel⟩
   ·
    have hb5' := of_decide_eq_false hb5
    refine sdc A qk hb5 λa A↦?_
    refine sdm A λa A↦?_
    iterate 2 refine qg A rfl rfl rfl λa A↦?_
    iterate 2 refine sdk (v := bV false) A λa A↦?_
    iterate 2 refine sdm A λa A↦?_
    rcases tf (decide (65 ≤ ((b.toNat : Nat) : Int))) with hb9 | hb9
    ·
     have hb9' := of_decide_eq_true hb9
     refine sdc A qk hb9 λa A↦?_
     iterate 2 refine sdm A λa A↦?_
     rcases tf (decide (((b.toNat : Nat) : Int) ≤ 70)) with hb10 | hb10
     ·
      have hb10' := of_decide_eq_true hb10
      refine sdc A ql hb10 λa A↦?_
      iterate 2 refine sdk (v := bV true) A λa A↦?_
      refine sda A λa A↦?_
      refine qa (hK2 _ _ (wr1 hret A ?_))
      exact ⟨by unfold isHx; rw [hb3, hb4, hb5, hb9, hb10]; rfl, M.bel⟩
     ·
      have hb10' := of_decide_eq_false hb10
      refine sdc A ql hb10 λa A↦?_
      iterate 2 refine sdk (v := bV false) A λa A↦?_
      refine sda A λa A↦?_
      refine qa (hK2 _ _ (wr1 hret A ?_))
      exact ⟨by unfold isHx; rw [hb3, hb4, hb5, hb9, hb10]; rfl, M.bel⟩
    ·
     have hb9' := of_decide_eq_false hb9
     refine sdc A qk hb9 λa A↦?_
     refine sdm A λa A↦?_
     iterate 2 refine qg A rfl rfl rfl λa A↦?_
     iterate 2 refine sdk (v := bV false) A λa A↦?_
     refine sda A λa A↦?_
     refine qa (hK2 _ _ (wr1 hret A ?_))
     exact ⟨by unfold isHx; rw [hb3, hb4, hb5, hb9]; rfl, M.bel⟩
 ·
  have hb3' := of_decide_eq_false hb3
  refine sdc A qk hb3 λa A↦?_
  refine sdm A λa A↦?_
  iterate 2 refine qg A rfl rfl rfl λa A↦?_
  refine sdk (v := bV false) A λa A↦?_
  iterate 2 refine sdm A λa A↦?_
  rcases tf (decide (97 ≤ ((b.toNat : Nat) : Int))) with hb11 | hb11
  ·
   have hb11' := of_decide_eq_true hb11
   refine sdc A qk hb11 λa A↦?_
   iterate 2 refine sdm A λa A↦?_
   rcases tf (decide (((b.toNat : Nat) : Int) ≤ 102)) with hb12 | hb12
   ·
    have hb12' := of_decide_eq_true hb12
    refine sdc A ql hb12 λa A↦?_
    iterate 2 refine sdk (v := bV true) A λa A↦?_
    refine sdm A λa A↦?_
    iterate 3 refine qg A rfl rfl rfl λa A↦?_
    iterate 2 refine jr A rfl rfl rfl λa A↦?_
    refine qg A rfl rfl rfl λa A↦?_
    refine sdk (v := bV true) A λa A↦?_
    refine sda A λa A↦?_
    refine qa (hK2 _ _ (wr1 hret A ?_))
    exact ⟨by unfold isHx; rw [hb3, hb11, hb12]; rfl, M.bel⟩
   ·
    have hb12' := of_decide_eq_false hb12
    refine sdc A ql hb12 λa A↦?_
    iterate 2 refine sdk (v := bV false) A λa A↦?_
    iterate 2 refine sdm A λa A↦?_
    rcases tf (decide (65 ≤ ((b.toNat : Nat) : Int))) with hb13 | hb13
    ·
     have hb13' := of_decide_eq_true hb13
     refine sdc A qk hb13 λa A↦?_
     iterate 2 refine sdm A λa A↦?_
     rcases tf (decide (((b.toNat : Nat) : Int) ≤ 70)) with hb14 | hb14
     ·
      have hb14' := of_decide_eq_true hb14
      refine sdc A ql hb14 λa A↦?_
      iterate 2 refine sdk (v := bV true) A λa A↦?_
      refine sda A λa A↦?_
      refine qa (hK2 _ _ (wr1 hret A ?_))
      exact ⟨by unfold isHx; rw [hb3, hb11, hb12, hb13, hb14]; rfl, M.bel⟩
     ·
      have hb14' := of_decide_eq_false hb14
      refine sdc A ql hb14 λa A↦?_
      iterate 2 refine sdk (v := bV false) A λa A↦?_
      refine sda A λa A↦?_
      refine qa (hK2 _ _ (wr1 hret A ?_))
      exact ⟨by unfold isHx; rw [hb3, hb11, hb12, hb13, hb14]; rfl, M.bel⟩
    ·
     have hb13' := of_decide_eq_false hb13
     refine sdc A qk hb13 λa A↦?_
     refine sdm A λa A↦?_
     iterate 2 refine qg A rfl rfl rfl λa A↦?_
     iterate 2 refine sdk (v := bV false) A λa A↦?_
     refine sda A λa A↦?_
     refine qa (hK2 _ _ (wr1 hret A ?_))
     exact ⟨by unfold isHx; rw [hb3, hb11, hb12, hb13]; rfl, M.bel⟩
  ·
   have hb11' := of_decide_eq_false hb11
   refine sdc A qk hb11 λa A↦?_
   refine sdm A λa A↦?_
   iterate 2 refine qg A rfl rfl rfl λa A↦?_
   iterate 2 refine sdk (v := bV false) A λa A↦?_
   iterate 2 refine sdm A λa A↦?_
   rcases tf (decide (65 ≤ ((b.toNat : Nat) : Int))) with hb15 | hb15
   ·
    have hb15' := of_decide_eq_true hb15
    refine sdc A qk hb15 λa A↦?_
    iterate 2 refine sdm A λa A↦?_
    rcases tf (decide (((b.toNat : Nat) : Int) ≤ 70)) with hb16 | hb16
    ·
     have hb16' := of_decide_eq_true hb16
     refine sdc A ql hb16 λa A↦?_
     iterate 2 refine sdk (v := bV true) A λa A↦?_
     refine sda A λa A↦?_
     refine qa (hK2 _ _ (wr1 hret A ?_))
     exact ⟨by unfold isHx; rw [hb3, hb11, hb15, hb16]; rfl, M.bel⟩
    ·
     have hb16' := of_decide_eq_false hb16
     refine sdc A ql hb16 λa A↦?_
     iterate 2 refine sdk (v := bV false) A λa A↦?_
     refine sda A λa A↦?_
     refine qa (hK2 _ _ (wr1 hret A ?_))
     exact ⟨by unfold isHx; rw [hb3, hb11, hb15, hb16]; rfl, M.bel⟩
   ·
    have hb15' := of_decide_eq_false hb15
    refine sdc A qk hb15 λa A↦?_
    refine sdm A λa A↦?_
    iterate 2 refine qg A rfl rfl rfl λa A↦?_
    iterate 2 refine sdk (v := bV false) A λa A↦?_
    refine sda A λa A↦?_
    refine qa (hK2 _ _ (wr1 hret A ?_))
    exact ⟨by unfold isHx; rw [hb3, hb11, hb15]; rfl, M.bel⟩
theorem jb {w : World} {b : UInt8} {c : Bool} (h : isHx b = c) : Calls Tryz.prog 116 #[.int .u8 ((b.toNat : Nat) : Int)] w fun e w' => e = .returned (bV c) ∧ Below w.heap.size w w' := h ▸ hex_any
theorem jc {w : World} {l : List UInt8} (hT : Tb w) (hl : l.length ≤ 1000000000) : Calls Tryz.prog 86 #[.string (tx l)] w fun e w' => e = .returned (iV ((tiedN l : Nat) : Int)) ∧ Below w.heap.size w w' := by
 have M : Mg w w ([]) := Mg.start w
 refine qr (l := [(0, .string ((tx l)))]) Tryz.func86 rfl Tryz.ntmps86 rfl rfl ?_
 intro Q hret hnorm hP a A
 refine wsk fun K1 hK1 => wrl (sda A λa A↦?_)
 refine qa (hK1 _ _ (wsk fun K2 hK2 => wrl (sdm A λa A↦?_)))
 refine sct A (ef rfl rfl) (dc_any (l := l) (hT.below M.bel)) ?_
 rintro _ w4 ⟨rfl, hb3⟩
 obtain ⟨q, hq⟩ : ∃ q, (dcX l).2 = q := ⟨_, rfl⟩
 have hql := dcX_le l
 rw [hq] at hql ⊢
 replace M := M.call hb3
 refine ⟨_, rfl, ?_⟩
 intro a A
 refine sdm A λa A↦?_
 iterate 2 refine sdo A (qp (vs := [.int .i32 ((((dcX l).1 : Nat) : Int)), iV (((q : Nat) : Int))]) rfl rfl) λa A↦?_
 iterate 2 refine sda A λa A↦?_
 refine qa (hK2 _ _ (wsk fun K5 hK5 => wrl (sda A λa A↦?_)))
 refine qa (hK5 _ _ (wsk fun K6 hK6 => wp_block (zm (fun m_ a w1 => ∃ (j : Nat), m_ = 1 + (l.length - (q + j)) ∧ (q + j ≤ l.length ∧ hxN (l.drop q) = j + hxN (l.drop (q + j))) ∧ Sl a 41 [(0, .string ((tx l))), (2, iV 0), (3, .int .i32 ((((dcX l).1 : Nat) : Int))), (4, iV (((q : Nat) : Int))), (5, iV (((j : Nat) : Int))), (6, .tuple #[.int .i32 ((((dcX l).1 : Nat) : Int)), iV (((q : Nat) : Int))]), (7, .string ((tx l))), (8, .tuple #[.int .i32 ((((dcX l).1 : Nat) : Int)), iV (((q : Nat) : Int))]), (9, .int .i32 ((((dcX l).1 : Nat) : Int))), (10, iV (((q : Nat) : Int)))] ∧ Mg w w1 ([])) _ ⟨0, rfl, ⟨by omega, by rw [Nat.zero_add, Nat.add_zero]⟩, A.keep _ (by repeat' constructor), M⟩ ?_)))
 clear M A
 rintro m_ a w7 ⟨j, rfl, hinv9, A, M⟩ K8 hK8
 obtain ⟨hj0, hj⟩ := hinv9
 refine wsk fun K10 hK10 => wsk fun K11 hK11 => wrl ?_
 iterate 2 refine sdm A λa A↦?_
 refine sdo (v := iV (((q + j : Nat) : Int))) A (qb rfl rfl (ar_add ((in_i64 (by omega) (by omega)).trans (by omega)))) λa A↦?_
 refine sdm A λa A↦?_
 refine sdo (v := iV (((l.length : Nat) : Int))) A (zh (s := l) Tryz.underlying9 rfl) λa A↦?_
 rcases tf (decide (((q + j : Nat) : Int) < ((l.length : Nat) : Int))) with hb12 | hb12
 ·
  have hb12' := of_decide_eq_true hb12
  refine sdc A qw hb12 λa A↦?_
  iterate 4 refine sdm A λa A↦?_
  refine sdo (v := iV (((q + j : Nat) : Int))) A (qb rfl rfl (ar_add ((in_i64 (by omega) (by omega)).trans (by omega)))) λa A↦?_
  obtain ⟨b13, hb14⟩ : ∃ b, l[q + j]? = some b := ⟨_, List.getElem?_eq_getElem (show q + j < l.length by omega)⟩
  refine sdo (v := .int .u8 (((b13.toNat : Nat) : Int))) A (zb (s := l) (i := q + j) Tryz.underlying9 rfl rfl rfl hb14) λa A↦?_
  rcases tf (isHx b13) with hb15 | hb15
  ·
   refine gcl A M (ef rfl rfl) ((jb hb15)) fun w17 hb16 M a A => ?_
   refine sdk (v := bV true) A λa A↦?_
   refine qa (hK11 _ _ (ct A ?_))
   refine wp_skip (hK10 _ _ (wp_block (wrl (sdm A λa A↦?_))))
   refine sdo (v := iV (((j + 1 : Nat) : Int))) A (qb rfl rfl (ar_add ((in_i64 (by omega) (by omega)).trans (by omega)))) λa A↦?_
   refine sda A λa A↦?_
   refine qa ?_
   refine hK8 _ _ _ (by omega) ⟨j + 1, rfl, ⟨by omega, by rw [hj, hxN_hit hb14 hb15, Nat.add_assoc]; omega⟩, A.keep _ (by repeat' constructor), M⟩
  ·
   refine gcl A M (ef rfl rfl) ((jb hb15)) fun w19 hb18 M a A => ?_
   refine sdk (v := bV false) A λa A↦?_
   refine qa (hK11 _ _ (cf A ?_))
   refine wp_exit (hK6 _ _ (wsk fun K20 hK20 => wrl ?_))
   iterate 2 refine sdm A λa A↦?_
   refine sdo (v := iV (((q + j : Nat) : Int))) A (qb rfl rfl (ar_add ((in_i64 (by omega) (by omega)).trans (by omega)))) λa A↦?_
   refine sda A λa A↦?_
   refine qa (hK20 _ _ (wsk fun K21 hK21 => wsk fun K22 hK22 => wrl (sdm A λa A↦?_)))
   rcases tf (decide (0 < ((j : Nat) : Int))) with hb23 | hb23
   ·
    have hb23' := of_decide_eq_true hb23
    refine sdc A qx hb23 λa A↦?_
    iterate 3 refine sdm A λa A↦?_
    refine sdo (v := .string ((tx (l.drop (q + j))))) A (qs (s := l) (p := q + j) Tryz.underlying9 rfl rfl rfl (by omega)) λa A↦?_
    rcases tf (Lib.hasPrefix (l.drop (q + j)) [59]) with hb24 | hb24
    ·
     refine gcl A M (ef rfl rfl) ((hp_as hb24)) fun w26 hb25 M a A => ?_
     refine sdk (v := bV true) A λa A↦?_
     refine qa (hK22 _ _ (ct A ?_))
     refine wrl (sdm A λa A↦?_)
     refine sdo (v := iV (((q + j + 1 : Nat) : Int))) A (qb rfl rfl (ar_add ((in_i64 (by omega) (by omega)).trans (by omega)))) λa A↦?_
     refine sda A λa A↦?_
     refine qa (hK21 _ _ (wsk fun K27 hK27 => wrl (sdm A λa A↦?_)))
     refine sda A λa A↦?_
     refine qa (hK27 _ _ (wr1 hret A ?_))
     have hz : hxN (l.drop (q + j)) = 0 := by first | exact hxN_not (by assumption) (by assumption) | exact hxN_end (by omega)
     have hjj : hxN (l.drop q) = j := by omega
     exact ⟨by unfold tiedN; rw [hq, hjj, hb24, if_pos (by rw [decide_eq_true (by omega)]; rfl)], M.bel⟩
    ·
     refine gcl A M (ef rfl rfl) ((hp_as hb24)) fun w29 hb28 M a A => ?_
     refine sdk (v := bV false) A λa A↦?_
     refine qa (hK22 _ _ (cf A ?_))
     refine wp_skip (hK21 _ _ (wsk fun K30 hK30 => wrl (sdm A λa A↦?_)))
     refine sda A λa A↦?_
     refine qa (hK30 _ _ (wr1 hret A ?_))
     have hz : hxN (l.drop (q + j)) = 0 := by first | exact hxN_not (by assumption) (by assumption) | exact hxN_end (by omega)
     have hjj : hxN (l.drop q) = j := by omega
     exact ⟨by unfold tiedN; rw [hq, hjj, hb24, if_neg (by rw [Bool.and_false]; decide)]; rfl, M.bel⟩
   ·
    have hb23' := of_decide_eq_false hb23
    refine sdc A qx hb23 λa A↦?_
    refine sdm A λa A↦?_
    iterate 4 refine qg A rfl rfl rfl λa A↦?_
    refine sdk (v := bV false) A λa A↦?_
    refine qa (hK22 _ _ (cf A ?_))
    refine wp_skip (hK21 _ _ (wsk fun K31 hK31 => wrl (sdm A λa A↦?_)))
    refine sda A λa A↦?_
    refine qa (hK31 _ _ (wr1 hret A ?_))
    have hz : hxN (l.drop (q + j)) = 0 := by first | exact hxN_not (by assumption) (by assumption) | exact hxN_end (by omega)
    have hjj : hxN (l.drop q) = j := by omega
    exact ⟨by unfold tiedN; rw [hq, hjj, if_neg (by rw [decide_eq_false (by omega), Bool.false_and]; decide)]; rfl, M.bel⟩
 ·
  have hb12' := of_decide_eq_false hb12
  refine sdc A qw hb12 λa A↦?_
  refine sdm A λa A↦?_
  iterate 6 refine qg A rfl rfl rfl λa A↦?_
  refine sdk (v := bV false) A λa A↦?_
  refine qa (hK11 _ _ (cf A ?_))
  refine wp_exit (hK6 _ _ (wsk fun K32 hK32 => wrl ?_))
  iterate 2 refine sdm A λa A↦?_
  refine sdo (v := iV (((q + j : Nat) : Int))) A (qb rfl rfl (ar_add ((in_i64 (by omega) (by omega)).trans (by omega)))) λa A↦?_
  refine sda A λa A↦?_
  refine qa (hK32 _ _ (wsk fun K33 hK33 => wsk fun K34 hK34 => wrl (sdm A λa A↦?_)))
  rcases tf (decide (0 < ((j : Nat) : Int))) with hb35 | hb35
  ·
   have hb35' := of_decide_eq_true hb35
   refine sdc A qx hb35 λa A↦?_
   iterate 3 refine sdm A λa A↦?_
   refine sdo (v := .string ((tx (l.drop (q + j))))) A (qs (s := l) (p := q + j) Tryz.underlying9 rfl rfl rfl (by omega)) λa A↦?_
   rcases tf (Lib.hasPrefix (l.drop (q + j)) [59]) with hb36 | hb36
   ·
    refine gcl A M (ef rfl rfl) ((hp_as hb36)) fun w38 hb37 M a A => ?_
    refine sdk (v := bV true) A λa A↦?_
    refine qa (hK34 _ _ (ct A ?_))
    refine wrl (sdm A λa A↦?_)
    refine sdo (v := iV (((q + j + 1 : Nat) : Int))) A (qb rfl rfl (ar_add ((in_i64 (by omega) (by omega)).trans (by omega)))) λa A↦?_
    refine sda A λa A↦?_
    refine qa (hK33 _ _ (wsk fun K39 hK39 => wrl (sdm A λa A↦?_)))
    refine sda A λa A↦?_
    refine qa (hK39 _ _ (wr1 hret A ?_))
    have hz : hxN (l.drop (q + j)) = 0 := by first | exact hxN_not (by assumption) (by assumption) | exact hxN_end (by omega)
    have hjj : hxN (l.drop q) = j := by omega
    exact ⟨by unfold tiedN; rw [hq, hjj, hb36, if_pos (by rw [decide_eq_true (by omega)]; rfl)], M.bel⟩
   ·
    refine gcl A M (ef rfl rfl) ((hp_as hb36)) fun w41 hb40 M a A => ?_
    refine sdk (v := bV false) A λa A↦?_
    refine qa (hK34 _ _ (cf A ?_))
    refine wp_skip (hK33 _ _ (wsk fun K42 hK42 => wrl (sdm A λa A↦?_)))
    refine sda A λa A↦?_
    refine qa (hK42 _ _ (wr1 hret A ?_))
    have hz : hxN (l.drop (q + j)) = 0 := by first | exact hxN_not (by assumption) (by assumption) | exact hxN_end (by omega)
    have hjj : hxN (l.drop q) = j := by omega
    exact ⟨by unfold tiedN; rw [hq, hjj, hb36, if_neg (by rw [Bool.and_false]; decide)]; rfl, M.bel⟩
  ·
   have hb35' := of_decide_eq_false hb35
   refine sdc A qx hb35 λa A↦?_
   refine sdm A λa A↦?_
   iterate 4 refine qg A rfl rfl rfl λa A↦?_
   refine sdk (v := bV false) A λa A↦?_
   refine qa (hK34 _ _ (cf A ?_))
   refine wp_skip (hK33 _ _ (wsk fun K43 hK43 => wrl (sdm A λa A↦?_)))
   refine sda A λa A↦?_
   refine qa (hK43 _ _ (wr1 hret A ?_))
   have hz : hxN (l.drop (q + j)) = 0 := by first | exact hxN_not (by assumption) (by assumption) | exact hxN_end (by omega)
   have hjj : hxN (l.drop q) = j := by omega
   exact ⟨by unfold tiedN; rw [hq, hjj, if_neg (by rw [decide_eq_false (by omega), Bool.false_and]; decide)]; rfl, M.bel⟩
end Go.Proofs.YtclkfideaameoaaGreatDoor.G
 ((delim_as (okR_dc _) hb15)) fun w17 hb16 M a A => ?_
   refine qa (hK14 _ _ (ct A ?_))
   refine wp_exit (hK3 _ _ (wsk fun K18 hK18 => wrl ?_))
   iterate 2 refine sdm A λa A↦?_
   refine sdo (v := .string ((tx (l.take n)))) A (zt (s := l) (p := n) Tryz.underlying9 rfl rfl rfl (by omega)) λa A↦?_
   refine sda A λa A↦?_
   refine qa (hK18 _ _ (wr1 hret A ?_))
   exact ⟨by rw [hn, show tokN (f + 1) (l.drop n) = 0 from tok_stop hb15, Nat.add_zero], M.bel⟩
  ·
   refine gcl A M (ef rfl rfl) ((delim_as (okR_dc _) hb15)) fun w20 hb19 M a A => ?_
   refine qa (hK14 _ _ (cf A ?_))
   refine wp_skip (hK13 _ _ (wsk fun K21 hK21 => wrl ?_))
   iterate 2 refine sdm A λa A↦?_
   refine sdo (v := iV (((n + (dcX (l.drop n)).2 : Nat) : Int))) A (qb rfl rfl (ar_add ((in_i64 (by omega) (by omega)).trans (by omega)))) λa A↦?_
   refine sda A λa A↦?_
   refine qa (hK21 _ _ (wsk fun K22 hK22 => wrl (sdm A λa A↦?_)))
   rcases tf (((((dcX (l.drop n)).1 : Nat) : Int) == 92)) with hb23 | hb23
   ·
    have hb23' := eq_of_beq hb23
    refine sdc A zf hb23 λa A↦?_
    refine qa (hK22 _ _ (ct A ?_))
    refine wrl ?_
    iterate 3 refine sdm A λa A↦?_
    refine sdo (v := .string ((tx (l.drop (n + (dcX (l.drop n)).2))))) A (qs (s := l) (p := n + (dcX (l.drop n)).2) Tryz.underlying9 rfl rfl rfl (by omega)) λa A↦?_
    have ht25 := tiedN_le (l.drop (n + (dcX (l.drop n)).2))
    rw [List.length_drop] at ht25
    refine gcl A M (ef rfl rfl) (jc (l := l.drop (n + (dcX (l.drop n)).2)) (hT.below M.bel) (by rw [List.length_drop]; omega)) fun w26 hb24 M a A => ?_
    refine sdo (v := iV (((n + (dcX (l.drop n)).2 + tiedN (l.drop (n + (dcX (l.drop n)).2)) : Nat) : Int))) A (qb rfl rfl (ar_add ((in_i64 (by omega) (by omega)).trans (by omega)))) λa A↦?_
    refine sda A λa A↦?_
    refine qa ?_
    have e7 := tok_go (f := f) hne hb15 (if_pos (eq_of_beq hb23))
    simp only [List.drop_drop] at e7
    refine hK5 _ _ _ (by omega) ⟨n + (dcX (l.drop n)).2 + tiedN (l.drop (n + (dcX (l.drop n)).2)), f, rfl, ⟨by omega, by omega, by rw [hn, e7, Nat.add_assoc n (dcX (l.drop n)).2 _]; exact (Nat.add_assoc _ _ _).symm⟩, A.keep _ ⟨rfl, rfl, rfl, trivial⟩, M⟩
   ·
    have hb23' := ne_of_beq_false hb23
    refine sdc A zf hb23 λa A↦?_
    refine qa (hK22 _ _ (cf A ?_))
    refine wp_skip ?_
    refine hK5 _ _ _ (by omega) ⟨n + (dcX (l.drop n)).2, f, rfl, ⟨by omega, by omega, by rw [hn, tok_go hne hb15 (if_neg (ne_of_beq_false hb23)), List.drop_drop, Nat.add_assoc]⟩, A.keep _ ⟨rfl, rfl, rfl, trivial⟩, M⟩
 ·
  have hb9' := of_decide_eq_false hb9
  refine sdc A qw hb9 λa A↦?_
  refine qa (hK8 _ _ (cf A ?_))
  refine wp_exit (hK3 _ _ (wsk fun K27 hK27 => wrl ?_))
  iterate 2 refine sdm A λa A↦?_
  refine sdo (v := .string ((tx (l.take n)))) A (zt (s := l) (p := n) Tryz.underlying9 rfl rfl rfl (by omega)) λa A↦?_
  refine sda A λa A↦?_
  refine qa (hK27 _ _ (wr1 hret A ?_))
  exact ⟨by rw [hn, show tokN (f + 1) (l.drop n) = 0 from (by rw [List.drop_eq_nil_of_le (by omega)]; exact tok_end _), Nat.add_zero], M.bel⟩
end Go.Proofs.YtclkfideaameoaaGreatDoor.G
neg (of_decide_eq_false hb5), if_neg (of_decide_eq_false hb8), if_pos (of_decide_eq_true hb11)]; rfl, M.bel⟩
   ·
    have hb11' := of_decide_eq_false hb11
    refine sdo (v := bV false) A (qb rfl rfl (fun w => (qe (a := l) (b := [98, 97, 99, 107, 115, 112, 97, 99, 101]) Tryz.underlying9 w).trans (by rw [hb11] <;> rfl))) λa A↦?_
    refine sda A λa A↦?_
    refine qa (hK10 _ _ (cf A ?_))
    refine wsk fun K13 hK13 => wrl ?_
    rcases tf (decide (l = [116, 97, 98])) with hb14 | hb14
    ·
     have hb14' := of_decide_eq_true hb14
     refine sdo (v := bV true) A (qb rfl rfl (fun w => (qe (a := l) (b := [116, 97, 98]) Tryz.underlying9 w).trans (by rw [hb14] <;> rfl))) λa A↦?_
     refine sda A λa A↦?_
     refine qa (hK13 _ _ (ct A ?_))
     refine wsk fun K15 hK15 => wrl ?_
     iterate 2 refine sda A λa A↦?_
     refine qa (hK15 _ _ (wp_ret (hret _ _ (en2 A rfl (qf rfl) (qf rfl) ?_))))
     exact ⟨by unfold nmdX; rw [if_neg (of_decide_eq_false hb5), if_neg (of_decide_eq_false hb8), if_neg (of_decide_eq_false hb11), if_pos (of_decide_eq_true hb14)]; rfl, M.bel⟩
    ·
     have hb14' := of_decide_eq_false hb14
     refine sdo (v := bV false) A (qb rfl rfl (fun w => (qe (a := l) (b := [116, 97, 98]) Tryz.underlying9 w).trans (by rw [hb14] <;> rfl))) λa A↦?_
     refine sda A λa A↦?_
     refine qa (hK13 _ _ (cf A ?_))
     refine wsk fun K16 hK16 => wsk fun K17 hK17 => wrl ?_
     rcases tf (decide (l = [108, 105, 110, 101, 102, 101, 101, 100])) with hb18 | hb18
     ·
      have hb18' := of_decide_eq_true hb18
      refine sdo (v := bV true) A (qb rfl rfl (fun w => (qe (a := l) (b := [108, 105, 110, 101, 102, 101, 101, 100]) Tryz.underlying9 w).trans (by rw [hb18] <;> rfl))) λa A↦?_
      refine sda A λa A↦?_
      refine qa (hK17 _ _ (ct A ?_))
      refine wp_skip (hK16 _ _ (ct A ?_))
      refine wsk fun K19 hK19 => wrl ?_
      iterate 2 refine sda A λa A↦?_
      refine qa (hK19 _ _ (wp_ret (hret _ _ (en2 A rfl (qf rfl) (qf rfl) ?_))))
      exact ⟨by unfold nmdX; rw [if_neg (of_decide_eq_false hb5), if_neg (of_decide_eq_false hb8), if_neg (of_decide_eq_false hb11), if_neg (of_decide_eq_false hb14), if_pos (of_decide_eq_true hb18)]; rfl, M.bel⟩
     ·
      have hb18' := of_decide_eq_false hb18
      refine sdo (v := bV false) A (qb rfl rfl (fun w => (qe (a := l) (b := [108, 105, 110, 101, 102, 101, 101, 100]) Tryz.underlying9 w).trans (by rw [hb18] <;> rfl))) λa A↦?_
      refine sda A λa A↦?_
      refine qa (hK17 _ _ (cf A ?_))
      refine wrl ?_
      rcases tf (decide (l = [110, 101, 119, 108, 105, 110, 101])) with hb20 | hb20
      ·
       have hb20' := of_decide_eq_true hb20
       refine sdo (v := bV true) A (qb rfl rfl (fun w => (qe (a := l) (b := [110, 101, 119, 108, 105, 110, 101]) Tryz.underlying9 w).trans (by rw [hb20] <;> rfl))) λa A↦?_
       refine sda A λa A↦?_
       refine qa (hK16 _ _ (ct A ?_))
       refine wsk fun K21 hK21 => wrl ?_
       iterate 2 refine sda A λa A↦?_
       refine qa (hK21 _ _ (wp_ret (hret _ _ (en2 A rfl (qf rfl) (qf rfl) ?_))))
       exact ⟨by unfold nmdX; rw [if_neg (of_decide_eq_false hb5), if_neg (of_decide_eq_false hb8), if_neg (of_decide_eq_false hb11), if_neg (of_decide_eq_false hb14), if_neg (of_decide_eq_false hb18), if_pos (of_decide_eq_true hb20)]; rfl, M.bel⟩
      ·
       have hb20' := of_decide_eq_false hb20
       refine sdo (v := bV false) A (qb rfl rfl (fun w => (qe (a := l) (b := [110, 101, 119, 108, 105, 110, 101]) Tryz.underlying9 w).trans (by rw [hb20] <;> rfl))) λa A↦?_
       refine sda A λa A↦?_
       refine qa (hK16 _ _ (cf A ?_))
       refine wsk fun K22 hK22 => wrl ?_
       rcases tf (decide (l = [118, 116, 97, 98])) with hb23 | hb23
       ·
        have hb23' := of_decide_eq_true hb23
        refine sdo (v := bV true) A (qb rfl rfl (fun w => (qe (a := l) (b := [118, 116, 97, 98]) Tryz.underlying9 w).trans (by rw [hb23] <;> rfl))) λa A↦?_
        refine sda A λa A↦?_
        refine qa (hK22 _ _ (ct A ?_))
        refine wsk fun K24 hK24 => wrl ?_
        iterate 2 refine sda A λa A↦?_
        refine qa (hK24 _ _ (wp_ret (hret _ _ (en2 A rfl (qf rfl) (qf rfl) ?_))))
        exact ⟨by unfold nmdX; rw [if_neg (of_decide_eq_false hb5), if_neg (of_decide_eq_false hb8), if_neg (of_decide_eq_false hb11), if_neg (of_decide_eq_false hb14), if_neg (of_decide_eq_false hb18), if_neg (of_decide_eq_false hb20), if_pos (of_decide_eq_true hb23)]; rfl, M.bel⟩
       ·
        have hb23' := of_decide_eq_false hb23
        refine sdo (v := bV false) A (qb rfl rfl (fun w => (qe (a := l) (b := [118, 116, 97, 98]) Tryz.underlying9 w).trans (by rw [hb23] <;> rfl))) λa A↦?_
        refine sda A λa A↦?_
        refine qa (hK22 _ _ (cf A ?_))
        refine wsk fun K25 hK25 => wrl ?_
        rcases tf (decide (l = [112, 97, 103, 101])) with hb26 | hb26
        ·
         have hb26' := of_decide_eq_true hb26
         refine sdo (v := bV true) A (qb rfl rfl (fun w => (qe (a := l) (b := [112, 97, 103, 101]) Tryz.underlying9 w).trans (by rw [hb26] <;> rfl))) λa A↦?_
         refine sda A λa A↦?_
         refine qa (hK25 _ _ (ct A ?_))
         refine wsk fun K27 hK27 => wrl ?_
         iterate 2 refine sda A λa A↦?_
         refine qa (hK27 _ _ (wp_ret (hret _ _ (en2 A rfl (qf rfl) (qf rfl) ?_))))
         exact ⟨by unfold nmdX; rw [if_neg (of_decide_eq_false hb5), if_neg (of_decide_eq_false hb8), if_neg (of_decide_eq_false hb11), if_neg (of_decide_eq_false hb14), if_neg (of_decide_eq_false hb18), if_neg (of_decide_eq_false hb20), if_neg (of_decide_eq_false hb23), if_pos (of_decide_eq_true hb26)]; rfl, M.bel⟩
        ·
         have hb26' := of_decide_eq_false hb26
         refine sdo (v := bV false) A (qb rfl rfl (fun w => (qe (a := l) (b := [112, 97, 103, 101]) Tryz.underlying9 w).trans (by rw [hb26] <;> rfl))) λa A↦?_
         refine sda A λa A↦?_
         refine qa (hK25 _ _ (cf A ?_))
         refine wsk fun K28 hK28 => wrl ?_
         rcases tf (decide (l = [114, 101, 116, 117, 114, 110])) with hb29 | hb29
         ·
          have hb29' := of_decide_eq_true hb29
          refine sdo (v := bV true) A (qb rfl rfl (fun w => (qe (a := l) (b := [114, 101, 116, 117, 114, 110]) Tryz.underlying9 w).trans (by rw [hb29] <;> rfl))) λa A↦?_
          refine sda A λa A↦?_
          refine qa (hK28 _ _ (ct A ?_))
          refine wsk fun K30 hK30 => wrl ?_
          iterate 2 refine sda A λa A↦?_
          refine qa (hK30 _ _ (wp_ret (hret _ _ (en2 A rfl (qf rfl) (qf rfl) ?_))))
          exact ⟨by unfold nmdX; rw [if_neg (of_decide_eq_false hb5), if_neg (of_decide_eq_false hb8), if_neg (of_decide_eq_false hb11), if_neg (of_decide_eq_false hb14), if_neg (of_decide_eq_false hb18), if_neg (of_decide_eq_false hb20), if_neg (of_decide_eq_false hb23), if_neg (of_decide_eq_false hb26), if_pos (of_decide_eq_true hb29)]; rfl, M.bel⟩
         ·
          have hb29' := of_decide_eq_false hb29
          refine sdo (v := bV false) A (qb rfl rfl (fun w => (qe (a := l) (b := [114, 101, 116, 117, 114, 110]) Tryz.underlying9 w).trans (by rw [hb29] <;> rfl))) λa A↦?_
          refine sda A λa A↦?_
          refine qa (hK28 _ _ (cf A ?_))
          refine wsk fun K31 hK31 => wrl ?_
          rcases tf (decide (l = [101, 115, 99])) with hb32 | hb32
          ·
           have hb32' := of_decide_eq_true hb32
           refine sdo (v := bV true) A (qb rfl rfl (fun w => (qe (a := l) (b := [101, 115, 99]) Tryz.underlying9 w).trans (by rw [hb32] <;> rfl))) λa A↦?_
           refine sda A λa A↦?_
           refine qa (hK31 _ _ (ct A ?_))
           refine wsk fun K33 hK33 => wrl ?_
           iterate 2 refine sda A λa A↦?_
           refine qa (hK33 _ _ (wp_ret (hret _ _ (en2 A rfl (qf rfl) (qf rfl) ?_))))
           exact ⟨by unfold nmdX; rw [if_neg (of_decide_eq_false hb5), if_neg (of_decide_eq_false hb8), if_neg (of_decide_eq_false hb11), if_neg (of_decide_eq_false hb14), if_neg (of_decide_eq_false hb18), if_neg (of_decide_eq_false hb20), if_neg (of_decide_eq_false hb23), if_neg (of_decide_eq_false hb26), if_neg (of_decide_eq_false hb29), if_pos (of_decide_eq_true hb32)]; rfl, M.bel⟩
          ·
           have hb32' := of_decide_eq_false hb32
           refine sdo (v := bV false) A (qb rfl rfl (fun w => (qe (a := l) (b := [101, 115, 99]) Tryz.underlying9 w).trans (by rw [hb32] <;> rfl))) λa A↦?_
           refine sda A λa A↦?_
           refine qa (hK31 _ _ (cf A ?_))
           refine wsk fun K34 hK34 => wrl ?_
           rcases tf (decide (l = [115, 112, 97, 99, 101])) with hb35 | hb35
           ·
            have hb35' := of_decide_eq_true hb35
            refine sdo (v := bV true) A (qb rfl rfl (fun w => (qe (a := l) (b := [115, 112, 97, 99, 101]) Tryz.underlying9 w).trans (by rw [hb35] <;> rfl))) λa A↦?_
            refine sda A λa A↦?_
            refine qa (hK34 _ _ (ct A ?_))
            refine wsk fun K36 hK36 => wrl ?_
            iterate 2 refine sda A λa A↦?_
            refine qa (hK36 _ _ (wp_ret (hret _ _ (en2 A rfl (qf rfl) (qf rfl) ?_))))
            exact ⟨by unfold nmdX; rw [if_neg (of_decide_eq_false hb5), if_neg (of_decide_eq_false hb8), if_neg (of_decide_eq_false hb11), if_neg (of_decide_eq_false hb14), if_neg (of_decide_eq_false hb18), if_neg (of_decide_eq_false hb20), if_neg (of_decide_eq_false hb23), if_neg (of_decide_eq_false hb26), if_neg (of_decide_eq_false hb29), if_neg (of_decide_eq_false hb32), if_pos (of_decide_eq_true hb35)]; rfl, M.bel⟩
           ·
            have hb35' := of_decide_eq_false hb35
            refine sdo (v := bV false) A (qb rfl rfl (fun w => (qe (a := l) (b := [115, 112, 97, 99, 101]) Tryz.underlying9 w).trans (by rw [hb35] <;> rfl))) λa A↦?_
            refine sda A λa A↦?_
            refine qa (hK34 _ _ (cf A ?_))
            refine wsk fun K37 hK37 => wrl ?_
            rcases tf (decide (l = [100, 101, 108, 101, 116, 101])) with hb38 | hb38
            ·
             have hb38' := of_decide_eq_true hb38
             refine sdo (v := bV true) A (qb rfl rfl (fun w => (qe (a := l) (b := [100, 101, 108, 101, 116, 101]) Tryz.underlying9 w).trans (by rw [hb38] <;> rfl))) λa A↦?_
             refine sda A λa A↦?_
             refine qa (hK37 _ _ (ct A ?_))
             refine wsk fun K39 hK39 => wrl ?_
             iterate 2 refine sda A λa A↦?_
             refine qa (hK39 _ _ (wp_ret (hret _ _ (en2 A rfl (qf rfl) (qf rfl) ?_))))
             exact ⟨by unfold nmdX; rw [if_neg (of_decide_eq_false hb5), if_neg (of_decide_eq_false hb8), if_neg (of_decide_eq_false hb11), if_neg (of_decide_eq_false hb14), if_neg (of_decide_eq_false hb18), if_neg (of_decide_eq_false hb20), if_neg (of_decide_eq_false hb23), if_neg (of_decide_eq_false hb26), if_neg (of_decide_eq_false hb29), if_neg (of_decide_eq_false hb32), if_neg (of_decide_eq_false hb35), if_pos (of_decide_eq_true hb38)]; rfl, M.bel⟩
            ·
             have hb38' := of_decide_eq_false hb38
             refine sdo (v := bV false) A (qb rfl rfl (fun w => (qe (a := l) (b := [100, 101, 108, 101, 116, 101]) Tryz.underlying9 w).trans (by rw [hb38] <;> rfl))) λa A↦?_
             refine sda A λa A↦?_
             refine qa (hK37 _ _ (cf A ?_))
             refine wp_skip (hK2 _ _ (wsk fun K40 hK40 => wrl ?_))
             iterate 2 refine sda A λa A↦?_
             refine qa (hK40 _ _ (wp_ret (hret _ _ (en2 A rfl (qf rfl) (qf rfl) ?_))))
             exact ⟨by unfold nmdX; rw [if_neg (of_decide_eq_false hb5), if_neg (of_decide_eq_false hb8), if_neg (of_decide_eq_false hb11), if_neg (of_decide_eq_false hb14), if_neg (of_decide_eq_false hb18), if_neg (of_decide_eq_false hb20), if_neg (of_decide_eq_false hb23), if_neg (of_decide_eq_false hb26), if_neg (of_decide_eq_false hb29), if_neg (of_decide_eq_false hb32), if_neg (of_decide_eq_false hb35), if_neg (of_decide_eq_false hb38)]; rfl, M.bel⟩
theorem js {w0 w : World} {g p : Nat} {lg : Bool} {L : List UInt8} {T : List Ck} (hT : Tb w0) (hp : p ≤ L.length) (hl : L.length ≤ 1000000000) (hd0 : dotB (L.drop p) = true) (hM0 : Mg w0 w (.obj g (rC L p lg) :: T)) : Calls Tryz.prog 55 #[pA g 0] w fun e w' => e = .returned (bV true) ∧ Mg w0 w' (.obj g (rC L (p + 1) lg) :: T) := by
 have hd : decide ((L.drop p).take (tokN ((L.drop p).length + 1) (L.drop p)) = [46]) = true := hd0
 have hpf := dot_pre (of_decide_eq_true hd)
 have M : Mg w0 w (.obj g (rC L p lg) :: T) := hM0
 refine qr (l := [(0, pA g 0)]) Tryz.func55 rfl Tryz.ntmps55 rfl rfl ?_
 intro Q hret hnorm hP a A
 refine wsk fun K1 hK1 => wrl (sda A λa A↦?_)
 refine qa (hK1 _ _ (wsk fun K2 hK2 => wrl (sdm A λa A↦?_)))
 refine sct A (ef rfl rfl) (qz (p := p) (L := L) (T := (T)) (by omega) M) ?_
 rintro _ w4 ⟨rfl, hM3⟩
 replace M : Mg w0 w4 (.obj g (rC L p lg) :: T) := hM3
 refine ⟨_, rfl, ?_⟩
 intro a A
 refine gcl A M (ef rfl rfl) (token_any (l := L.drop p) (hT.below M.bel) (by rw [List.length_drop]; omega)) fun w6 hb5 M a A => ?_
 refine sdo (v := bV true) A (qb rfl rfl (fun w => (qe (a := (L.drop p).take (tokN ((L.drop p).length + 1) (L.drop p))) (b := [46]) Tryz.underlying9 w).trans (by rw [hd] <;> rfl))) λa A↦?_
 iterate 2 refine sdm A λa A↦?_
 have htl9 : 1 ≤ (L.drop p).length := (List.isPrefixOf_iff_prefix.1 hpf).length_le
 rw [List.length_drop] at htl9
 refine sct A (ef rfl rfl) (take_y (p := p) (L := L) (T := (T)) (by omega) (by omega) hpf M) ?_
 rintro _ w10 ⟨rfl, hM8⟩
 replace M : Mg w0 w10 (.obj g (rC L (p + 1) lg) :: T) := hM8
 refine ⟨_, rfl, ?_⟩
 intro a A
 refine sdk (v := bV true) A λa A↦?_
 refine sda A λa A↦?_
 refine qa (hK2 _ _ (wr1 hret A ?_))
 exact ⟨rfl, M⟩
theorem jt {w0 w : World} {g p : Nat} {lg : Bool} {L : List UInt8} {T : List Ck} (hT : Tb w0) (hp : p ≤ L.length) (hl : L.length ≤ 1000000000) (hd0 : dotB (L.drop p) = false) (hM0 : Mg w0 w (.obj g (rC L p lg) :: T)) : Calls Tryz.prog 55 #[pA g 0] w fun e w' => e = .returned (bV false) ∧ Mg w0 w' (.obj g (rC L p lg) :: T) := by
 have hd : decide ((L.drop p).take (tokN ((L.drop p).length + 1) (L.drop p)) = [46]) = false := hd0
 
 have M : Mg w0 w (.obj g (rC L p lg) :: T) := hM0
 refine qr (l := [(0, pA g 0)]) Tryz.func55 rfl Tryz.ntmps55 rfl rfl ?_
 intro Q hret hnorm hP a A
 refine wsk fun K1 hK1 => wrl (sda A λa A↦?_)
 refine qa (hK1 _ _ (wsk fun K2 hK2 => wrl (sdm A λa A↦?_)))
 refine sct A (ef rfl rfl) (qz (p := p) (L := L) (T := (T)) (by omega) M) ?_
 rintro _ w4 ⟨rfl, hM3⟩
 replace M : Mg w0 w4 (.obj g (rC L p lg) :: T) := hM3
 refine ⟨_, rfl, ?_⟩
 intro a A
 refine gcl A M (ef rfl rfl) (token_any (l := L.drop p) (hT.below M.bel) (by rw [List.length_drop]; omega)) fun w6 hb5 M a A => ?_
 refine sdo (v := bV false) A (qb rfl rfl (fun w => (qe (a := (L.drop p).take (tokN ((L.drop p).length + 1) (L.drop p))) (b := [46]) Tryz.underlying9 w).trans (by rw [hd] <;> rfl))) λa A↦?_
 refine sdm A λa A↦?_
 iterate 2 refine qg A rfl rfl rfl λa A↦?_
 refine sdk (v := bV false) A λa A↦?_
 refine sda A λa A↦?_
 refine qa (hK2 _ _ (wr1 hret A ?_))
 exact ⟨rfl, M⟩
end Go.Proofs.YtclkfideaameoaaGreatDoor.G
:= by
 have M : Mg w w ([]) := Mg.start w
 refine qr (l := [(0, iV 5)]) Tryz.func106 rfl Tryz.ntmps106 rfl rfl ?_
 intro Q hret hnorm hP a A
 refine wsk fun K1 hK1 => wrl (sda A λa A↦?_)
 refine qa (hK1 _ _ (wsk fun K2 hK2 => wrl (sdm A λa A↦?_)))
 refine sdo (v := iV 21) A (qb rfl rfl (ar_add rfl)) λa A↦?_
 refine sdo (v := iV 2) A (qb rfl rfl (ar_quo (by decide) (by decide))) λa A↦?_
 refine sda A λa A↦?_
 refine qa (hK2 _ _ (wr1 hret A ?_))
 exact ⟨rfl, M.bel⟩
theorem jw {w : World} : Calls Tryz.prog 106 #[iV 6] w fun e w' => e = .returned (iV 2) ∧ Below w.heap.size w w' := by
 have M : Mg w w ([]) := Mg.start w
 refine qr (l := [(0, iV 6)]) Tryz.func106 rfl Tryz.ntmps106 rfl rfl ?_
 intro Q hret hnorm hP a A
 refine wsk fun K1 hK1 => wrl (sda A λa A↦?_)
 refine qa (hK1 _ _ (wsk fun K2 hK2 => wrl (sdm A λa A↦?_)))
 refine sdo (v := iV 22) A (qb rfl rfl (ar_add rfl)) λa A↦?_
 refine sdo (v := iV 2) A (qb rfl rfl (ar_quo (by decide) (by decide))) λa A↦?_
 refine sda A λa A↦?_
 refine qa (hK2 _ _ (wr1 hret A ?_))
 exact ⟨rfl, M.bel⟩
theorem jx {w : World} : Calls Tryz.prog 106 #[iV 7] w fun e w' => e = .returned (iV 2) ∧ Below w.heap.size w w' := by
 have M : Mg w w ([]) := Mg.start w
 refine qr (l := [(0, iV 7)]) Tryz.func106 rfl Tryz.ntmps106 rfl rfl ?_
 intro Q hret hnorm hP a A
 refine wsk fun K1 hK1 => wrl (sda A λa A↦?_)
 refine qa (hK1 _ _ (wsk fun K2 hK2 => wrl (sdm A λa A↦?_)))
 refine sdo (v := iV 23) A (qb rfl rfl (ar_add rfl)) λa A↦?_
 refine sdo (v := iV 2) A (qb rfl rfl (ar_quo (by decide) (by decide))) λa A↦?_
 refine sda A λa A↦?_
 refine qa (hK2 _ _ (wr1 hret A ?_))
 exact ⟨rfl, M.bel⟩
def s7 : List UInt8 := [10, 13, 194, 133, 226, 128, 168]
theorem zk : s7.length = 7 := rfl
theorem jy {i k : Nat} (h1 : i < k) (h2 : k < 7) : s7.getD i 0 ≠ s7.getD k 0 := by
 have h : ∀ i k : Fin 7, i < k → s7.getD i 0 ≠ s7.getD k 0 := by decide
 exact h ⟨i, by omega⟩ ⟨k, h2⟩ h1
theorem zi {l : List UInt8} {i : Nat} (h : i < l.length) : l[i]? = some (l.getD i 0) := by
 rw [List.getD_eq_getElem?_getD, List.getElem?_eq_getElem h]; rfl
theorem zl {a b : UInt8} (h : ((a.toNat : Nat) : Int) = ((b.toNat : Nat) : Int)) : a = b := UInt8.toNat_inj.1 (by omega)
def atS (B : List UInt8) (k : Nat) : Prop := B.length - 1 ≤ k ∧ k < 7 ∧ ∀ t, t < B.length → s7.getD (k - t) 0 = B.getD (B.length - 1 - t) 0
theorem jz {B : List UInt8} {i : Nat} (hB : 2 ≤ B.length) (h : Lib.indexByte (s7.drop (i + 1)) (B.getD (B.length - 1) 0) = -1) (hn : s7.getD i 0 ≠ B.getD (B.length - 1) 0) (hlt : ∀ k, k < i → ¬ atS B k) : ∀ k, ¬ atS B k := fun k hk => by
 have h0 : s7.getD k 0 = B.getD (B.length - 1) 0 := hk.2.2 0 (by omega)
 have hk7 := hk.2.1
 by_cases h1 : k < i
 ·
  exact hlt k h1 hk
 by_cases h2 : k = i
 ·
  subst h2; exact hn h0
 refine Lib.indexByte_none h (k - (i + 1)) ?_
 rw [List.getElem?_drop, show i + 1 + (k - (i + 1)) = k by omega, zi (by rw [zk]; exact hk7), h0]
theorem jd {B : List UInt8} {i o : Nat} (hB : 2 ≤ B.length) (h : Lib.indexByte (s7.drop (i + 1)) (B.getD (B.length - 1) 0) = ((o : Nat) : Int)) (hn : s7.getD i 0 ≠ B.getD (B.length - 1) 0) (hlt : ∀ k, k < i → ¬ atS B k) : i + o + 1 < 7 ∧ s7.getD (i + o + 1) 0 = B.getD (B.length - 1) 0 ∧ ∀ k, k < i + o + 1 → ¬ atS B k := by
 obtain ⟨h1, h2⟩ := Lib.indexByte_some h
 rw [List.getElem?_drop, show i + 1 + o = i + o + 1 by omega] at h1
 obtain ⟨h3, h4⟩ := List.getElem?_eq_some_iff.1 h1
 rw [zk] at h3
 have h5 := h1
 rw [zi (by rw [zk]; exact h3)] at h5
 refine ⟨h3, Option.some.inj h5, fun k hk hs => ?_⟩
 have h0 : s7.getD k 0 = B.getD (B.length - 1) 0 := hs.2.2 0 (by omega)
 by_cases h6 : k < i
 ·
  exact hlt k h6 hs
 by_cases h7 : k = i
 ·
  subst h7; exact hn h0
 refine h2 (k - (i + 1)) (by omega) ?_
 rw [List.getElem?_drop, show i + 1 + (k - (i + 1)) = k by omega, zi (by rw [zk]; omega), h0]
theorem jj {w : World} {i : Nat} (h1 : 1 ≤ i) (h : i ≤ 7) : Calls Tryz.prog 106 #[iV ((i : Nat) : Int)] w fun e w' => e = .returned (iV 2) ∧ Below w.heap.size w w' := by
 match i, h1, h with
 | 1, _, _ => exact cut_1
 | 2, _, _ => exact cut_2
 | 3, _, _ => exact cut_3
 | 4, _, _ => exact cut_4
 | 5, _, _ => exact cut_5
 | 6, _, _ => exact jw
 | 7, _, _ => exact jx
theorem jk {w : World} {r : Int} {B : List UInt8} (h2 : 2 ≤ B.length) (h4 : B.length ≤ 4) (h0 : 128 ≤ r) (hne : r ≠ 65533) (hv : Lib.validRune r = true) (henc : Utf8.encode r = tx B) : Calls Tryz.prog 71 #[.string (tx s7), .int .i32 r] w fun e w' => ∃ v : Int, e = .returned (iV v) ∧ (0 ≤ v ∧ (∃ k, atS B k) ∨ v < 0 ∧ ∀ k, ¬ atS B k) ∧ Below w.heap.size w w' := by
 have hs7 := zk
 have M : Mg w w ([]) := Mg.start w
 refine qr (l := [(0, .string ((tx s7))), (1, .int .i32 r)]) Tryz.func71 rfl Tryz.ntmps71 rfl rfl ?_
 intro Q hret hnorm hP a A
 refine wsk fun K1 hK1 => wrl (sda A λa A↦?_)
 refine qa (hK1 _ _ (wp_block (wsk fun K2 hK2 => wrl (sdm A λa A↦?_))))
 refine sdo (v := bV true) A (qb rfl rfl (fun w => (ql w).trans (by rw [show (decide (0 ≤ r)) = true from (decide_eq_true (by omega))]))) λa A↦?_
 iterate 2 refine sdm A λa A↦?_
 refine sdo (v := bV false) A (qb rfl rfl (fun w => (qw w).trans (by rw [show (decide (r < 128)) = false from (decide_eq_false (by omega))]))) λa A↦?_
 refine sdk (v := bV false) A λa A↦?_
 refine sda A λa A↦?_
 refine qa (hK2 _ _ (cf A ?_))
 refine wsk fun K3 hK3 => wrl (sdm A λa A↦?_)
 refine sdo (v := bV false) A (qb rfl rfl (fun w => (zf w).trans (by rw [show ((r == 65533)) = false from (beq_eq_false_iff_ne.2 (by omega))]))) λa A↦?_
 refine sda A λa A↦?_
 refine qa (hK3 _ _ (cf A ?_))
 refine wsk fun K4 hK4 => wrl (sdm A λa A↦?_)
 refine gcl A M (ef rfl rfl) (vr_as hv) fun w6 hb5 M a A => ?_
 refine sdo (v := bV false) A (zn rfl zs) λa A↦?_
 refine sda A λa A↦?_
 refine qa (hK4 _ _ (cf A ?_))
 refine zp 1 rfl ?_
 refine wsk fun K7 hK7 => wrl (sdm A λa A↦?_)
 refine sdo (v := .string ((tx B))) A (jh rfl (fun w => (run_convert_int_string w _ _ .i32 r (by kernel_rfl) Tryz.underlying9).trans (by rw [henc]))) λa A↦?_
 refine sda A λa A↦?_
 refine qa (hK7 _ _ (wsk fun K8 hK8 => wrl (sdm A λa A↦?_)))
 refine sdo (v := iV (((B.length : Nat) : Int))) A (zh (s := B) Tryz.underlying9 rfl) λa A↦?_
 refine sdo (v := iV (((B.length - 1 : Nat) : Int))) A (qb rfl rfl (ar_sub ((in_i64 (by omega) (by omega)).trans (by omega)))) λa A↦?_
 refine sda A λa A↦?_
 refine qa (hK8 _ _ (wsk fun K9 hK9 => wrl (sdm A λa A↦?_)))
 refine sda A λa A↦?_
 refine qa (hK9 _ _ (wsk fun K10 hK10 => wrl (sda A λa A↦?_)))
 refine qa (hK10 _ _ (wsk fun K11 hK11 => wp_block (zm (fun m_ a w1 => ∃ (i : Nat) (f : Nat), m_ = 8 - i ∧ (B.length - 1 ≤ i ∧ i ≤ 7 ∧ (∀ k, k < i → ¬ atS B k) ∧ (f = 0 ∨ f = 1 ∧ ∀ k, i ≤ k → k < 7 → s7.getD k 0 ≠ B.getD (B.length - 1) 0)) ∧ Sl a 187 [(0, .string ((tx s7))), (1, .int .i32 r), (7, .string ((tx B))), (8, iV (((B.length - 1 : Nat) : Int))), (9, iV (((i : Nat) : Int))), (10, iV (((f : Nat) : Int))), (17, .int .i32 r), (18, .string ((tx B))), (19, .string ((tx B))), (20, iV (((B.length : Nat) : Int))), (21, iV (((B.length - 1 : Nat) : Int))), (22, iV (((B.length - 1 : Nat) : Int))), (160, bV false), (161, .int .i32 r), (162, bV true), (163, bV true), (164, .int .i32 r), (165, bV false), (166, bV false), (171, bV false), (172, .int .i32 r), (173, bV false), (183, bV false), (184, .int .i32 r), (185, bV true), (186, bV false)] ∧ Mg w w1 ([])) _ ⟨B.length - 1, 0, rfl, ⟨Nat.le_refl _, by omega, fun k hk hs => absurd hs.1 (by omega), .inl rfl⟩, A.keep _ (by repeat' constructor), M⟩ ?_)))
 clear M A
 rintro m_ a w12 ⟨i, f, rfl, hinv14, A, M⟩ K13 hK13
 obtain ⟨hi1, hi2, hi3, hi4⟩ := hinv14
 refine wsk fun K15 hK15 => wsk fun K16 hK16 => wrl ?_
 iterate 2 refine sdm A λa A↦?_
 refine sdo (v := iV (((s7.length : Nat) : Int))) A (zh (s := s7) Tryz.underlying9 rfl) λa A↦?_
 rcases tf (decide (((i : Nat) : Int) < ((s7.length : Nat) : Int))) with hb17 | hb17
 ·
  have hb17' := of_decide_eq_true hb17
  refine sdc A qw hb17 λa A↦?_
  refine qa (hK16 _ _ (ct A ?_))
  refine wp_skip (hK15 _ _ (wp_block (zp 0 rfl ?_)))
  refine wsk fun K18 hK18 => ?_
  have hJ19 : ∀ a w1, (∃ (q : Nat), (B.length - 1 ≤ q ∧ i ≤ q ∧ q < 7 ∧ s7.getD q 0 = B.getD (B.length - 1) 0 ∧ (∀ k, k < q → ¬ atS B k) ∧ f = 0) ∧ Sl a 187 [(0, .string ((tx s7))), (1, .int .i32 r), (7, .string ((tx B))), (8, iV (((B.length - 1 : Nat) : Int))), (9, iV (((q : Nat) : Int))), (10, iV (((f : Nat) : Int))), (17, .int .i32 r), (18, .string ((tx B))), (19, .string ((tx B))), (20, iV (((B.length : Nat) : Int))), (21, iV (((B.length - 1 : Nat) : Int))), (22, iV (((B.length - 1 : Nat) : Int))), (23, iV (((i : Nat) : Int))), (24, .string ((tx s7))), (25, iV (((s7.length : Nat) : Int))), (26, bV true), (160, bV false), (161, .int .i32 r), (162, bV true), (163, bV true), (164, .int .i32 r), (165, bV false), (166, bV false), (171, bV false), (172, .int .i32 r), (173, bV false), (183, bV false), (184, .int .i32 r), (185, bV true), (186, bV false)] ∧ Mg w w1 ([])) → K18 a w1 := by
   clear A M
   rintro a w20 ⟨q, hf21, A, M⟩
   obtain ⟨hq1, hqi, hq2, hq3, hq4, hf0⟩ := hf21
   refine hK18 _ _ (wsk fun K22 hK22 => wsk fun K23 hK23 => wrl (sda A λa A↦?_))
   refine qa (hK23 _ _ (wp_block (zm (fun m_ a w1 => ∃ (j : Nat), m_ = B.length - j ∧ (1 ≤ j ∧ j ≤ B.length ∧ ∀ t, t < j → s7.getD (q - t) 0 = B.getD (B.length - 1 - t) 0) ∧ Sl a 187 [(0, .string ((tx s7))), (1, .int .i32 r), (7, .string ((tx B))), (8, iV (((B.length - 1 : Nat) : Int))), (9, iV (((q : Nat) : Int))), (10, iV (((f : Nat) : Int))), (12, iV (((j : Nat) : Int))), (17, .int .i32 r), (18, .string ((tx B))), (19, .string ((tx B))), (20, iV (((B.length : Nat) : Int))), (21, iV (((B.length - 1 : Nat) : Int))), (22, iV (((B.length - 1 : Nat) : Int))), (23, iV (((i : Nat) : Int))), (24, .string ((tx s7))), (25, iV (((s7.length : Nat) : Int))), (26, bV true), (160, bV false), (161, .int .i32 r), (162, bV true), (163, bV true), (164, .int .i32 r), (165, bV false), (166, bV false), (171, bV false), (172, .int .i32 r), (173, bV false), (183, bV false), (184, .int .i32 r), (185, bV true), (186, bV false)] ∧ Mg w w1 ([])) _ ⟨1, rfl, ⟨Nat.le_refl _, by omega, fun t ht => by rw [show t = 0 by omega]; exact hq3⟩, A.keep _ (by repeat' constructor), M⟩ ?_)))
   clear M A
   rintro m_ a w24 ⟨j, rfl, hinv26, A, M⟩ K25 hK25
   obtain ⟨hj1, hj2, hj3⟩ := hinv26
   refine wsk fun K27 hK27 => wsk fun K28 hK28 => wrl ?_
   iterate 2 refine sdm A λa A↦?_
   refine sdo (v := iV (((B.length : Nat) : Int))) A (zh (s := B) Tryz.underlying9 rfl) λa A↦?_
   rcases tf (decide (((j : Nat) : Int) < ((B.length : Nat) : Int))) with hb29 | hb29
   ·
    have hb29' := of_decide_eq_true hb29
    refine sdc A qw hb29 λa A↦?_
    refine qa (hK28 _ _ (ct A ?_))
    refine wp_skip (hK27 _ _ (wsk fun K30 hK30 => wp_block (wsk fun K31 hK31 => zj (S := fun w1 => Mg w w1 ([])) (by kernel_rfl) ?_)))
    replace M := M.drew
    refine amv A 0 rfl hP (M.sub ns) λa A↦?_
    refine amv A 1 rfl hP (M.sub ns) λa A↦?_
    refine amv A 2 rfl hP (M.sub ns) λa A↦?_
    refine atk (v := iV (((q - j : Nat) : Int))) A 3 rfl hP (M.sub ns) (λ_ M↦qb rfl rfl (ar_sub ((in_i64 (by omega) (by omega)).trans (by omega)))) λa A↦?_
    refine atk (v := .int .u8 ((((s7.getD (q - j) 0).toNat : Nat) : Int))) A 4 rfl hP (M.sub ns) (λ_ M↦zb (s := s7) (i := q - j) (b := s7.getD (q - j) 0) Tryz.underlying9 rfl rfl rfl (zi (by omega))) λa A↦?_
    refine amv A 5 rfl hP (M.sub ns) λa A↦?_
    refine amv A 6 rfl hP (M.sub ns) λa A↦?_
    refine amv A 7 rfl hP (M.sub ns) λa A↦?_
    refine atk (v := iV (((B.length - 1 - j : Nat) : Int))) A 8 rfl hP (M.sub ns) (λ_ M↦qb rfl rfl (ar_sub ((in_i64 (by omega) (by omega)).trans (by omega)))) λa A↦?_
    refine atk (v := .int .u8 ((((B.getD (B.length - 1 - j) 0).toNat : Nat) : Int))) A 9 rfl hP (M.sub ns) (λ_ M↦zb (s := B) (i := B.length - 1 - j) (b := B.getD (B.length - 1 - j) 0) Tryz.underlying9 rfl rfl rfl (zi (by omega))) λa A↦?_
    rcases tf (((((s7.getD (q - j) 0).toNat : Nat) : Int) != (((B.getD (B.length - 1 - j) 0).toNat : Nat) : Int))) with hb32 | hb32
    ·
     have hb32' := bne_iff_ne.1 hb32
     refine atk (v := bV true) A 10 rfl hP (M.sub ns) (λ_ M↦qb rfl rfl (fun w => (za w).trans (by rw [hb32]))) λa A↦?_
     refine qy (by kernel_rfl) ?_
     refine hK31 _ _ (ct A ?_)
     refine wp_goto (And.intro rfl ?_)
     refine wsk fun K33 hK33 => wp_skip (hK33 _ _ (wsk fun K34 hK34 => wrl (sdm A λa A↦?_)))
     refine sdo (v := iV (((f + 1 : Nat) : Int))) A (qb rfl rfl (ar_add ((in_i64 (by omega) (by omega)).trans (by omega)))) λa A↦?_
     refine sda A λa A↦?_
     refine qa (hK34 _ _ (wsk fun K35 hK35 => wrl (sdm A λa A↦?_)))
     refine sdo (v := iV (((q + 1 : Nat) : Int))) A (qb rfl rfl (ar_add ((in_i64 (by omega) (by omega)).trans (by omega)))) λa A↦?_
     refine sda A λa A↦?_
     refine qa (hK35 _ _ (wsk fun K36 hK36 => wrl ?_))
     iterate 3 refine sdm A λa A↦?_
     refine gcl A M (ef rfl rfl) (jj (by omega) (by omega)) fun w38 hb37 M a A => ?_
     refine sdo (v := bV false) A (qb rfl rfl (fun w => (qx w).trans (by rw [show (decide (2 < ((f + 1 : Nat) : Int))) = false from (decide_eq_false (by omega))]))) λa A↦?_
     refine sdk (v := bV false) A λa A↦?_
     refine sdm A λa A↦?_
     iterate 4 refine qg A rfl rfl rfl λa A↦?_
     refine sdk (v := bV false) A λa A↦?_
     iterate 2 refine sdm A λa A↦?_
     iterate 5 refine qg A rfl rfl rfl λa A↦?_
     refine sdk (v := bV false) A λa A↦?_
     refine sdm A λa A↦?_
     iterate 4 refine qg A rfl rfl rfl λa A↦?_
     iterate 2 refine sdk (v := bV false) A λa A↦?_
     refine qa (hK36 _ _ (cf A ?_))
     refine wp_skip ?_
     refine hK13 _ _ _ (by omega) ⟨q + 1, f + 1, rfl, ⟨by omega, by omega, fun k hk hs => by by_cases h9 : k < q; exact hq4 k h9 hs; rw [show k = q by omega] at hs; exact bne_iff_ne.1 hb32 (by rw [hs.2.2 j (by omega)]), .inr ⟨by omega, fun k h8 h9 k9 => jy (i := q) (k := k) (by omega) h9 (hq3.trans k9.symm)⟩⟩, A.keep _ (by repeat' constructor), M⟩
    ·
     have hb32' := bne_eq_false_iff_eq.1 hb32
     refine atk (v := bV false) A 10 rfl hP (M.sub ns) (λ_ M↦qb rfl rfl (fun w => (za w).trans (by rw [hb32]))) λa A↦?_
     refine qy (by kernel_rfl) ?_
     refine hK31 _ _ (cf A ?_)
     refine wp_skip (hK30 _ _ (wrl (sdm A λa A↦?_)))
     refine sdo (v := iV (((j + 1 : Nat) : Int))) A (qb rfl rfl (ar_add ((in_i64 (by omega) (by omega)).trans (by omega)))) λa A↦?_
     refine sda A λa A↦?_
     refine qa ?_
     refine hK25 _ _ _ (by omega) ⟨j + 1, rfl, ⟨by omega, by omega, fun t ht => by by_cases h9 : t < j; exact hj3 t h9; rw [show t = j by omega]; exact zl (by simpa using hb32)⟩, A.keep _ (by repeat' constructor), M⟩
   ·
    have hb29' := of_decide_eq_false hb29
    refine sdc A qw hb29 λa A↦?_
    refine qa (hK28 _ _ (cf A ?_))
    refine wp_exit (hK22 _ _ (wsk fun K39 hK39 => wsk fun K40 hK40 => wrl ?_))
    iterate 2 refine sdm A λa A↦?_
    refine sdo (v := iV (((q - (B.length - 1) : Nat) : Int))) A (qb rfl rfl (ar_sub ((in_i64 (by omega) (by omega)).trans (by omega)))) λa A↦?_
    refine sda A λa A↦?_
    refine qa (hK40 _ _ (wr1 hret A ?_))
    exact ⟨_, rfl, .inl ⟨by omega, q, hq1, hq2, fun t ht => hj3 t (by have h9 := of_decide_eq_false hb29; omega)⟩, M.bel⟩
  refine wsk fun K41 hK41 => zj (S := fun w1 => Mg w w1 ([])) (by kernel_rfl) ?_
  replace M := M.drew
  refine amv A 0 rfl hP (M.sub ns) λa A↦?_
  refine amv A 1 rfl hP (M.sub ns) λa A↦?_
  refine atk (v := .int .u8 ((((s7.getD i 0).toNat : Nat) : Int))) A 2 rfl hP (M.sub ns) (λ_ M↦zb (s := s7) (i := i) (b := s7.getD i 0) Tryz.underlying9 rfl rfl rfl (zi (by omega))) λa A↦?_
  refine amv A 3 rfl hP (M.sub ns) λa A↦?_
  refine amv A 4 rfl hP (M.sub ns) λa A↦?_
  refine atk (v := .int .u8 ((((B.getD (B.length - 1) 0).toNat : Nat) : Int))) A 5 rfl hP (M.sub ns) (λ_ M↦zb (s := B) (i := B.length - 1) (b := B.getD (B.length - 1) 0) Tryz.underlying9 rfl rfl rfl (zi (by omega))) λa A↦?_
  rcases tf (((((s7.getD i 0).toNat : Nat) : Int) != (((B.getD (B.length - 1) 0).toNat : Nat) : Int))) with hb42 | hb42
  ·
   have hb42' := bne_iff_ne.1 hb42
   refine atk (v := bV true) A 6 rfl hP (M.sub ns) (λ_ M↦qb rfl rfl (fun w => (za w).trans (by rw [hb42]))) λa A↦?_
   refine qy (by kernel_rfl) ?_
   refine hK41 _ _ (ct A ?_)
   refine wsk fun K43 hK43 => zj (S := fun w1 => Mg w w1 ([])) (by kernel_rfl) ?_
   replace M := M.drew
   refine amv A 0 rfl hP (M.sub ns) λa A↦?_
   refine amv A 1 rfl hP (M.sub ns) λa A↦?_
   refine atk (v := iV (((i + 1 : Nat) : Int))) A 2 rfl hP (M.sub ns) (λ_ M↦qb rfl rfl (ar_add ((in_i64 (by omega) (by omega)).trans (by omega)))) λa A↦?_
   refine atk (v := .string ((tx (s7.drop (i + 1))))) A 3 rfl hP (M.sub ns) (λ_ M↦qs (s := s7) (p := i + 1) Tryz.underlying9 rfl rfl rfl (by omega)) λa A↦?_
   refine amv A 4 rfl hP (M.sub ns) λa A↦?_
   refine amv A 5 rfl hP (M.sub ns) λa A↦?_
   refine atk (v := .int .u8 ((((B.getD (B.length - 1) 0).toNat : Nat) : Int))) A 6 rfl hP (M.sub ns) (λ_ M↦zb (s := B) (i := B.length - 1) (b := B.getD (B.length - 1) 0) Tryz.underlying9 rfl rfl rfl (zi (by omega))) λa A↦?_
   rcases tf (decide (0 ≤ Lib.indexByte (s7.drop (i + 1)) (B.getD (B.length - 1) 0))) with hb45 | hb45
   ·
    have hb45' := of_decide_eq_true hb45
    obtain ⟨o, ho47⟩ := Int.eq_ofNat_of_zero_le (of_decide_eq_true hb45)
    have hoB := (jd h2 ho47 (fun k9 => bne_iff_ne.1 hb42 (by rw [k9])) hi3).1
    refine zw (by kernel_rfl) (ji A 7 rfl rfl rfl rfl (ef rfl rfl) (ib_as (l := s7.drop (i + 1)) (b := B.getD (B.length - 1) 0) ho47) ?_)
    rintro _ w48 ⟨rfl, hb46⟩
    replace M := M.call hb46
    refine ⟨_, rfl, (M.sub ns), ?_⟩
    intro a A
    refine atk A 8 rfl hP (M.sub ns) (λ_ M↦zd rfl) λa A↦?_
    refine qy (by kernel_rfl) ?_
    refine hK43 _ _ (wsk fun K49 hK49 => wsk fun K50 hK50 => wrl (sdm A λa A↦?_))
    refine sdo (v := bV false) A (qb rfl rfl (fun w => (qw w).trans (by rw [show (decide (((o : Nat) : Int) < 0)) = false from (decide_eq_false (by omega))]))) λa A↦?_
    refine qa (hK50 _ _ (cf A ?_))
    refine wp_skip (hK49 _ _ (wrl ?_))
    iterate 2 refine sdm A λa A↦?_
    refine sdo (v := iV (((o + 1 : Nat) : Int))) A (qb rfl rfl (ar_add ((in_i64 (by omega) (by omega)).trans (by omega)))) λa A↦?_
    refine sdo (v := iV (((i + o + 1 : Nat) : Int))) A (qb rfl rfl (ar_add ((in_i64 (by omega) (by omega)).trans (by omega)))) λa A↦?_
    refine sda A λa A↦?_
    refine qa ?_
    exact hJ19 _ _ ⟨i + o + 1, (by obtain ⟨y1, y2, y3⟩ := jd h2 ho47 (fun k9 => bne_iff_ne.1 hb42 (by rw [k9])) hi3; exact ⟨by omega, by omega, y1, y2, y3, hi4.elim id fun k => absurd y2 (k.2 _ (by omega) y1)⟩), A.keep _ (by repeat' constructor), M⟩
   ·
    have hb45' := of_decide_eq_false hb45
    have ho52 : Lib.indexByte (s7.drop (i + 1)) (B.getD (B.length - 1) 0) = -1 := by have h8 := Lib.indexByte_ge (s7.drop (i + 1)) (B.getD (B.length - 1) 0); have h9 := of_decide_eq_false hb45; omega
    refine zw (by kernel_rfl) (ji A 7 rfl rfl rfl rfl (ef rfl rfl) (ib_as (l := s7.drop (i + 1)) (b := B.getD (B.length - 1) 0) ho52) ?_)
    rintro _ w53 ⟨rfl, hb51⟩
    replace M := M.call hb51
    refine ⟨_, rfl, (M.sub ns), ?_⟩
    intro a A
    refine atk A 8 rfl hP (M.sub ns) (λ_ M↦zd rfl) λa A↦?_
    refine qy (by kernel_rfl) ?_
    refine hK43 _ _ (wsk fun K54 hK54 => wsk fun K55 hK55 => wrl (sdm A λa A↦?_))
    refine sdo (v := bV true) A dbK λa A↦?_
    refine qa (hK55 _ _ (ct A ?_))
    refine wsk fun K56 hK56 => wrl (sda A λa A↦?_)
    refine qa (hK56 _ _ (wr1 hret A ?_))
    exact ⟨_, rfl, .inr ⟨by decide, jz h2 ho52 (fun k9 => bne_iff_ne.1 hb42 (by rw [k9])) hi3⟩, M.bel⟩
  ·
   have hb42' := bne_eq_false_iff_eq.1 hb42
   refine atk (v := bV false) A 6 rfl hP (M.sub ns) (λ_ M↦qb rfl rfl (fun w => (za w).trans (by rw [hb42]))) λa A↦?_
   refine qy (by kernel_rfl) ?_
   refine hK41 _ _ (cf A ?_)
   refine wp_skip ?_
   exact hJ19 _ _ ⟨i, (by have y2 : s7.getD i 0 = B.getD (B.length - 1) 0 := zl (by simpa using hb42); exact ⟨hi1, Nat.le_refl _, by omega, y2, hi3, hi4.elim id fun k => absurd y2 (k.2 _ (Nat.le_refl _) (by omega))⟩), A.keep _ (by repeat' constructor), M⟩
 ·
  have hb17' := of_decide_eq_false hb17
  refine sdc A qw hb17 λa A↦?_
  refine qa (hK16 _ _ (cf A ?_))
  refine wp_exit (hK11 _ _ (wsk fun K57 hK57 => wsk fun K58 hK58 => wrl (sda A λa A↦?_)))
  refine qa (hK58 _ _ (wr1 hret A ?_))
  exact ⟨_, rfl, .inr ⟨by decide, fun k hk => hi3 k (by have h8 := hk.2.1; have h9 := of_decide_eq_false hb17; omega) hk⟩, M.bel⟩
theorem zq {w : World} {r : Int} {B : List UInt8} (h2 : 2 ≤ B.length) (h4 : B.length ≤ 4) (h0 : 128 ≤ r) (hne : r ≠ 65533) (hv : Lib.validRune r = true) (henc : Utf8.encode r = tx B) (hx : (∃ k, atS B k) ↔ ln7 r = true) : Calls Tryz.prog 71 #[.string (tx s7), .int .i32 r] w fun e w' => ∃ v : Int, e = .returned (iV v) ∧ decide (0 ≤ v) = ln7 r ∧ Below w.heap.size w w' := (jk h2 h4 h0 hne hv henc).mono fun e w' ⟨v, h1, h3, h5⟩ => by
 refine ⟨v, h1, ?_, h5⟩
 rcases h3 with ⟨h6, h7⟩ | ⟨h6, h7⟩
 ·
  rw [hx.1 h7]; exact decide_eq_true h6
 ·
  rw [show ln7 r = false from Bool.eq_false_iff.2 fun k => (hx.2 k).elim h7]; exact decide_eq_false (by omega)
theorem je {k : Nat} (h : k < 7) : k = 0 ∨ k = 1 ∨ k = 2 ∨ k = 3 ∨ k = 4 ∨ k = 5 ∨ k = 6 := by omega
theorem xh {r : Int} {b0 b1 : UInt8} (h0 : 128 ≤ r) (h1 : r ≤ 2047) (e0 : ((b0.toNat : Nat) : Int) = 192 + r / 64) (e1 : ((b1.toNat : Nat) : Int) = 128 + r % 64) : (∃ k, atS [b0, b1] k) ↔ ln7 r = true := by
 constructor
 ·
  rintro ⟨k, q1, q2, q3⟩
  have z1 : s7.getD k 0 = b1 := q3 0 (by simp)
  have z0 : s7.getD (k - 1) 0 = b0 := q3 1 (by simp)
  subst z1 z0
  apply decide_eq_true
  rcases je q2 with rfl | rfl | rfl | rfl | rfl | rfl | rfl <;> simp [s7] at e0 e1 <;> omega
 ·
  intro h
  have hr : r = 133 := by have := of_decide_eq_true h; omega
  subst hr
  obtain rfl : b0 = 194 := zl (e0.trans (by decide))
  obtain rfl : b1 = 133 := zl (e1.trans (by decide))
  exact ⟨3, by decide, by decide, by decide⟩
theorem xi {r : Int} {b0 b1 b2 : UInt8} (h0 : 2048 ≤ r) (h1 : r ≤ 65535) (e0 : ((b0.toNat : Nat) : Int) = 224 + r / 4096) (e1 : ((b1.toNat : Nat) : Int) = 128 + r / 64 % 64) (e2 : ((b2.toNat : Nat) : Int) = 128 + r % 64) : (∃ k, atS [b0, b1, b2] k) ↔ ln7 r = true := by
 constructor
 ·
  rintro ⟨k, q1, q2, q3⟩
  have z2 : s7.getD k 0 = b2 := q3 0 (by simp)
  have z1 : s7.getD (k - 1) 0 = b1 := q3 1 (by simp)
  have z0 : s7.getD (k - 2) 0 = b0 := q3 2 (by simp)
  subst z2 z1 z0
  apply decide_eq_true
  rcases je q2 with rfl | rfl | rfl | rfl | rfl | rfl | rfl <;> simp [s7] at e0 e1 e2 <;> omega
 ·
  intro h
  have hr : r = 8232 := by have := of_decide_eq_true h; omega
  subst hr
  obtain rfl : b0 = 226 := zl (e0.trans (by decide))
  obtain rfl : b1 = 128 := zl (e1.trans (by decide))
  obtain rfl : b2 = 168 := zl (e2.trans (by decide))
  exact ⟨6, by decide, by decide, by decide⟩
theorem xj {r : Int} {b0 b1 b2 b3 : UInt8} (h0 : 65536 ≤ r) (h1 : r ≤ 1114111) (e0 : ((b0.toNat : Nat) : Int) = 240 + r / 262144) : (∃ k, atS [b0, b1, b2, b3] k) ↔ ln7 r = true := by
 constructor
 ·
  rintro ⟨k, q1, q2, q3⟩
  have z0 : s7.getD (k - 3) 0 = b0 := q3 3 (by simp)
  subst z0
  exfalso
  rcases je q2 with rfl | rfl | rfl | rfl | rfl | rfl | rfl <;> simp [s7] at e0 <;> omega
 ·
  intro h
  have := of_decide_eq_true h
  omega
theorem jo {w : World} {r : Int} (h : C.OkR r) : Calls Tryz.prog 71 #[.string (tx [10, 13, 194, 133, 226, 128, 168]), .int .i32 r] w fun e w' => ∃ v : Int, e = .returned (iV v) ∧ decide (0 ≤ v) = ln7 r ∧ Below w.heap.size w w' := by
 by_cases h128 : r < 128
 ·
  have h0 : 0 ≤ r := by unfold C.OkR at h; omega
  refine (Tryz.strings_IndexRune_ascii (tx [10, 13, 194, 133, 226, 128, 168]) r w h0 h128).mono ?_
  rintro e w' ⟨rfl, rfl⟩
  have := C.ix7 r.toNat (by omega)
  rw [Int.toNat_of_nonneg h0] at this
  exact ⟨_, rfl, this, Below.refl _ _⟩
 ·
  by_cases he : r = 65533
  ·
   subst he
   refine (C.irune_err7 w).mono ?_
   rintro e w' ⟨rfl, hb⟩
   exact ⟨_, rfl, by decide, hb⟩
  ·
   have hv := h.valid
   unfold C.OkR at h
   by_cases h2 : r ≤ 2047
   ·
    exact zq (by simp) (by simp) (by omega) he hv (enc_tx hv (by unfold Lib.encodeRune; rw [Lib.encodeRuneZ_two (by omega) h2]; rfl)) (xh (by omega) h2 (byte_of (x := 192 + r / 64) (by omega) (by omega)) (byte_of (x := 128 + r % 64) (by omega) (by omega)))
   ·
    by_cases h3 : r ≤ 65535
    ·
     exact zq (by simp) (by simp) (by omega) he hv (enc_tx hv (by unfold Lib.encodeRune; rw [Lib.encodeRuneZ_three (by omega)]; rfl)) (xi (by omega) h3 (byte_of (x := 224 + r / 4096) (by omega) (by omega)) (byte_of (x := 128 + r / 64 % 64) (by omega) (by omega)) (byte_of (x := 128 + r % 64) (by omega) (by omega)))
    ·
     exact zq (by simp) (by simp) (by omega) he hv (enc_tx hv (by unfold Lib.encodeRune; rw [Lib.encodeRuneZ_four (by omega) (by omega)]; rfl)) (xj (by omega) (by omega) (byte_of (x := 240 + r / 262144) (by omega) (by omega)))
def lnX (l : List UInt8) : Nat := C.lnN l.length l
theorem zv {w : World} {l : List UInt8} (hl : l.length < 4294967281) : Calls Tryz.prog 51 #[.string (tx l), .string (tx [10, 13, 194, 133, 226, 128, 168])] w fun e w' => (∃ v : Int, e = .returned (iV v) ∧ (v = ((lnX l : Nat) : Int) ∧ lnX l < l.length ∨ v = -1 ∧ lnX l = l.length)) ∧ Below w.heap.size w w' := by
 have := C.iany7 (tx l) (fun r w h => jo h) w (by rw [jg]; exact hl)
 rwa [jg, xe] at this
theorem xk {w : World} {l : List UInt8} (hl : l.length < 4294967281) (h : decide (lnX l < l.length) = true) : Calls Tryz.prog 51 #[.string (tx l), .string (tx [10, 13, 194, 133, 226, 128, 168])] w fun e w' => e = .returned (iV ((lnX l : Nat) : Int)) ∧ Below w.heap.size w w' := (zv hl).mono fun e w' h1 => by
 obtain ⟨⟨v, rfl, h2 | h2⟩, hb⟩ := h1
 ·
  exact ⟨by rw [h2.1], hb⟩
 ·
  exact absurd (of_decide_eq_true h) (by omega)
theorem xl {w : World} {l : List UInt8} (hl : l.length < 4294967281) (h : decide (lnX l < l.length) = false) : Calls Tryz.prog 51 #[.string (tx l), .string (tx [10, 13, 194, 133, 226, 128, 168])] w fun e w' => e = .returned (iV (-1)) ∧ lnX l = l.length ∧ Below w.heap.size w w' := (zv hl).mono fun e w' h1 => by
 obtain ⟨⟨v, rfl, h2 | h2⟩, hb⟩ := h1
 ·
  exact absurd h2.2 (of_decide_eq_false h)
 ·
  exact ⟨by rw [h2.1], h2.2, hb⟩
end Go.Proofs.YtclkfideaameoaaGreatDoor.G
