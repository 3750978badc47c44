/- A number as it lies in a row of cells. Data as trees: as they lie in memory, and as they are. Steps over data: what is read of a node, and of a list of them. How much a datum holds. The order of data, told on trees: it is one, and 0 for the same trees alone. Bytes compared by the library. The walk of the document's utf8. Units of a text as rows; when a text has no bad byte. Walks of the size of data. Walks of what makes a node sound. -/
import Derived.Test.YtabjlejolmmeeaaGreatDoorPequalc13c
import Derived.Test.YtabjlejolmmeeaaGreatDoorPequalc13e
import Derived.Test.YtabjlejolmmeeaaGreatDoorPequalc13f
import Derived.Lib.ValidU
import Derived.Lib.Bytealg
import Derived.Test.YtabjlejolmmeeaaGreatDoorProg
import Derived.Test.YtabjlejolmmeeaaGreatDoorShelf
import Derived.WalkKit
import Derived.WalkSpells
import Derived.Lib.ConvBytes
import Derived.Test.YtabjlejolmmeeaaGreatDoorShelfB
namespace Go.Proofs.YtabjlejolmmeeaaGreatDoor.G
open Go.RowKit
set_option linter.unusedVariables false
set_option linter.unusedSimpArgs false

/-- A number as it lies in a row of cells. -/
structure Nu where
  q : Q6
  o1 : Option Addr
  c1 : Nat
  o2 : Option Addr
  c2 : Nat
  o3 : Option Addr
  c3 : Nat
  o4 : Option Addr
  c4 : Nat
def Nu.nm (w : World) (y : Nu) : Prop := Nm w y.q y.o1 y.c1 y.o2 y.c2 y.o3 y.c3 y.o4 y.c4
theorem Nu.below {w w' : World} {y : Nu} (h : y.nm w) (hb : Below w.heap.size w w') : y.nm w' := ⟨h.s1.below hb, h.s2.below hb, h.s3.below hb, h.s4.below hb⟩
def Nu.val (y : Nu) : Value := qbe y.q y.o1 y.c1 y.o2 y.c2 y.o3 y.c3 y.o4 y.c4
theorem vx {P : Program} {w : World} {l : List (Nat × Value)} {dst : Option Tmp} {ty : TypeId} {pos : String} {after : Array Edge} {guard : Option (Nat × Bool)} {x : Operand} {a : Addr} (hx : ev l x = some (.pointer (some a))) : Does P l ⟨dst, .nilCheck x, ty, pos, after, guard⟩ w (.pointer (some a)) w := fun ρ h => by
  simp only [execOp, h x _ hx, Sem.run_pure]
/-- A node, but for what is below it. -/
structure Nd where
  k : Int
  n : Int
  y : Nu
  s : ByteArray
  ro : Option Addr
  rc : Nat
  rl : List UInt8
  lo : Option Addr
  lc : Nat
/-- A datum as it lies in memory. -/
inductive Dt where
  | mk (d : Nd) (ts : List Dt)
def Dt.d : Dt → Nd
  | .mk d _ => d
def Dt.ts : Dt → List Dt
  | .mk _ ts => ts
def Nd.cells (d : Nd) (m : Nat) : List Value := [.int .i64 d.k, .int .i64 d.n, .bool d.y.q.b1, .slice d.y.o1 d.y.q.t1.length d.y.c1, .slice d.y.o2 d.y.q.q1.length d.y.c2, .bool d.y.q.b2, .slice d.y.o3 d.y.q.t2.length d.y.c3, .slice d.y.o4 d.y.q.q2.length d.y.c4, .string d.s, .slice d.ro d.rl.length d.rc, .slice d.lo m d.lc]
def Dt.cells (t : Dt) : List Value := t.d.cells t.ts.length
/-- A datum as it is. -/
inductive Tr where
  | mk (k n : Int) (q : Q6) (s : ByteArray) (rl : List UInt8) (ts : List Tr)
def Tr.k : Tr → Int
  | .mk k _ _ _ _ _ => k
def Tr.n : Tr → Int
  | .mk _ n _ _ _ _ => n
def Tr.q : Tr → Q6
  | .mk _ _ q _ _ _ => q
def Tr.s : Tr → ByteArray
  | .mk _ _ _ s _ _ => s
def Tr.rl : Tr → List UInt8
  | .mk _ _ _ _ r _ => r
def Tr.ts : Tr → List Tr
  | .mk _ _ _ _ _ ts => ts
mutual
def Dt.tr : Dt → Tr
  | .mk d ts => .mk d.k d.n d.y.q d.s d.rl (Dt.trs ts)
def Dt.trs : List Dt → List Tr
  | [] => []
  | t :: ts => t.tr :: Dt.trs ts
end
theorem Dt.trs_map : ∀ ts : List Dt, Dt.trs ts = ts.map Dt.tr
  | [] => by simp [Dt.trs]
  | t :: ts => by simp [Dt.trs, Dt.trs_map ts]
mutual
theorem Dt.indT {P : Dt → Prop} (h : ∀ d ts, (∀ t ∈ ts, P t) → P (.mk d ts)) : ∀ t, P t
  | .mk d ts => h d ts (Dt.indL h ts)
theorem Dt.indL {P : Dt → Prop} (h : ∀ d ts, (∀ t ∈ ts, P t) → P (.mk d ts)) : ∀ ts : List Dt, ∀ t ∈ ts, P t
  | [], t, ht => by cases ht
  | u :: us, t, ht => by
    rcases List.mem_cons.1 ht with e | e
    · rw [e]; exact Dt.indT h u
    · exact Dt.indL h us t e
end
mutual
theorem Tr.indT {P : Tr → Prop} (h : ∀ k n q s rl ts, (∀ t ∈ ts, P t) → P (.mk k n q s rl ts)) : ∀ t, P t
  | .mk k n q s rl ts => h k n q s rl ts (Tr.indL h ts)
theorem Tr.indL {P : Tr → Prop} (h : ∀ k n q s rl ts, (∀ t ∈ ts, P t) → P (.mk k n q s rl ts)) : ∀ ts : List Tr, ∀ t ∈ ts, P t
  | [], t, ht => by cases ht
  | u :: us, t, ht => by
    rcases List.mem_cons.1 ht with e | e
    · rw [e]; exact Tr.indT h u
    · exact Tr.indL h us t e
end
/-- These cells stand there. -/
def Here (w : World) (b o : Nat) (cs : List Value) : Prop := b < w.heap.size ∧ ∀ j v, cs[j]? = some v → w.cell? ⟨b, o + j, none⟩ = some v
theorem Here.below {w w' : World} {b o : Nat} {cs : List Value} (h : Here w b o cs) (hb : Below w.heap.size w w') : Here w' b o cs := ⟨Nat.lt_of_lt_of_le h.1 hb.size, fun j v hj => (hb.cell h.1).trans (h.2 j v hj)⟩
/-- A slice reads as these data, one behind the other. -/
def Rt (w : World) (lo : Option Addr) (ts : List Dt) : Prop := ts ≠ [] → ∃ b o, lo = some ⟨b, o, none⟩ ∧ ∀ i t, ts[i]? = some t → Here w b (o + i * 11) t.cells
theorem Rt.below {w w' : World} {lo : Option Addr} {ts : List Dt} (h : Rt w lo ts) (hb : Below w.heap.size w w') : Rt w' lo ts := fun hne => by
  obtain ⟨b, o, e, h2⟩ := h hne
  exact ⟨b, o, e, fun i t hi => (h2 i t hi).below hb⟩
structure NdOk (w : World) (d : Nd) : Prop where
  num : d.y.nm w
  len : LenQ d.y.q
  raw : Rb w d.ro d.rl
  rcap : d.rl.length ≤ d.rc
  rmax : d.rc ≤ 9223372036854775807
  k0 : -9223372036854775808 ≤ d.k
  k1 : d.k ≤ 9223372036854775807
  n0 : -9223372036854775808 ≤ d.n
  n1 : d.n ≤ 9223372036854775807
  smax : d.s.size ≤ 9223372036854775807
theorem NdOk.below {w w' : World} {d : Nd} (h : NdOk w d) (hb : Below w.heap.size w w') : NdOk w' d := { h with num := Nu.below h.num hb, raw := h.raw.below hb }
mutual
/-- A datum reads so. -/
def Dt.rd (w : World) : Dt → Prop
  | .mk d ts => NdOk w d ∧ ts.length ≤ d.lc ∧ d.lc ≤ 9223372036854775807 ∧ Rt w d.lo ts ∧ Dt.rds w ts
def Dt.rds (w : World) : List Dt → Prop
  | [] => True
  | t :: ts => t.rd w ∧ Dt.rds w ts
end
theorem Dt.rds_iff {w : World} : ∀ {ts : List Dt}, Dt.rds w ts ↔ ∀ t ∈ ts, t.rd w
  | [] => by simp [Dt.rds]
  | t :: ts => by simp [Dt.rds, Dt.rds_iff (ts := ts)]
theorem Dt.rd_iff {w : World} {d : Nd} {ts : List Dt} : (Dt.mk d ts).rd w ↔ NdOk w d ∧ ts.length ≤ d.lc ∧ d.lc ≤ 9223372036854775807 ∧ Rt w d.lo ts ∧ ∀ t ∈ ts, t.rd w := by
  rw [← Dt.rds_iff]; unfold Dt.rd; exact Iff.rfl
theorem Dt.keep {w w' : World} (hb : Below w.heap.size w w') : ∀ t : Dt, t.rd w → t.rd w' :=
  Dt.indT fun d ts ih h => by
    rw [Dt.rd_iff] at h ⊢
    exact ⟨h.1.below hb, h.2.1, h.2.2.1, h.2.2.2.1.below hb, fun t ht => ih t ht (h.2.2.2.2 t ht)⟩
theorem Dt.tr_mk (d : Nd) (ts : List Dt) : (Dt.mk d ts).tr = .mk d.k d.n d.y.q d.s d.rl (ts.map Dt.tr) := by rw [Dt.tr, Dt.trs_map]
/-! ### Sound data -/
mutual
/-- How many nodes are left, and whether it was within the limits. -/
def jx (dp left : Int) : Tr → Bool × Int
  | .mk k _ _ _ _ ts => if left - 1 < 0 ∨ 200 < dp then (false, left - 1) else ub dp (decide (k = 8)) 0 (left - 1) ts
def ub (dp : Int) (pr : Bool) (i : Nat) (left : Int) : List Tr → Bool × Int
  | [] => (true, left)
  | t :: ts => if (jx (if pr = true ∧ i = 1 then dp else dp + 1) left t).1 = true then ub dp pr (i + 1) (jx (if pr = true ∧ i = 1 then dp else dp + 1) left t).2 ts else (false, (jx (if pr = true ∧ i = 1 then dp else dp + 1) left t).2)
end
mutual
/-- Is each node so? -/
def ut (p : Tr → Bool) : Tr → Bool
  | .mk k n q s rl ts => p (.mk k n q s rl ts) && qbj p ts
def qbj (p : Tr → Bool) : List Tr → Bool
  | [] => true
  | t :: ts => ut p t && qbj p ts
end
mutual
/-- The document's count. -/
def qbf (p : Tr → Bool) (dp left : Int) : Tr → Int
  | .mk k n q s rl ts => if 200 < dp ∨ left ≤ 0 ∨ p (.mk k n q s rl ts) = false then -1 else qch p dp (decide (k = 8)) 0 (left - 1) ts
def qch (p : Tr → Bool) (dp : Int) (pr : Bool) (i : Nat) (left : Int) : List Tr → Int
  | [] => left
  | t :: ts => if left < 0 then left else qch p dp pr (i + 1) (qbf p (if pr = true ∧ i = 1 then dp else dp + 1) left t) ts
end
theorem qia {p : Tr → Bool} {dp left : Int} {pr : Bool} {i : Nat} {ts : List Tr} (h : left < 0) : qch p dp pr i left ts = left := by
  cases ts with
  | nil => rfl
  | cons t ts => rw [qch, if_pos h]
def Agree (p : Tr → Bool) (t : Tr) : Prop := ∀ dp left : Int, 0 ≤ left → qbf p dp left t = if (jx dp left t).1 = true ∧ ut p t = true then (jx dp left t).2 else -1
theorem qae : ∀ t : Tr, ∀ dp left : Int, (jx dp left t).1 = true → 0 ≤ (jx dp left t).2 := by
  refine Tr.indT fun k n q s rl ts ih dp left h => ?_
  rw [jx] at h ⊢
  by_cases hc : left - 1 < 0 ∨ 200 < dp
  · rw [if_pos hc] at h; cases h
  · rw [if_neg hc] at h ⊢
    have hl : 0 ≤ left - 1 := by omega
    generalize left - 1 = m at h hl ⊢
    generalize decide (k = 8) = pr at h ⊢
    have key : ∀ (us : List Tr), (∀ t ∈ us, ∀ dp left : Int, (jx dp left t).1 = true → 0 ≤ (jx dp left t).2) → ∀ (i : Nat) (m : Int), 0 ≤ m → (ub dp pr i m us).1 = true → 0 ≤ (ub dp pr i m us).2 := by
      intro us
      induction us with
      | nil => intro _ i m hm _; exact hm
      | cons t us ih2 =>
        intro hu i m hm h
        rw [ub] at h ⊢
        by_cases ht : (jx (if pr = true ∧ i = 1 then dp else dp + 1) m t).1 = true
        · rw [if_pos ht] at h ⊢
          exact ih2 (fun x hx => hu x (List.mem_cons_of_mem _ hx)) _ _ (hu t List.mem_cons_self _ _ ht) h
        · rw [if_neg ht] at h; cases h
    exact key ts ih 0 m hl h
theorem qle (p : Tr → Bool) : ∀ t : Tr, Agree p t := by
  refine Tr.indT fun k n q s rl ts ih dp left h0 => ?_
  rw [qbf, jx, ut]
  by_cases hd : 200 < dp
  · rw [if_pos (.inl hd), if_pos (show left - 1 < 0 ∨ 200 < dp from .inr hd), if_neg (by simp)]
  · by_cases hl : left ≤ 0
    · rw [if_pos (.inr (.inl hl)), if_pos (show left - 1 < 0 ∨ 200 < dp from .inl (by omega)), if_neg (by simp)]
    · rw [if_neg (show ¬ (left - 1 < 0 ∨ 200 < dp) by omega)]
      cases hp : p (.mk k n q s rl ts) with
      | false => rw [if_pos (.inr (.inr rfl)), if_neg (by simp)]
      | true =>
        rw [if_neg (by simp; omega), Bool.true_and]
        have hm : 0 ≤ left - 1 := by omega
        generalize left - 1 = m at hm ⊢
        generalize decide (k = 8) = pr
        have key : ∀ (us : List Tr), (∀ t ∈ us, Agree p t) → ∀ (i : Nat) (m : Int), 0 ≤ m → qch p dp pr i m us = if (ub dp pr i m us).1 = true ∧ qbj p us = true then (ub dp pr i m us).2 else -1 := by
          intro us
          induction us with
          | nil => intro _ i m hm; rw [qch, ub, qbj, if_pos ⟨rfl, rfl⟩]
          | cons t us ih2 =>
            intro hu i m hm
            rw [qch, ub, qbj, if_neg (by omega), hu t List.mem_cons_self _ _ hm]
            by_cases ht : (jx (if pr = true ∧ i = 1 then dp else dp + 1) m t).1 = true
            · cases ha : ut p t with
              | false =>
                rw [if_neg (by simp), if_neg (by simp), qia (by decide)]
              | true =>
                rw [if_pos ⟨ht, rfl⟩, if_pos ht, Bool.true_and]
                exact ih2 (fun x hx => hu x (List.mem_cons_of_mem _ hx)) _ _ (qae t _ _ ht)
            · rw [if_neg (fun e => ht e.1), if_neg ht, if_neg (by simp), qia (by decide)]
        exact key ts ih 0 m hm
/-- Within the limits, and sound at each node. -/
def jl (p : Tr → Bool) (t : Tr) : Bool := (jx 1 20000 t).1 && ut p t
theorem count_sound (p : Tr → Bool) (t : Tr) : decide (0 ≤ qbf p 1 20000 t) = jl p t := by
  rw [qle p t 1 20000 (by decide)]
  unfold jl
  by_cases h : (jx 1 20000 t).1 = true
  · cases ha : ut p t with
    | true =>
      rw [if_pos ⟨h, rfl⟩, h, Bool.and_self]
      exact decide_eq_true (qae t _ _ h)
    | false => rw [if_neg (by simp), Bool.and_false]; rfl
  · rw [if_neg (fun e => h e.1), Bool.eq_false_iff.2 h]; rfl
section
variable {P : Program} {w0 w : World} {L : List Ck} {l : List (Nat × Value)} {dst : Option Tmp} {ty : TypeId} {pos : String} {after : Array Edge} {guard : Option (Nat × Bool)} {v : Value}
theorem qci (hM : Mg w0 w L) {b o o' j : Nat} {cs : List Value} (hH : Here w0 b o cs) {t : TypeId} (ht : Is1 P t) {x : Operand} (hx : ev l x = some (.pointer (some ⟨b, o', none⟩))) (ho : o' = o + j) (hv : cs[j]? = some v) : Does P l ⟨dst, .load t x, ty, pos, after, guard⟩ w v w := by
  subst ho
  exact xt hx (kh ht ((hM.bel.cell hH.1).trans (hH.2 j v hv)))
theorem jt (hM : Mg w0 w L) {b o n : Nat} {cs : List Value} (hH : Here w0 b o cs) {t : TypeId} (ht : IsS P t n) {x : Operand} (hx : ev l x = some (.pointer (some ⟨b, o, none⟩))) (hl : cs.length = n) : Does P l ⟨dst, .load t x, ty, pos, after, guard⟩ w (.agg cs.toArray) w :=
  xt hx (yh ht cs hl (fun j v hj => (hM.bel.cell hH.1).trans (hH.2 j v hj)))
theorem zx {t e : TypeId} {sz : Nat} (hu : P.underlying t = some (.slice e)) (he : (P.info? e).map (·.size) = some sz) {x i : Operand} {so : Option Addr} {g off n c k : Nat} {z : Int} (hx : ev l x = some (.slice so n c)) (hi : ev l i = some (.int .i64 z)) (hz : z = (k : Nat)) (hso : so = some ⟨g, off, none⟩) (hk : k < n) :
    Does P l ⟨dst, .indexAddr t x i, ty, pos, after, guard⟩ w (.pointer (some ⟨g, off + k * sz, none⟩)) w := by
  subst hz hso
  exact jv (l := l) (dst := dst) (ty := ty) (pos := pos) (after := after) (guard := guard) (w := w) hx hi (qib hu he hk)
end
/-- A child of a node. -/
theorem kid {w : World} {d : Nd} {ts : List Dt} (h : (Dt.mk d ts).rd w) {i : Nat} (hi : i < ts.length) : ∃ t b o, ts[i]? = some t ∧ t ∈ ts ∧ t.rd w ∧ d.lo = some ⟨b, o, none⟩ ∧ Here w b (o + i * 11) t.cells := by
  rw [Dt.rd_iff] at h
  have hne : ts ≠ [] := fun e => by subst e; simp at hi
  obtain ⟨b, o, e, h2⟩ := h.2.2.2.1 hne
  have ht := List.getElem?_eq_getElem hi
  exact ⟨ts[i], b, o, ht, List.getElem_mem hi, h.2.2.2.2 _ (List.getElem_mem hi), e, h2 i _ ht⟩
theorem kt {ts : List Dt} {i : Nat} {t : Dt} (h : ts[i]? = some t) : (ts.map Dt.tr).drop i = t.tr :: (ts.map Dt.tr).drop (i + 1) := by
  obtain ⟨hi, rfl⟩ := List.getElem?_eq_some_iff.1 h
  rw [List.drop_eq_getElem_cons (by simpa using hi)]
  simp
theorem ug {ts : List Dt} {i : Nat} (h : ¬ i < ts.length) : (ts.map Dt.tr).drop i = [] := List.drop_of_length_le (by simp; omega)
theorem fit_le : ∀ t : Tr, ∀ dp left : Int, (jx dp left t).2 ≤ left := by
  refine Tr.indT fun k n q s rl ts ih dp left => ?_
  rw [jx]
  split
  · show left - 1 ≤ left; omega
  · have key : ∀ (us : List Tr), (∀ t ∈ us, ∀ dp left : Int, (jx dp left t).2 ≤ left) → ∀ (i : Nat) (m : Int), (ub dp (decide (k = 8)) i m us).2 ≤ m := by
      intro us
      induction us with
      | nil => intro _ i m; exact Int.le_refl _
      | cons t us ih2 =>
        intro hu i m
        rw [ub]
        generalize (if decide (k = 8) = true ∧ i = 1 then dp else dp + 1) = D
        have h1 := hu t List.mem_cons_self D m
        split
        · exact Int.le_trans (ih2 (fun x hx => hu x (List.mem_cons_of_mem _ hx)) _ _) h1
        · exact h1
    have := key ts ih 0 (left - 1)
    omega
theorem fitL_go {dp m D : Int} {pr : Bool} {i : Nat} {ts : List Dt} {t : Dt} (hi : ts[i]? = some t) (hD : (if pr = true ∧ i = 1 then dp else dp + 1) = D) (h : (jx D m t.tr).1 = true) : ub dp pr i m ((ts.map Dt.tr).drop i) = ub dp pr (i + 1) (jx D m t.tr).2 ((ts.map Dt.tr).drop (i + 1)) := by
  rw [kt hi, ub, hD, if_pos h]
theorem qec {dp m D : Int} {pr : Bool} {i : Nat} {ts : List Dt} {t : Dt} (hi : ts[i]? = some t) (hD : (if pr = true ∧ i = 1 then dp else dp + 1) = D) (h : (jx D m t.tr).1 = false) : ub dp pr i m ((ts.map Dt.tr).drop i) = (false, (jx D m t.tr).2) := by
  rw [kt hi, ub, hD, if_neg (by rw [h]; decide)]
theorem qgj {dp left : Int} {d : Nd} {ts : List Dt} (h1 : ¬ left - 1 < 0) (h2 : ¬ 200 < dp) : jx dp left (Dt.mk d ts).tr = ub dp (decide (d.k = 8)) 0 (left - 1) ((ts.map Dt.tr).drop 0) := by
  rw [Dt.tr_mk, jx, if_neg (by omega), List.drop_zero]
theorem fitT_no {dp left : Int} {d : Nd} {ts : List Dt} (h : left - 1 < 0 ∨ 200 < dp) : jx dp left (Dt.mk d ts).tr = (false, left - 1) := by
  rw [Dt.tr_mk, jx, if_pos h]
theorem qha {p : Tr → Bool} {d : Nd} {ts : List Dt} : ut p (Dt.mk d ts).tr = (p (Dt.mk d ts).tr && qbj p ((ts.map Dt.tr).drop 0)) := by
  rw [Dt.tr_mk, ut, List.drop_zero]
theorem allL_go {p : Tr → Bool} {i : Nat} {ts : List Dt} {t : Dt} (hi : ts[i]? = some t) : qbj p ((ts.map Dt.tr).drop i) = (ut p t.tr && qbj p ((ts.map Dt.tr).drop (i + 1))) := by
  rw [kt hi, qbj]
theorem cntT_mk {p : Tr → Bool} {dp left : Int} {d : Nd} {ts : List Dt} (h1 : ¬ 200 < dp) (h2 : ¬ left ≤ 0) (h3 : p (Dt.mk d ts).tr = true) : qbf p dp left (Dt.mk d ts).tr = qch p dp (decide (d.k = 8)) 0 (left - 1) ((ts.map Dt.tr).drop 0) := by
  rw [Dt.tr_mk] at h3 ⊢
  rw [qbf, if_neg (by rw [h3]; simp; omega), List.drop_zero]
theorem cntT_no {p : Tr → Bool} {dp left : Int} {d : Nd} {ts : List Dt} (h : 200 < dp ∨ left ≤ 0 ∨ p (Dt.mk d ts).tr = false) : qbf p dp left (Dt.mk d ts).tr = -1 := by
  rw [Dt.tr_mk] at h ⊢
  rw [qbf, if_pos h]
theorem cntL_go {p : Tr → Bool} {dp m D : Int} {pr : Bool} {i : Nat} {ts : List Dt} {t : Dt} (hi : ts[i]? = some t) (hm : ¬ m < 0) (hD : (if pr = true ∧ i = 1 then dp else dp + 1) = D) : qch p dp pr i m ((ts.map Dt.tr).drop i) = qch p dp pr (i + 1) (qbf p D m t.tr) ((ts.map Dt.tr).drop (i + 1)) := by
  rw [kt hi, qch, if_neg hm, hD]
theorem cnt_le (p : Tr → Bool) (t : Tr) (dp left : Int) (h : 0 ≤ left) : -1 ≤ qbf p dp left t ∧ qbf p dp left t ≤ left := by
  rw [qle p t dp left h]
  split
  · rename_i hc
    exact ⟨by have := qae t _ _ hc.1; omega, fit_le t _ _⟩
  · exact ⟨by omega, by omega⟩
/-- A fraction without words. -/
def kg (b : Bool) (m m' : Nat) : Bool := !b && (decide (m = 0) && decide (m' = 0))
/-- Nothing beside the kind. -/
def jo (n : Int) (b1 : Bool) (m1 m2 : Nat) (b2 : Bool) (m3 m4 : Nat) (s : ByteArray) (mr ml : Nat) : Bool := decide (n = 0) && (kg b1 m1 m2 && (kg b2 m3 m4 && (decide (s = ⟨#[]⟩) && (decide (mr = 0) && decide (ml = 0)))))
def ku (n : Int) : Bool := decide (0 ≤ n ∧ n ≤ 1114111 ∧ (n < 55296 ∨ 57343 < n))
/-- A text of characters. -/
def okS (s : ByteArray) : Bool := Lib.validD s.data.toList
/-- Sound by its kind. -/
def zd (k n : Int) (q : Q6) (s : ByteArray) (mr ml : Nat) : Bool :=
  if k = 1 ∨ k = 10 then jo n q.b1 q.t1.length q.q1.length q.b2 q.t2.length q.q2.length s mr ml
  else if k = 2 then decide (n = 0 ∨ n = 1) && jo 0 q.b1 q.t1.length q.q1.length q.b2 q.t2.length q.q2.length s mr ml
  else if k = 3 then jw q && jo n false 0 0 false 0 0 s mr ml
  else if k = 4 then ku n && jo 0 q.b1 q.t1.length q.q1.length q.b2 q.t2.length q.q2.length s mr ml
  else if k = 5 ∨ k = 6 ∨ k = 11 then okS s && jo n q.b1 q.t1.length q.q1.length q.b2 q.t2.length q.q2.length ⟨#[]⟩ mr ml
  else if k = 7 then jo n q.b1 q.t1.length q.q1.length q.b2 q.t2.length q.q2.length s 0 ml
  else if k = 8 then decide (ml = 2) && jo n q.b1 q.t1.length q.q1.length q.b2 q.t2.length q.q2.length s mr 0
  else if k = 9 then jo n q.b1 q.t1.length q.q1.length q.b2 q.t2.length q.q2.length s mr 0
  else false
def zy : Tr → Bool
  | .mk k n q s rl ts => zd k n q s rl.length ts.length
theorem kj {d : Nd} {ts : List Dt} : zy (Dt.mk d ts).tr = zd d.k d.n d.y.q d.s d.rl.length ts.length := by
  rw [Dt.tr_mk, zy, List.length_map]
mutual
/-- How much a datum holds. -/
def Tr.bulk : Tr → Nat
  | .mk _ _ q s rl ts => s.size + rl.length + (q.t1.length + q.q1.length + (q.t2.length + q.q2.length)) + 1 + Tr.bulks ts
def Tr.bulks : List Tr → Nat
  | [] => 0
  | t :: ts => t.bulk + Tr.bulks ts
end
theorem qaf {k n : Int} {q : Q6} {s : ByteArray} {rl : List UInt8} {ts : List Tr} : (Tr.mk k n q s rl ts).bulk = s.size + rl.length + (q.t1.length + q.q1.length + (q.t2.length + q.q2.length)) + 1 + Tr.bulks ts := by rw [Tr.bulk]
theorem qlf : ∀ {ts : List Tr} {t : Tr}, t ∈ ts → t.bulk ≤ Tr.bulks ts
  | u :: us, t, h => by
    rw [Tr.bulks]
    rcases List.mem_cons.1 h with e | e
    · subst e; omega
    · have := qlf e; omega
theorem qcj {d : Nd} {ts : List Dt} {t : Dt} (h : t ∈ ts) : t.tr.bulk + d.s.size + 1 ≤ (Dt.mk d ts).tr.bulk := by
  rw [Dt.tr_mk, qaf]
  have := qlf (List.mem_map_of_mem (f := Dt.tr) h)
  omega
theorem qed {d : Nd} {ts : List Dt} : d.s.size ≤ (Dt.mk d ts).tr.bulk := by
  rw [Dt.tr_mk, qaf]
  omega
open Go.RowKit Go.Lib
def ju (a b : Int) : Int := if a < b then -1 else if b < a then 1 else 0
/-- The first that is not 0. -/
def lex (x y : Int) : Int := if x = 0 then y else x
def qki (p q : Q6) : Int := lex (vt (reQ p) (reQ q)) (vt (imQ p) (imQ q))
/-- Of two nodes of one kind, but for their lists. -/
def ordK (k n m : Int) (p q : Q6) (s t : ByteArray) (rl rm : List UInt8) : Int := if k = 3 then qki p q else if k = 5 ∨ k = 6 ∨ k = 11 then compareBytes s.data.toList t.data.toList else if k = 7 then compareBytes rl rm else ju n m
mutual
def xz : Tr → Tr → Int
  | .mk k n q s rl ts, u => lex (ju k u.k) (if k = 8 ∨ k = 9 then lex (ju (ts.length : Int) (u.ts.length : Int)) (vz ts u.ts) else ordK k n u.n q u.q s u.s rl u.rl)
def vz : List Tr → List Tr → Int
  | [], _ => 0
  | _ :: _, [] => 0
  | t :: ts, u :: us => lex (xz t u) (vz ts us)
end
/-- What goes through a third one. -/
def J3 (x y z : Int) : Prop := (x ≤ 0 → y ≤ 0 → z ≤ 0) ∧ (x < 0 → y ≤ 0 → z < 0) ∧ (x ≤ 0 → y < 0 → z < 0) ∧ (x = 0 → y = 0 → z = 0)
theorem J3.lex {x1 y1 z1 x2 y2 z2 : Int} (h : J3 x1 y1 z1) (k : x1 = 0 → y1 = 0 → J3 x2 y2 z2) : J3 (lex x1 x2) (lex y1 y2) (lex z1 z2) := by
  unfold G.lex
  obtain ⟨a, b, c, d⟩ := h
  by_cases hx : x1 = 0
  · by_cases hy : y1 = 0
    · have hz := d hx hy
      rw [if_pos hx, if_pos hy, if_pos hz]
      exact k hx hy
    · rw [if_pos hx, if_neg hy]
      by_cases hz : z1 = 0
      · have h1 : 0 < y1 := by
          apply Classical.byContradiction
          intro h
          have := c (by omega) (by omega)
          omega
        exact ⟨fun _ _ => by omega, fun _ _ => by omega, fun _ _ => by omega, fun _ _ => by omega⟩
      · rw [if_neg hz]
        exact ⟨fun _ _ => a (by omega) (by omega), fun _ _ => c (by omega) (by omega), fun _ _ => c (by omega) (by omega), fun _ _ => by omega⟩
  · rw [if_neg hx]
    by_cases hy : y1 = 0
    · rw [if_pos hy]
      by_cases hz : z1 = 0
      · have h1 : 0 < x1 := by
          apply Classical.byContradiction
          intro h
          have := b (by omega) (by omega)
          omega
        exact ⟨fun _ _ => by omega, fun _ _ => by omega, fun _ _ => by omega, fun _ _ => by omega⟩
      · rw [if_neg hz]
        exact ⟨fun _ _ => a (by omega) (by omega), fun _ _ => b (by omega) (by omega), fun _ _ => b (by omega) (by omega), fun _ _ => by omega⟩
    · rw [if_neg hy]
      by_cases hz : z1 = 0
      · rw [if_pos hz]
        exact ⟨fun _ _ => by have := b (by omega) (by omega); omega, fun _ _ => by have := b (by omega) (by omega); omega, fun _ _ => by have := b (by omega) (by omega); omega, fun _ _ => by omega⟩
      · rw [if_neg hz]; exact ⟨a, b, c, fun _ _ => by omega⟩
theorem qai (a b : Int) : ju b a = -ju a b := by unfold ju; repeat' split <;> omega
theorem vk {a b : Int} (h : ju a b = 0) : a = b := by
  unfold ju at h
  split at h
  · exact absurd h (by decide)
  · split at h
    · exact absurd h (by decide)
    · omega
theorem qdb {x y x' y' : Int} (h : x' = -x) (k : y' = -y) : lex x' y' = -lex x y := by
  unfold lex
  subst h k
  by_cases hx : x = 0
  · rw [if_pos hx, if_pos (by omega)]
  · rw [if_neg hx, if_neg (by omega)]
theorem qdc {x y : Int} (h : lex x y = 0) : x = 0 ∧ y = 0 := by
  unfold lex at h
  by_cases hx : x = 0
  · rw [if_pos hx] at h; exact ⟨hx, h⟩
  · rw [if_neg hx] at h; exact absurd h hx
theorem qma {x y : Rat} (h : vt x y = 0) : x = y := by
  unfold vt at h
  split at h
  · exact absurd h (by decide)
  · split at h
    · assumption
    · exact absurd h (by decide)
theorem qmb (a b : Rat) : vt b a = -vt a b := cmpR_swap b a
theorem qca : ∀ a b : List UInt8, compareBytes b a = -compareBytes a b
  | [], [] => rfl
  | [], _ :: _ => rfl
  | _ :: _, [] => rfl
  | x :: a, y :: b => by
    show (if y < x then (-1 : Int) else if x < y then 1 else compareBytes b a) = -(if x < y then (-1 : Int) else if y < x then 1 else compareBytes a b)
    have ih := qca a b
    simp only [UInt8.lt_iff_toNat_lt]
    by_cases h1 : x.toNat < y.toNat
    · rw [if_pos h1, if_neg (by omega), if_pos h1]; rfl
    · by_cases h2 : y.toNat < x.toNat
      · rw [if_pos h2, if_neg h1, if_pos h2]
      · rw [if_neg h2, if_neg h1, if_neg h1, if_neg h2, ih]
theorem qcb : ∀ {a b : List UInt8}, compareBytes a b = 0 → a = b
  | [], [], _ => rfl
  | [], _ :: _, h => by simp [compareBytes] at h
  | _ :: _, [], h => by simp [compareBytes] at h
  | x :: a, y :: b, h => by
    have h' : (if x < y then (-1 : Int) else if y < x then 1 else compareBytes a b) = 0 := h
    simp only [UInt8.lt_iff_toNat_lt] at h'
    by_cases h1 : x.toNat < y.toNat
    · rw [if_pos h1] at h'; exact absurd h' (by decide)
    · rw [if_neg h1] at h'
      by_cases h2 : y.toNat < x.toNat
      · rw [if_pos h2] at h'; exact absurd h' (by decide)
      · rw [if_neg h2] at h'
        rw [qcb h', UInt8.toNat_inj.1 (show x.toNat = y.toNat by omega)]
theorem ordK_turn (k n m : Int) (p q : Q6) (s t : ByteArray) (rl rm : List UInt8) : ordK k m n q p t s rm rl = -ordK k n m p q s t rl rm := by
  unfold ordK
  split
  · exact qdb (qmb _ _) (qmb _ _)
  · split
    · exact qca _ _
    · split
      · exact qca _ _
      · exact qai _ _
/-! ### The order of trees -/
theorem qaj (k n : Int) (q : Q6) (s : ByteArray) (rl : List UInt8) (ts : List Tr) (k' n' : Int) (q' : Q6) (s' : ByteArray) (rl' : List UInt8) (ts' : List Tr) :
    xz (.mk k n q s rl ts) (.mk k' n' q' s' rl' ts') = lex (ju k k') (if k = 8 ∨ k = 9 then lex (ju (ts.length : Int) (ts'.length : Int)) (vz ts ts') else ordK k n n' q q' s s' rl rl') := by
  rw [xz]; rfl
theorem ordL_turn {ts : List Tr} (h : ∀ t ∈ ts, ∀ u, xz u t = -xz t u) : ∀ us, vz us ts = -vz ts us := by
  induction ts with
  | nil => intro us; cases us <;> simp [vz]
  | cons t ts ih =>
    intro us
    cases us with
    | nil => simp [vz]
    | cons u us =>
      rw [vz, vz]
      exact qdb (h t List.mem_cons_self u) (ih (fun x hx => h x (List.mem_cons_of_mem _ hx)) us)
theorem ordT_turn : ∀ t u : Tr, xz u t = -xz t u := by
  refine Tr.indT fun k n q s rl ts ih u => ?_
  obtain ⟨k', n', q', s', rl', ts'⟩ := u
  rw [qaj, qaj]
  by_cases hk : k = k'
  · subst hk
    refine qdb (qai _ _) ?_
    split
    · exact qdb (qai _ _) (ordL_turn ih ts')
    · exact ordK_turn _ _ _ _ _ _ _ _ _
  · have h1 := qai k k'
    have h2 : ju k k' ≠ 0 := fun e => hk (vk e)
    unfold lex
    rw [if_neg h2, if_neg (by omega), h1]
theorem ordT_self (t : Tr) : xz t t = 0 := by have := ordT_turn t t; omega
/-! ### The same trees -/
def Q6.none : Q6 := ⟨false, [], [], false, [], []⟩
def qif (q : Q6) : Prop := ∃ u v, q = Q6.rat u v ∧ xn u ∧ xn v
theorem now_none {b : Bool} {t u : List Nat} (h : kg b t.length u.length = true) : b = false ∧ t = [] ∧ u = [] := by
  unfold kg at h
  cases b <;> simp at h
  exact ⟨rfl, h.1, h.2⟩
theorem vy {n : Int} {q : Q6} {s : ByteArray} {mr ml : Nat} (h : jo n q.b1 q.t1.length q.q1.length q.b2 q.t2.length q.q2.length s mr ml = true) : n = 0 ∧ q = Q6.none ∧ s = ⟨#[]⟩ ∧ mr = 0 ∧ ml = 0 := by
  unfold jo at h
  simp only [Bool.and_eq_true, decide_eq_true_eq] at h
  obtain ⟨h1, h2, h3, h4, h5, h6⟩ := h
  obtain ⟨a1, a2, a3⟩ := now_none h2
  obtain ⟨b1, b2, b3⟩ := now_none h3
  refine ⟨h1, ?_, h4, h5, h6⟩
  cases q
  simp only at a1 a2 a3 b1 b2 b3
  subst a1 a2 a3 b1 b2 b3
  rfl
/-- What is not named by the kind is nothing. -/
structure Bare (k n : Int) (q : Q6) (s : ByteArray) (mr ml : Nat) : Prop where
  hn : k ≠ 2 → k ≠ 4 → n = 0
  hq : k ≠ 3 → q = Q6.none
  hs : k ≠ 5 → k ≠ 6 → k ≠ 11 → s = ⟨#[]⟩
  hr : k ≠ 7 → mr = 0
  hl : k ≠ 8 → k ≠ 9 → ml = 0
  h8 : k = 8 → ml = 2
  h3 : k = 3 → jw q = true
  h0 : 1 ≤ k
  h1 : k ≤ 11
  h2 : k = 2 → n = 0 ∨ n = 1
  h4 : k = 4 → ku n = true
  h5 : k = 5 ∨ k = 6 ∨ k = 11 → okS s = true
theorem shape_bare {k n : Int} {q : Q6} {s : ByteArray} {mr ml : Nat} (h : zd k n q s mr ml = true) : Bare k n q s mr ml := by
  unfold zd at h
  split at h
  · rename_i hk
    obtain ⟨a, b, c, d, e⟩ := vy h
    exact ⟨fun _ _ => a, fun _ => b, fun _ _ _ => c, fun _ => d, fun _ _ => e, fun _ => by omega, fun _ => by omega, by omega, by omega, fun _ => by omega, fun _ => by omega, fun _ => by omega⟩
  · split at h
    · rename_i hk
      simp only [Bool.and_eq_true, decide_eq_true_eq] at h
      obtain ⟨a, b, c, d, e⟩ := vy h.2
      exact ⟨fun _ _ => by omega, fun _ => b, fun _ _ _ => c, fun _ => d, fun _ _ => e, fun _ => by omega, fun _ => by omega, by omega, by omega, fun _ => h.1, fun _ => by omega, fun _ => by omega⟩
    · split at h
      · rename_i hk
        simp only [Bool.and_eq_true] at h
        obtain ⟨a, b, c, d, e⟩ := vy (q := Q6.none) h.2
        exact ⟨fun _ _ => a, fun _ => by omega, fun _ _ _ => c, fun _ => d, fun _ _ => e, fun _ => by omega, fun _ => h.1, by omega, by omega, fun _ => by omega, fun _ => by omega, fun _ => by omega⟩
      · split at h
        · rename_i hk
          simp only [Bool.and_eq_true] at h
          obtain ⟨a, b, c, d, e⟩ := vy h.2
          exact ⟨fun _ _ => by omega, fun _ => b, fun _ _ _ => c, fun _ => d, fun _ _ => e, fun _ => by omega, fun _ => by omega, by omega, by omega, fun _ => by omega, fun _ => h.1, fun _ => by omega⟩
        · split at h
          · rename_i hk
            simp only [Bool.and_eq_true] at h
            obtain ⟨a, b, c, d, e⟩ := vy h.2
            exact ⟨fun _ _ => a, fun _ => b, fun _ _ _ => by omega, fun _ => d, fun _ _ => e, fun _ => by omega, fun _ => by omega, by omega, by omega, fun _ => by omega, fun _ => by omega, fun _ => h.1⟩
          · split at h
            · rename_i hk
              obtain ⟨a, b, c, d, e⟩ := vy h
              exact ⟨fun _ _ => a, fun _ => b, fun _ _ _ => c, fun _ => by omega, fun _ _ => e, fun _ => by omega, fun _ => by omega, by omega, by omega, fun _ => by omega, fun _ => by omega, fun _ => by omega⟩
            · split at h
              · rename_i hk
                simp only [Bool.and_eq_true, decide_eq_true_eq] at h
                obtain ⟨a, b, c, d, e⟩ := vy h.2
                exact ⟨fun _ _ => a, fun _ => b, fun _ _ _ => c, fun _ => d, fun _ _ => by omega, fun _ => h.1, fun _ => by omega, by omega, by omega, fun _ => by omega, fun _ => by omega, fun _ => by omega⟩
              · split at h
                · rename_i hk
                  obtain ⟨a, b, c, d, e⟩ := vy h
                  exact ⟨fun _ _ => a, fun _ => b, fun _ _ _ => c, fun _ => d, fun _ _ => by omega, fun _ => by omega, fun _ => by omega, by omega, by omega, fun _ => by omega, fun _ => by omega, fun _ => by omega⟩
                · cases h
mutual
/-- Sound at each node, and its numbers are fractions in lowest terms. -/
def Tr.good : Tr → Prop
  | .mk k n q s rl ts => Bare k n q s rl.length ts.length ∧ (k = 3 → qif q) ∧ Tr.goods ts
def Tr.goods : List Tr → Prop
  | [] => True
  | t :: ts => t.good ∧ Tr.goods ts
end
theorem qmc : ∀ {ts : List Tr}, Tr.goods ts ↔ ∀ t ∈ ts, t.good
  | [] => by simp [Tr.goods]
  | t :: ts => by simp [Tr.goods, qmc (ts := ts)]
theorem good_mk {k n : Int} {q : Q6} {s : ByteArray} {rl : List UInt8} {ts : List Tr} : (Tr.mk k n q s rl ts).good ↔ Bare k n q s rl.length ts.length ∧ (k = 3 → qif q) ∧ ∀ t ∈ ts, t.good := by
  rw [← qmc]; unfold Tr.good; exact Iff.rfl
theorem allL_mem {p : Tr → Bool} : ∀ {ts : List Tr}, qbj p ts = true → ∀ t ∈ ts, ut p t = true
  | [], _, t, ht => by cases ht
  | u :: us, h, t, ht => by
    rw [qbj, Bool.and_eq_true] at h
    rcases List.mem_cons.1 ht with e | e
    · subst e; exact h.1
    · exact allL_mem h.2 t e
theorem Dt.good {w : World} : ∀ t : Dt, t.rd w → ut zy t.tr = true → t.tr.good := by
  refine Dt.indT fun d ts ih hrd ha => ?_
  rw [qha, kj, Bool.and_eq_true] at ha
  have hok := Dt.rd_iff.1 hrd
  rw [Dt.tr_mk, good_mk]
  have hb := shape_bare ha.1
  refine ⟨by rw [List.length_map]; exact hb, fun hk => ?_, fun t ht => ?_⟩
  · rcases sound_cases hok.1.num with h | h
    · rw [hb.h3 hk] at h; cases h
    · exact h
  · obtain ⟨u, hu, rfl⟩ := List.mem_map.1 ht
    refine ih u hu (hok.2.2.2.2 u hu) ?_
    exact allL_mem (ts := ts.map Dt.tr) (by simpa using ha.2) _ ht
theorem ordN_zero {p q : Q6} (hp : qif p) (hq : qif q) (h : qki p q = 0) : p = q := by
  obtain ⟨u, v, rfl, _, _⟩ := hp
  obtain ⟨x, y, rfl, _, _⟩ := hq
  have h2 := qdc h
  rw [ko, ko, qah, qah] at h2
  rw [qma h2.1, qma h2.2]
theorem ordL_zero {ts : List Tr} (h : ∀ t ∈ ts, ∀ u : Tr, u.good → xz t u = 0 → t = u) : ∀ us : List Tr, (∀ u ∈ us, u.good) → ts.length = us.length → vz ts us = 0 → ts = us := by
  induction ts with
  | nil =>
    intro us _ hl _
    cases us with
    | nil => rfl
    | cons u us => simp at hl
  | cons t ts ih =>
    intro us hg hl h0
    cases us with
    | nil => simp at hl
    | cons u us =>
      rw [vz] at h0
      have h1 := qdc h0
      rw [h t List.mem_cons_self u (hg u List.mem_cons_self) h1.1, ih (fun x hx => h x (List.mem_cons_of_mem _ hx)) us (fun x hx => hg x (List.mem_cons_of_mem _ hx)) (by simpa using hl) h1.2]
theorem ordT_zero : ∀ t : Tr, t.good → ∀ u : Tr, u.good → xz t u = 0 → t = u := by
  refine Tr.indT fun k n q s rl ts ih hg u hu h0 => ?_
  obtain ⟨k', n', q', s', rl', ts'⟩ := u
  rw [qaj] at h0
  rw [good_mk] at hg hu
  have h1 := qdc h0
  have hk := vk h1.1
  subst hk
  obtain ⟨b, hr, hts⟩ := hg
  obtain ⟨b', hr', hts'⟩ := hu
  have h2 := h1.2
  have en : k ≠ 2 → k ≠ 4 → n = n' := fun h h' => by rw [b.hn h h', b'.hn h h']
  have eq : k ≠ 3 → q = q' := fun h => by rw [b.hq h, b'.hq h]
  have es : k ≠ 5 → k ≠ 6 → k ≠ 11 → s = s' := fun h h' h2 => by rw [b.hs h h' h2, b'.hs h h' h2]
  have er : k ≠ 7 → rl = rl' := fun h => by rw [List.eq_nil_of_length_eq_zero (b.hr h), List.eq_nil_of_length_eq_zero (b'.hr h)]
  have el : k ≠ 8 → k ≠ 9 → ts = ts' := fun h h' => by rw [List.eq_nil_of_length_eq_zero (b.hl h h'), List.eq_nil_of_length_eq_zero (b'.hl h h')]
  by_cases h89 : k = 8 ∨ k = 9
  · rw [if_pos h89] at h2
    have h3 := qdc h2
    rw [en (by omega) (by omega), eq (by omega), es (by omega) (by omega) (by omega), er (by omega), ordL_zero (fun t ht u hu => ih t ht (hts t ht) u hu) ts' hts' (by have := vk h3.1; omega) h3.2]
  · rw [if_neg h89] at h2
    unfold ordK at h2
    by_cases h3 : k = 3
    · rw [if_pos h3] at h2
      rw [en (by omega) (by omega), es (by omega) (by omega) (by omega), er (by omega), el (by omega) (by omega), ordN_zero (hr h3) (hr' h3) h2]
    · rw [if_neg h3] at h2
      by_cases h5 : k = 5 ∨ k = 6 ∨ k = 11
      · rw [if_pos h5] at h2
        have e : s = s' := by
          cases s with
          | mk s => cases s' with
            | mk s' => congr 1; exact Array.ext' (qcb h2)
        rw [en (by omega) (by omega), eq h3, er (by omega), el (by omega) (by omega), e]
      · rw [if_neg h5] at h2
        by_cases h7 : k = 7
        · rw [if_pos h7] at h2
          rw [en (by omega) (by omega), eq h3, es (by omega) (by omega) (by omega), el (by omega) (by omega), qcb h2]
        · rw [if_neg h7] at h2
          rw [vk h2, eq h3, es (by omega) (by omega) (by omega), er h7, el (by omega) (by omega)]
/-! ### Trees as they lie in memory -/
theorem Dt.eta (t : Dt) : Dt.mk t.d t.ts = t := by cases t; rfl
theorem Dt.tr_eta (t : Dt) : t.tr = .mk t.d.k t.d.n t.d.y.q t.d.s t.d.rl (t.ts.map Dt.tr) := by rw [← Dt.tr_mk, Dt.eta]
theorem qgf {w : World} {t : Dt} (h : t.rd w) {i : Nat} (hi : i < t.ts.length) : ∃ t1 b o, t.ts[i]? = some t1 ∧ t1 ∈ t.ts ∧ t1.rd w ∧ t.d.lo = some ⟨b, o, none⟩ ∧ Here w b (o + i * 11) (t1.d.cells t1.ts.length) := kid (d := t.d) (by rw [Dt.eta]; exact h) hi
theorem Dt.okT {w : World} {t : Dt} (h : t.rd w) : NdOk w t.d ∧ t.ts.length ≤ 9223372036854775807 := by
  rw [← Dt.eta t, Dt.rd_iff] at h
  exact ⟨h.1, Nat.le_trans h.2.1 h.2.2.1⟩
theorem jn {t : Dt} (h : t.tr.good) : Bare t.d.k t.d.n t.d.y.q t.d.s t.d.rl.length t.ts.length ∧ (t.d.k = 3 → qif t.d.y.q) ∧ ∀ c ∈ t.ts, c.tr.good := by
  rw [Dt.tr_eta, good_mk, List.length_map] at h
  exact ⟨h.1, h.2.1, fun c hc => h.2.2 _ (List.mem_map_of_mem hc)⟩
theorem uq {t c : Dt} (h : c ∈ t.ts) : c.tr.bulk + t.d.s.size + 1 ≤ t.tr.bulk := by
  have := qcj (d := t.d) h
  rwa [Dt.eta] at this
theorem two_of {α : Type} {l : List α} (h : l.length = 2) {a b : α} (h0 : l[0]? = some a) (h1 : l[1]? = some b) : l = [a, b] := by
  match l, h with
  | [x, y], _ => simp at h0 h1; rw [h0, h1]
theorem qig {p r : Dt} (h : p.d.k ≠ r.d.k) : xz p.tr r.tr = ju p.d.k r.d.k := by
  rw [Dt.tr_eta p, Dt.tr_eta r, qaj]
  unfold lex
  rw [if_neg (fun e => h (vk e))]
theorem yk (a : Int) : ju a a = 0 := by unfold ju; rw [if_neg (by omega), if_neg (by omega)]
theorem qih {p r : Dt} (h : p.d.k = r.d.k) : xz p.tr r.tr = if p.d.k = 8 ∨ p.d.k = 9 then lex (ju (p.ts.length : Int) (r.ts.length : Int)) (vz (p.ts.map Dt.tr) (r.ts.map Dt.tr)) else ordK p.d.k p.d.n r.d.n p.d.y.q r.d.y.q p.d.s r.d.s p.d.rl r.d.rl := by
  rw [Dt.tr_eta p, Dt.tr_eta r, qaj, ← h, yk, List.length_map, List.length_map]
  rfl
theorem ord_pair {p r p0 p1 r0 r1 : Dt} (h1 : p.d.k = 8) (h2 : r.d.k = 8) (l1 : p.ts.length = 2) (l2 : r.ts.length = 2) (a0 : p.ts[0]? = some p0) (a1 : p.ts[1]? = some p1) (b0 : r.ts[0]? = some r0) (b1 : r.ts[1]? = some r1) : xz p.tr r.tr = lex (xz p0.tr r0.tr) (xz p1.tr r1.tr) := by
  rw [qih (by omega), if_pos (.inl h1), l1, l2, two_of l1 a0 a1, two_of l2 b0 b1]
  simp only [List.map_cons, List.map_nil, vz, yk]
  show lex _ (lex _ 0) = _
  generalize xz p1.tr r1.tr = z
  have : lex z 0 = z := by unfold lex; split <;> omega
  rw [this]
theorem qdd (y : Int) : lex 0 y = y := rfl
theorem qde {x y : Int} (h : x ≠ 0) : lex x y = x := if_neg h
theorem qba {ts us : List Dt} {i : Nat} {t u : Dt} (hi : ts[i]? = some t) (hj : us[i]? = some u) : vz ((ts.map Dt.tr).drop i) ((us.map Dt.tr).drop i) = lex (xz t.tr u.tr) (vz ((ts.map Dt.tr).drop (i + 1)) ((us.map Dt.tr).drop (i + 1))) := by
  rw [kt hi, kt hj, vz]
theorem qii {ts us : List Dt} {i : Nat} (h : ¬ i < ts.length) : vz ((ts.map Dt.tr).drop i) ((us.map Dt.tr).drop i) = 0 := by
  rw [ug h, vz]
/-- What the program's order of two nodes of one kind that are no pairs comes to. -/
theorem ye {p r : Dt} (hp : p.tr.good) (hr : r.tr.good) (h : p.d.k = r.d.k) (h8 : p.d.k ≠ 8) : xz p.tr r.tr = if p.d.k = 2 ∨ p.d.k = 4 then ju p.d.n r.d.n else if p.d.k = 3 then qki p.d.y.q r.d.y.q else if p.d.k = 5 ∨ p.d.k = 6 ∨ p.d.k = 11 then compareBytes p.d.s.data.toList r.d.s.data.toList else if p.d.k = 7 then compareBytes p.d.rl r.d.rl else if p.d.k = 9 then lex (ju (p.ts.length : Int) (r.ts.length : Int)) (vz (p.ts.map Dt.tr) (r.ts.map Dt.tr)) else 0 := by
  rw [qih h]
  by_cases h9 : p.d.k = 9
  · rw [if_pos (.inr h9), if_neg (by omega), if_neg (by omega), if_neg (by omega), if_neg (by omega), if_pos h9]
  · rw [if_neg (by omega)]
    unfold ordK
    by_cases h3 : p.d.k = 3
    · rw [if_pos h3, if_neg (by omega), if_pos h3]
    · rw [if_neg h3]
      by_cases h5 : p.d.k = 5 ∨ p.d.k = 6 ∨ p.d.k = 11
      · rw [if_pos h5, if_neg (by omega), if_neg h3, if_pos h5]
      · rw [if_neg h5]
        by_cases h7 : p.d.k = 7
        · rw [if_pos h7, if_neg (by omega), if_neg h3, if_neg h5, if_pos h7]
        · rw [if_neg h7]
          by_cases h2 : p.d.k = 2 ∨ p.d.k = 4
          · rw [if_pos h2]
          · rw [if_neg h2, if_neg h3, if_neg h5, if_neg h7, if_neg h9, (jn hp).1.hn (by omega) (by omega), (jn hr).1.hn (by omega) (by omega)]
            rfl
/-! ### The law -/
/-- What Cmp answers. -/
def qgg (t u : Tr) : Int := if jl zy t = true ∧ jl zy u = true then xz t u else 0
def qeg (t u : Tr) : Bool := (jl zy t && jl zy u) && decide (xz t u = 0)
theorem qhc {t u : Tr} (h1 : jl zy t = true) (h2 : jl zy u = true) : qgg t u = xz t u := if_pos ⟨h1, h2⟩
theorem cmpT_no {t u : Tr} (h : jl zy t = false ∨ jl zy u = false) : qgg t u = 0 := if_neg (fun e => by rcases h with h | h; rw [h] at e; cases e.1; rw [h] at e; cases e.2)
theorem equT_cmp {t u : Tr} (h1 : jl zy t = true) (h2 : jl zy u = true) : qeg t u = decide (qgg t u = 0) := by
  rw [qhc h1 h2]
  unfold qeg
  rw [h1, h2]; simp
/-! ### The hash -/
/-- One more number in a hash. -/
def hw (h n : Int) : Int := bits .xor .u64 (IntKind.u64.wrap (bits .xor .u64 h n * 1099511628211)) (IntKind.u64.wrap (bits .xor .u64 h n * 1099511628211) / 2 ^ 32)
def hwB (h : Int) (l : List UInt8) : Int := l.foldl (fun h n => hw h (n.toNat : Int)) h
theorem kp {w : World} {t : Dt} (ht : t.rd w) (h : jl zy t.tr = true) : t.tr.good := by
  unfold jl at h
  rw [Bool.and_eq_true] at h
  exact Dt.good t ht h.2
theorem both_no {a b : Bool} (h : (a && b) = false) : ¬ (a = true ∧ b = true) := by cases a <;> cases b <;> simp_all
theorem qdf {a b : Bool} (h : (a && b) = true) : a = true ∧ b = true := by cases a <;> cases b <;> simp_all
/-- A Boolean as it lies in memory. -/
def bDt (n : Int) : Dt := .mk ⟨2, n, ⟨Q6.none, none, 0, none, 0, none, 0, none, 0⟩, ⟨#[]⟩, none, 0, [], none, 0⟩ []
theorem b_rd {n : Int} (h : n = 0 ∨ n = 1) (w : World) : (bDt n).rd w := by
  unfold bDt
  rw [Dt.rd_iff]
  rcases h with rfl | rfl <;> exact ⟨⟨⟨Sc.none w, Sc.none w, Sc.none w, Sc.none w⟩, ⟨by decide, by decide, by decide, by decide⟩, ⟨fun k => absurd rfl k⟩, by decide, by decide, by decide, by decide, by decide, by decide, by decide⟩, by decide, by decide, fun k => absurd rfl k, fun _ k => by cases k⟩
theorem b_tr (n : Int) : (bDt n).tr = .mk 2 n Q6.none ⟨#[]⟩ [] [] := by unfold bDt; rw [Dt.tr_mk]; rfl
theorem qbb {n : Int} (h : n = 0 ∨ n = 1) : jl zy (bDt n).tr = true := by
  rw [b_tr]
  unfold jl
  rw [jx, ub, ut, qbj, zy]
  rcases h with rfl | rfl <;> rfl
theorem b_ord (m n : Int) : xz (bDt m).tr (bDt n).tr = ju m n := by
  rw [b_tr, b_tr, qaj]
  rfl
theorem b_cmp : qgg (bDt 0).tr (bDt 1).tr = -1 := by rw [qhc (qbb (.inl rfl)) (qbb (.inr rfl)), b_ord]; rfl
theorem b_equ {m n : Int} (hm : m = 0 ∨ m = 1) (hn : n = 0 ∨ n = 1) : qeg (bDt m).tr (bDt n).tr = decide (ju m n = 0) := by rw [equT_cmp (qbb hm) (qbb hn), qhc (qbb hm) (qbb hn), b_ord]
theorem qmd {P : Program} {w : World} {b : Nat} : ∀ (l : List UInt8) (off : Nat) (acc : ByteArray), (∀ j, j < l.length → w.cell? ⟨b, off + j, none⟩ = some (.int .u8 (((l.getD j 0).toNat : Nat) : Int))) → (Extern.Bytes.loadBytes ⟨b, off, none⟩ l.length acc).run P w = .ok ⟨acc.data ++ l.toArray⟩ w
  | [], off, acc, _ => by
    simp [Extern.Bytes.loadBytes]
  | x :: l, off, acc, h => by
    have h0 := h 0 (by simp)
    have hl : (load ⟨b, off, none⟩).run P w = .ok (.int .u8 ((x.toNat : Nat) : Int)) w := by
      rw [Nat.add_zero] at h0
      have h1 : w.cell? ⟨b, off, none⟩ = some (.int .u8 ((x.toNat : Nat) : Int)) := by simpa using h0
      simp [go_sem, h1]
    have hn : ∀ j, j < l.length → w.cell? ⟨b, off + 1 + j, none⟩ = some (.int .u8 (((l.getD j 0).toNat : Nat) : Int)) := by
      intro j hj
      have h3 := h (j + 1) (by simpa using hj)
      rw [show off + (j + 1) = off + 1 + j by omega] at h3
      simpa using h3
    have ih := qmd (P := P) l (off + 1) (acc.push x) hn
    rw [List.length_cons, Extern.Bytes.loadBytes, Sem.run_bind, hl]
    simp only [Result.andThen_ok, vf, Int.toNat_natCast, UInt8.ofNat_toNat]
    rw [ih]
    congr 2
    simp
theorem qij {P : Program} {w : World} {so : Option Addr} {l : List UInt8} {ca : Nat} (h : Rb w so l) : (Extern.Bytes.bytesOf (.slice so l.length ca)).run P w = .ok ⟨l.toArray⟩ w := by
  by_cases hl : l = []
  · subst hl
    cases so with
    | none => simp [Extern.Bytes.bytesOf]; rfl
    | some a => simp [Extern.Bytes.bytesOf, Extern.Bytes.loadBytes]; rfl
  · obtain ⟨b, off, rfl, _, h2⟩ := h.pos hl
    have := qmd (P := P) l off .empty h2
    simp only [Extern.Bytes.bytesOf]
    rw [this]
    simp
theorem run_compareS {P : Program} {w : World} {so sp : Option Addr} {a b : List UInt8} {ca cb : Nat} (ha : Rb w so a) (hb : Rb w sp b) : (Extern.BytealgCompare.compare #[.slice so a.length ca, .slice sp b.length cb]).run P w = .ok (.int .i64 (compareBytes a b)) w := by
  change Sem.run P (do pure (goInt (Extern.BytealgCompare.cmp (← Extern.Bytes.bytesOf (.slice so a.length ca)) (← Extern.Bytes.bytesOf (.slice sp b.length cb))))) w = _
  simp only [Sem.run_bind, Sem.run_pure, Result.andThen, qij ha, qij hb]
  rw [Go.Lib.cmp_eq]
  rfl
set_option maxHeartbeats 1000000 in
set_option maxRecDepth 100000 in
theorem bcmp_any {w : World} {so sp : Option Addr} {a b : List UInt8} {ca cb : Nat} (ha : Rb w so a) (hb : Rb w sp b) : Calls Tryz.prog 23 #[.slice so a.length ca, .slice sp b.length cb] w fun e w' => e = .returned (.int .i64 (compareBytes a b)) ∧ Below w.heap.size w w' := by
  go_enter Tryz.func23, Tryz.ntmps23
  go_wp2
  rw [run_callFunc_extern Tryz.func41 (by kernel_rfl) (by kernel_rfl) (by kernel_rfl) (e := Extern.BytealgCompare.compare) (by kernel_rfl), run_compareS ha hb]
  simp only [Result.andThen]
  rw [Oper.upon_value]
  go_wp2
  go_ret
  exact ⟨rfl, Below.refl _ _⟩
theorem qja {w : World} {s t : ByteArray} : Calls Tryz.prog 22 #[.string s, .string t] w fun e w' => e = .returned (.int .i64 (compareBytes s.data.toList t.data.toList)) ∧ Below w.heap.size w w' := (Tryz.strings_Compare s t w).mono fun e w' ⟨h, e2⟩ => ⟨h, e2 ▸ Below.refl _ _⟩
set_option maxRecDepth 100000
theorem TrU_is1_21 : Is1 Tryz.prog 21 := ⟨⟨_, Tryz.underlying21, rfl⟩, by kernel_rfl⟩
theorem TrU_is1_5 : Is1 Tryz.prog 5 := ⟨⟨_, Tryz.underlying5, rfl⟩, by kernel_rfl⟩
open Go.Lib
theorem qfg {f p : Nat} {l : List UInt8} (hl : l ≠ []) : vg (f + 1) p l = ((p : Int), uR (decodeL l).1 (decodeL l).2) :: vg f (p + (decodeL l).2) (l.drop (decodeL l).2) := by
 conv => lhs; unfold vg
 rw [if_neg hl]
theorem qhd {w : World} {so : Option Addr} {l : List UInt8} {i : Nat} (h : Rb w so l) (hi : i < l.length) : ∃ b off, so = some ⟨b, off, none⟩ ∧ b < w.heap.size ∧ ∀ j, j < l.length → w.cell? ⟨b, off + j, none⟩ = some (.int .u8 (((l.getD j 0).toNat : Nat) : Int)) :=
 h.pos (fun k => by rw [k] at hi; exact absurd hi (Nat.not_lt_zero _))
/-- Units as the document keeps them: a character, whether there is none, its place. -/
def qr (us : List (Int × Int)) : List Value := us.flatMap fun u => if u.2 = -1 then [.int .i32 0, .bool true, .int .i64 u.1] else [.int .i32 u.2, .bool false, .int .i64 u.1]
theorem vv {x : Int} (i : Nat) (m : Int) (hm : m = ((2 ^ i - 1 : Nat) : Int)) (hs : m ≤ 255) (h0 : 0 ≤ x) (h1 : x ≤ 255) : bits .and .u8 x m = x % ((2 ^ i : Nat) : Int) := by
 obtain ⟨n, rfl⟩ : ∃ n : Nat, x = (n : Int) := ⟨x.toNat, by omega⟩
 subst hm
 have h2 : n &&& (2 ^ i - 1) = n % 2 ^ i := Nat.and_two_pow_sub_one_eq_mod n i
 have e : (BitVec.ofInt IntKind.u8.bits (n : Int) &&& BitVec.ofInt IntKind.u8.bits (((2 ^ i - 1 : Nat)) : Int)).toNat = n % 2 ^ i := by
  rw [← h2, BitVec.ofInt_natCast, BitVec.ofInt_natCast, BitVec.toNat_and, BitVec.toNat_ofNat, BitVec.toNat_ofNat]
  show n % 256 &&& (2 ^ i - 1) % 256 = _
  rw [Nat.mod_eq_of_lt (by omega), Nat.mod_eq_of_lt (by omega)]
 show IntKind.u8.wrap ((BitVec.ofInt IntKind.u8.bits (n : Int) &&& BitVec.ofInt IntKind.u8.bits (((2 ^ i - 1 : Nat)) : Int)).toNat : Int) = _
 rw [e]
 have := Nat.mod_le n (2 ^ i)
 exact (in_u8 (by omega) (by omega)).trans (Int.natCast_emod n (2 ^ i))
theorem kz {c x : Int} (h0 : 0 ≤ c) (h1 : c ≤ 33554431) (h2 : 0 ≤ x) (h3 : x ≤ 63) : bits .or .i32 (c * 64) x = c * 64 + x := by
 obtain ⟨a, rfl⟩ : ∃ a : Nat, c = (a : Int) := ⟨c.toNat, by omega⟩
 obtain ⟨n, rfl⟩ : ∃ n : Nat, x = (n : Int) := ⟨x.toNat, by omega⟩
 have := Nat.two_pow_add_eq_or_of_lt (i := 6) (b := n) (by omega) a
 rw [show (2 : Nat) ^ 6 = 64 from rfl] at this
 have e := or_i32 (64 * a) n (by omega) (by omega)
 rw [show (((64 * a : Nat)) : Int) = (a : Int) * 64 from by omega] at e
 rw [e, ← this]
 omega
/-- The units from a place on. -/
def qfh (l : List UInt8) (i : Nat) : List (Int × Int) := vg (l.length - i) i (l.drop i)
theorem restU_zero (l : List UInt8) : qfh l 0 = jy l := by unfold qfh jy; rw [List.drop_zero, Nat.sub_zero]
theorem restU_over {l : List UInt8} {i : Nat} (h : ¬ i < l.length) : qfh l i = [] := by unfold qfh; rw [show l.length - i = 0 from by omega]; rfl
theorem zr {l : List UInt8} {i r q : Nat} (h : i < l.length) (e : decodeN (l.length - i) (l.getD i 0).toNat (l.getD (i + 1) 0).toNat (l.getD (i + 2) 0).toNat (l.getD (i + 3) 0).toNat = (r, q)) : qfh l i = ((i : Int), uR r q) :: qfh l (i + q) := by
 have hne : l.drop i ≠ [] := fun k => by
  have := congrArg List.length k
  rw [List.length_drop, List.length_nil] at this
  omega
 have hd : decodeL (l.drop i) = (r, q) := by
  rw [decodeL_N, uj, uj, uj, uj, List.length_drop]
  exact e
 have hw := xk _ hne
 rw [hd, List.length_drop] at hw
 simp only at hw
 unfold qfh
 obtain ⟨m, hm⟩ : ∃ m, l.length - i = m + 1 := ⟨l.length - i - 1, by omega⟩
 rw [hm, qfg hne, hd, List.drop_drop]
 simp only
 rw [yv m (l.length - (i + q)) _ _ (by rw [List.length_drop]; omega) (by rw [List.length_drop]; omega)]
set_option maxHeartbeats 4000000 in
theorem rutf8_any {w : World} {so : Option Addr} {cap : Nat} {l : List UInt8} (hb : Rb w so l) (hlen : l.length ≤ 2000000) : Calls Tryz.prog 79 #[.slice so l.length cap] w fun e w' => ∃ v, e = .returned v ∧ Mg w w' [.row 80 3 v (jy l).length (qr (jy l))] := by
 have M : Mg w w ([]) := Mg.start w
 refine ze (l := [(0, .slice so l.length cap)]) Tryz.func79 rfl Tryz.ntmps79 rfl rfl ?_
 intro Q hret hnorm hP a A
 refine wsk fun K1 hK1 => wrl (sda A λa A↦?_)
 refine qa (hK1 _ _ (wsk fun K2 hK2 => wrl (jm (e := 80) (sz := 3) (m := 0) (vs := []) A M rfl rfl rfl (qp rfl (by kernel_rfl)) rfl rfl (.inl (by decide)) ?_)))
 intro g3 w4 M a A
 refine sda A λa A↦?_
 refine qa (hK2 _ _ (wsk fun K5 hK5 => wsk fun K6 hK6 => wrl (sda A λa A↦?_)))
 refine qa (hK6 _ _ (wp_block (jr (fun m_ a w1 => ∃ (i : Nat) (acc : List (Int × Int)) (vo : Value), m_ = l.length - i ∧ (acc ++ qfh l i = jy l ∧ i ≤ l.length ∧ acc.length ≤ i) ∧ Sl a 122 [(0, .slice so l.length cap), (2, .slice none 0 0), (3, vo), (4, .int .i64 (((i : Nat) : Int))), (12, .slice (some ⟨g3, 0, none⟩) 0 0)] ∧ Mg w w1 (.row 80 3 (vo) acc.length ((qr acc)) :: [])) _ ⟨0, [], .slice (some ⟨g3, 0, none⟩) 0 0, rfl, ⟨by rw [restU_zero]; rfl, Nat.zero_le _, Nat.le_refl _⟩, A.keep _ ⟨rfl, rfl, rfl, rfl, rfl, trivial⟩, M⟩ ?_)))
 clear M A
 rintro m_ a w7 ⟨i, acc, vo, rfl, hinv9, A, M⟩ K8 hK8
 obtain ⟨hrun, hi9, hacc⟩ := hinv9
 refine wsk fun K10 hK10 => wsk fun K11 hK11 => wrl ?_
 iterate 2 refine sdm A λa A↦?_
 refine sdo A (qt Tryz.underlying27 rfl) λa A↦?_
 rcases tf (decide (((i : Nat) : Int) < ((l.length : Nat) : Int))) with hb12 | hb12
 ·
  have hb12' := of_decide_eq_true hb12
  refine sdo (v := .bool true) A (qb rfl rfl (fun w => (zk w).trans (by rw [hb12]))) λa A↦?_
  refine qa (hK11 _ _ (wp_cond_true (A.ev rfl) ?_))
  refine wp_skip (hK10 _ _ (wp_block (wsk fun K13 hK13 => wrl ?_)))
  iterate 2 refine sda A λa A↦?_
  refine qa (hK13 _ _ (wsk fun K14 hK14 => wrl ?_))
  iterate 2 refine sdm A λa A↦?_
  obtain ⟨bx, ox, hx1, hx2, hx3⟩ := qhd (i := i) hb (by omega)
  refine sdo (v := .pointer (some ⟨bx, ox + (i), none⟩)) A (zt Tryz.underlying27 (by kernel_rfl) rfl rfl rfl hx1 (show i < l.length by omega)) λa A↦?_
  refine sdo (v := .int .u8 ((((l.getD i 0).toNat : Nat) : Int))) A (ve M hx2 (hx3 (i) (by omega)) TrU_is1_5 rfl) λa A↦?_
  have hu0 := (l.getD (i) 0).toNat_lt
  refine sda A λa A↦?_
  refine qa (hK14 _ _ (wsk fun K15 hK15 => wp_block (wsk fun K16 hK16 => wrl (sdm A λa A↦?_))))
  rcases tf (decide ((((l.getD i 0).toNat : Nat) : Int) < 128)) with hb17 | hb17
  ·
   have hb17' := of_decide_eq_true hb17
   refine sdo (v := .bool true) A (qb rfl rfl (fun w => (zk w).trans (by rw [hb17]))) λa A↦?_
   refine sda A λa A↦?_
   refine qa (hK16 _ _ (wp_cond_true (A.ev rfl) ?_))
   refine wrl (sdm A λa A↦?_)
   refine sdo (v := .int .i32 ((((l.getD i 0).toNat : Nat) : Int))) A (zq rfl (ar_conv Tryz.underlying5 Tryz.underlying21 (in_i32 (by omega) (by omega)))) λa A↦?_
   iterate 2 refine sda A λa A↦?_
   refine qa (hK15 _ _ (wsk fun K18 hK18 => wrl (sdm A λa A↦?_)))
   refine sdo (v := .bool true) A (qb rfl rfl (fun w => by kernel_rfl)) λa A↦?_
   iterate 3 refine sdm A λa A↦?_
   refine sdo (v := .int .i64 (((i + 1 : Nat) : Int))) A (qb rfl rfl (ar_add ((in_i64 (by omega) (by omega)).trans (by omega)))) λa A↦?_
   refine sdm A λa A↦?_
   refine sdo A (qt Tryz.underlying27 rfl) λa A↦?_
   rcases tf (decide (((i + 1 : Nat) : Int) ≤ ((l.length : Nat) : Int))) with hb19 | hb19
   ·
    have hb19' := of_decide_eq_true hb19
    refine sdo (v := .bool true) A (qb rfl rfl (fun w => (jz w).trans (by rw [hb19]))) λa A↦?_
    refine sdk (v := .bool true) A λa A↦?_
    refine sda A λa A↦?_
    refine qa (hK18 _ _ (wsk fun K20 hK20 => wsk fun K21 hK21 => wrl (sda A λa A↦?_)))
    refine qa (hK21 _ _ (wp_block (wp_loop_rounds 5 ?_)))
    refine jf ?_
    intro K22 hK22
    refine wsk fun K23 hK23 => wsk fun K24 hK24 => wrl ?_
    iterate 4 refine sdm A λa A↦?_
    refine sdo (v := .bool false) A (qb rfl rfl (fun w => by kernel_rfl)) λa A↦?_
    refine sdk (v := .bool false) A λa A↦?_
    refine qa (hK24 _ _ (wp_cond_false (A.ev rfl) ?_))
    refine wp_exit (hK20 _ _ (wsk fun K25 hK25 => wsk fun K26 hK26 => wrl ?_))
    iterate 3 refine sdm A λa A↦?_
    refine sdo (v := .bool false) A (qb rfl rfl (fun w => by kernel_rfl)) λa A↦?_
    refine sdk (v := .bool false) A λa A↦?_
    refine qa (hK26 _ _ (wp_cond_false (A.ev rfl) ?_))
    refine wp_skip (hK25 _ _ (wsk fun K27 hK27 => wrl (sdm A λa A↦?_)))
    refine qa (hK27 _ _ (wp_cond_true (A.ev rfl) ?_))
    refine wsk fun K28 hK28 => wrl ?_
    iterate 3 refine sdm A λa A↦?_
    refine sdo (v := .agg #[.int .i32 ((((l.getD i 0).toNat : Nat) : Int)), .bool false, .int .i64 (((i : Nat) : Int))]) A (zb rfl (fun w => by kernel_rfl)) λa A↦?_
    refine jm (e := 80) (sz := 3) (m := 1) (vs := [.int .i32 ((((l.getD i 0).toNat : Nat) : Int)), .bool false, .int .i64 (((i : Nat) : Int))]) A M rfl rfl rfl (qp rfl (by kernel_rfl)) rfl rfl (.inl (by decide)) ?_
    intro g29 w30 M a A
    refine zw (e := 80) (sz := 3) (k := 1) (q := acc.length) (m := 1) (xs := (qr acc)) (news := [.int .i32 ((((l.getD i 0).toNat : Nat) : Int)), .bool false, .int .i64 (((i : Nat) : Int))]) (L' := fun v31 => (.row 80 3 (.slice (some ⟨g29, 0, none⟩) 1 1) 1 ([.int .i32 ((((l.getD i 0).toNat : Nat) : Int)), .bool false, .int .i64 (((i : Nat) : Int))]) :: .row 80 3 (v31) (acc.length + 1) ((qr acc) ++ [.int .i32 ((((l.getD i 0).toNat : Nat) : Int)), .bool false, .int .i64 (((i : Nat) : Int))]) :: [])) A rfl rfl rfl (zv (z := .agg #[.int .i32 0, .bool false, .int .i64 0]) (sz := 3) (by_ := 16) Tryz.underlying77 (by kernel_rfl) rfl rfl rfl M 1 rfl rfl 0 rfl rfl rfl rfl (by omega)) (fun _ => rfl) ?_
    intro v31 w32 M a A
    refine sda A λa A↦?_
    refine qa (hK28 _ _ (wrl ?_))
    iterate 2 refine sdm A λa A↦?_
    refine sdo (v := .int .i64 (((i + 1 : Nat) : Int))) A (qb rfl rfl (ar_add ((in_i64 (by omega) (by omega)).trans (by omega)))) λa A↦?_
    refine sda A λa A↦?_
    refine qa ?_
    have hd : decodeN (l.length - i) (l.getD i 0).toNat (l.getD (i + 1) 0).toNat (l.getD (i + 2) 0).toNat (l.getD (i + 3) 0).toNat = (((((l.getD i 0).toNat : Nat) : Int)).toNat, 1) := by
     unfold Lib.decodeN
     repeat' split
     all_goals first | rfl | (exfalso; omega) | (refine Prod.ext ?_ rfl; show (_ : Nat) = _; omega)
    have hr9 : uR (((((l.getD i 0).toNat : Nat) : Int)).toNat) 1 = ((((l.getD i 0).toNat : Nat) : Int)) := by unfold uR; rw [if_neg (by omega)]; omega
    have hs9 := zr (show i < l.length by omega) hd
    rw [hr9] at hs9
    replace M : Mg w w32 [.row 80 3 v31 (acc ++ [((i : Int), ((((l.getD i 0).toNat : Nat) : Int)))]).length (qr (acc ++ [((i : Int), ((((l.getD i 0).toNat : Nat) : Int)))]))] := by
     have h9 := M.sub (.cons _ (.cons_cons _ (.refl _)))
     have e9 : qr (acc ++ [((i : Int), ((((l.getD i 0).toNat : Nat) : Int)))]) = qr acc ++ [.int .i32 ((((l.getD i 0).toNat : Nat) : Int)), .bool false, .int .i64 (((i : Nat) : Int))] := by
      unfold qr
      rw [List.flatMap_append, List.flatMap_singleton]
      rw [if_neg (show ¬ _ = (-1 : Int) by simp only; omega)]
     rw [e9, List.length_append]
     exact h9
    refine hK8 _ _ _ (by omega) ⟨i + 1, acc ++ [((i : Int), ((((l.getD i 0).toNat : Nat) : Int)))], v31, rfl, ⟨by rw [← hrun, hs9, List.append_assoc]; rfl, by omega, by rw [List.length_append]; simp only [List.length_cons, List.length_nil]; omega⟩, A.keep _ ⟨rfl, rfl, rfl, rfl, rfl, trivial⟩, M⟩
   ·
    have hb19' := of_decide_eq_false hb19
    refine sdo (v := .bool false) A (qb rfl rfl (fun w => (jz w).trans (by rw [hb19]))) λa A↦?_
    refine sdk (v := .bool false) A λa A↦?_
    refine sda A λa A↦?_
    refine qa (hK18 _ _ (wsk fun K33 hK33 => wsk fun K34 hK34 => wrl (sda A λa A↦?_)))
    refine qa (hK34 _ _ (wp_block (wp_loop_rounds 5 ?_)))
    refine jf ?_
    intro K35 hK35
    refine wsk fun K36 hK36 => wsk fun K37 hK37 => wrl ?_
    iterate 2 refine sdm A λa A↦?_
    iterate 3 refine qk A rfl rfl rfl λa A↦?_
    refine sdk (v := .bool false) A λa A↦?_
    refine qa (hK37 _ _ (wp_cond_false (A.ev rfl) ?_))
    refine wp_exit (hK33 _ _ (wsk fun K38 hK38 => wsk fun K39 hK39 => wrl ?_))
    iterate 2 refine sdm A λa A↦?_
    iterate 2 refine qk A rfl rfl rfl λa A↦?_
    refine sdk (v := .bool false) A λa A↦?_
    refine qa (hK39 _ _ (wp_cond_false (A.ev rfl) ?_))
    refine wp_skip (hK38 _ _ (wsk fun K40 hK40 => wrl (sdm A λa A↦?_)))
    refine qa (hK40 _ _ (wp_cond_false (A.ev rfl) ?_))
    refine wsk fun K41 hK41 => wrl ?_
    iterate 2 refine sdm A λa A↦?_
    refine sdo (v := .agg #[.int .i32 0, .bool true, .int .i64 (((i : Nat) : Int))]) A (zb rfl (fun w => by kernel_rfl)) λa A↦?_
    refine jm (e := 80) (sz := 3) (m := 1) (vs := [.int .i32 0, .bool true, .int .i64 (((i : Nat) : Int))]) A M rfl rfl rfl (qp rfl (by kernel_rfl)) rfl rfl (.inl (by decide)) ?_
    intro g42 w43 M a A
    refine zw (e := 80) (sz := 3) (k := 1) (q := acc.length) (m := 1) (xs := (qr acc)) (news := [.int .i32 0, .bool true, .int .i64 (((i : Nat) : Int))]) (L' := fun v44 => (.row 80 3 (.slice (some ⟨g42, 0, none⟩) 1 1) 1 ([.int .i32 0, .bool true, .int .i64 (((i : Nat) : Int))]) :: .row 80 3 (v44) (acc.length + 1) ((qr acc) ++ [.int .i32 0, .bool true, .int .i64 (((i : Nat) : Int))]) :: [])) A rfl rfl rfl (zv (z := .agg #[.int .i32 0, .bool false, .int .i64 0]) (sz := 3) (by_ := 16) Tryz.underlying77 (by kernel_rfl) rfl rfl rfl M 1 rfl rfl 0 rfl rfl rfl rfl (by omega)) (fun _ => rfl) ?_
    intro v44 w45 M a A
    refine sda A λa A↦?_
    refine qa (hK41 _ _ (wrl (sdm A λa A↦?_)))
    refine sdo (v := .int .i64 (((i + 1 : Nat) : Int))) A (qb rfl rfl (ar_add ((in_i64 (by omega) (by omega)).trans (by omega)))) λa A↦?_
    refine sda A λa A↦?_
    refine qa ?_
    have hd : decodeN (l.length - i) (l.getD i 0).toNat (l.getD (i + 1) 0).toNat (l.getD (i + 2) 0).toNat (l.getD (i + 3) 0).toNat = (65533, 1) := by
     unfold Lib.decodeN
     repeat' split
     all_goals first | rfl | (exfalso; omega) | (refine Prod.ext ?_ rfl; show (_ : Nat) = _; omega)
    have hr9 : uR (65533) 1 = (-1) := by unfold uR; rw [if_pos ⟨rfl, by decide⟩]
    have hs9 := zr (show i < l.length by omega) hd
    rw [hr9] at hs9
    replace M : Mg w w45 [.row 80 3 v44 (acc ++ [((i : Int), (-1))]).length (qr (acc ++ [((i : Int), (-1))]))] := by
     have h9 := M.sub (.cons _ (.cons_cons _ (.refl _)))
     have e9 : qr (acc ++ [((i : Int), (-1))]) = qr acc ++ [.int .i32 0, .bool true, .int .i64 (((i : Nat) : Int))] := by
      unfold qr
      rw [List.flatMap_append, List.flatMap_singleton]
      rw [if_pos rfl]
     rw [e9, List.length_append]
     exact h9
    refine hK8 _ _ _ (by omega) ⟨i + 1, acc ++ [((i : Int), (-1))], v44, rfl, ⟨by rw [← hrun, hs9, List.append_assoc]; rfl, by omega, by rw [List.length_append]; simp only [List.length_cons, List.length_nil]; omega⟩, A.keep _ ⟨rfl, rfl, rfl, rfl, rfl, trivial⟩, M⟩
  ·
   have hb17' := of_decide_eq_false hb17
   refine sdo (v := .bool false) A (qb rfl rfl (fun w => (zk w).trans (by rw [hb17]))) λa A↦?_
   refine sda A λa A↦?_
   refine qa (hK16 _ _ (wp_cond_false (A.ev rfl) ?_))
   refine wsk fun K46 hK46 => wrl (sdm A λa A↦?_)
   refine sdo (v := .int .u8 (((((l.getD i 0).toNat : Nat) : Int)) / 32)) A (qb rfl rfl (ar_shr (n := 5) rfl rfl rfl)) λa A↦?_
   rcases tf ((((((l.getD i 0).toNat : Nat) : Int)) / 32 == 6)) with hb47 | hb47
   ·
    have hb47' := eq_of_beq hb47
    refine sdo (v := .bool true) A (qb rfl rfl (fun w => (ql w).trans (by rw [hb47]))) λa A↦?_
    refine sda A λa A↦?_
    refine qa (hK46 _ _ (wp_cond_true (A.ev rfl) ?_))
    refine wrl (sdm A λa A↦?_)
    refine sdo (v := .int .u8 (((((l.getD i 0).toNat : Nat) : Int)) % 32)) A (qb rfl rfl (ar_and (vv 5 31 rfl (by decide) (by omega) (by omega)))) λa A↦?_
    refine sdo (v := .int .i32 (((((l.getD i 0).toNat : Nat) : Int)) % 32)) A (zq rfl (ar_conv Tryz.underlying5 Tryz.underlying21 (in_i32 (by omega) (by omega)))) λa A↦?_
    iterate 2 refine sda A λa A↦?_
    refine qa (hK15 _ _ (wsk fun K48 hK48 => wrl (sdm A λa A↦?_)))
    refine sdo (v := .bool true) A (qb rfl rfl (fun w => by kernel_rfl)) λa A↦?_
    iterate 3 refine sdm A λa A↦?_
    refine sdo (v := .int .i64 (((i + 2 : Nat) : Int))) A (qb rfl rfl (ar_add ((in_i64 (by omega) (by omega)).trans (by omega)))) λa A↦?_
    refine sdm A λa A↦?_
    refine sdo A (qt Tryz.underlying27 rfl) λa A↦?_
    rcases tf (decide (((i + 2 : Nat) : Int) ≤ ((l.length : Nat) : Int))) with hb49 | hb49
    ·
     have hb49' := of_decide_eq_true hb49
     refine sdo (v := .bool true) A (qb rfl rfl (fun w => (jz w).trans (by rw [hb49]))) λa A↦?_
     refine sdk (v := .bool true) A λa A↦?_
     refine sda A λa A↦?_
     refine qa (hK48 _ _ (wsk fun K50 hK50 => wsk fun K51 hK51 => wrl (sda A λa A↦?_)))
     refine qa (hK51 _ _ (wp_block (wp_loop_rounds 5 ?_)))
     refine jf ?_
     intro K52 hK52
     refine wsk fun K53 hK53 => wsk fun K54 hK54 => wrl ?_
     iterate 4 refine sdm A λa A↦?_
     refine sdo (v := .bool true) A (qb rfl rfl (fun w => by kernel_rfl)) λa A↦?_
     refine sdk (v := .bool true) A λa A↦?_
     refine qa (hK54 _ _ (wp_cond_true (A.ev rfl) ?_))
     refine wp_skip (hK53 _ _ (wsk fun K55 hK55 => wp_block (wsk fun K56 hK56 => wrl ?_)))
     iterate 3 refine sdm A λa A↦?_
     refine sdo (v := .int .i64 (((i + 1 : Nat) : Int))) A (qb rfl rfl (ar_add ((in_i64 (by omega) (by omega)).trans (by omega)))) λa A↦?_
     refine sdo (v := .pointer (some ⟨bx, ox + (i + 1), none⟩)) A (zt Tryz.underlying27 (by kernel_rfl) rfl rfl rfl hx1 (show i + 1 < l.length by omega)) λa A↦?_
     refine sdo (v := .int .u8 ((((l.getD (i + 1) 0).toNat : Nat) : Int))) A (ve M hx2 (hx3 (i + 1) (by omega)) TrU_is1_5 rfl) λa A↦?_
     have hu1 := (l.getD (i + 1) 0).toNat_lt
     refine sda A λa A↦?_
     refine qa (hK56 _ _ (wsk fun K57 hK57 => wrl (sdm A λa A↦?_)))
     refine sdo (v := .int .u8 (((((l.getD (i + 1) 0).toNat : Nat) : Int)) / 64)) A (qb rfl rfl (ar_shr (n := 6) rfl rfl rfl)) λa A↦?_
     rcases tf ((((((l.getD (i + 1) 0).toNat : Nat) : Int)) / 64 == 2)) with hb58 | hb58
     ·
      have hb58' := eq_of_beq hb58
      refine sdo (v := .bool true) A (qb rfl rfl (fun w => (ql w).trans (by rw [hb58]))) λa A↦?_
      refine sda A λa A↦?_
      refine qa (hK57 _ _ (wrl (sdm A λa A↦?_)))
      refine sdo (v := .int .i32 ((((((l.getD i 0).toNat : Nat) : Int)) % 32) * 64)) A (qb rfl rfl (ar_shl (n := 6) rfl rfl (in_i32 (by omega) (by omega)))) λa A↦?_
      refine sdm A λa A↦?_
      refine sdo (v := .int .u8 (((((l.getD (i + 1) 0).toNat : Nat) : Int)) % 64)) A (qb rfl rfl (ar_and (vv 6 63 rfl (by decide) (by omega) (by omega)))) λa A↦?_
      refine sdo (v := .int .i32 (((((l.getD (i + 1) 0).toNat : Nat) : Int)) % 64)) A (zq rfl (ar_conv Tryz.underlying5 Tryz.underlying21 (in_i32 (by omega) (by omega)))) λa A↦?_
      refine sdo (v := .int .i32 ((((((l.getD i 0).toNat : Nat) : Int)) % 32) * 64 + (((((l.getD (i + 1) 0).toNat : Nat) : Int)) % 64))) A (qb rfl rfl (ar_or (kz (by omega) (by omega) (by omega) (by omega)))) λa A↦?_
      refine sda A λa A↦?_
      refine qa (hK55 _ _ (wrl (sdm A λa A↦?_)))
      refine sdo (v := .int .i64 2) A (qb rfl rfl (fun w => by kernel_rfl)) λa A↦?_
      refine sda A λa A↦?_
      refine qa (hK52 _ _ (jf ?_))
      intro K59 hK59
      refine wsk fun K60 hK60 => wsk fun K61 hK61 => wrl ?_
      iterate 4 refine sdm A λa A↦?_
      refine sdo (v := .bool false) A (qb rfl rfl (fun w => by kernel_rfl)) λa A↦?_
      refine sdk (v := .bool false) A λa A↦?_
      refine qa (hK61 _ _ (wp_cond_false (A.ev rfl) ?_))
      refine wp_exit (hK50 _ _ (wsk fun K62 hK62 => wsk fun K63 hK63 => wrl ?_))
      iterate 3 refine sdm A λa A↦?_
      refine sdo (v := .bool true) A (qb rfl rfl (fun w => by kernel_rfl)) λa A↦?_
      refine sdk (v := .bool true) A λa A↦?_
      refine qa (hK63 _ _ (wp_cond_true (A.ev rfl) ?_))
      refine wsk fun K64 hK64 => wrl (jm (e := 21) (sz := 1) (m := 5) (vs := [.int .i32 0, .int .i32 0, .int .i32 128, .int .i32 2048, .int .i32 65536]) A M rfl rfl rfl (qp rfl (by kernel_rfl)) rfl rfl (.inl (by decide)) ?_)
      intro g65 w66 M a A
      refine sda A λa A↦?_
      refine qa (hK64 _ _ (wrl ?_))
      iterate 3 refine sdm A λa A↦?_
      refine sdo (v := .pointer (some ⟨g65, 2, none⟩)) A (jv rfl rfl (fun w => by kernel_rfl)) λa A↦?_
      refine sdo (v := .int .i32 128) A (qgi M 0 rfl rfl TrU_is1_21 rfl) λa A↦?_
      rcases tf (decide (128 ≤ (((((l.getD i 0).toNat : Nat) : Int)) % 32) * 64 + (((((l.getD (i + 1) 0).toNat : Nat) : Int)) % 64))) with hb67 | hb67
      ·
       have hb67' := of_decide_eq_true hb67
       refine sdo (v := .bool true) A (qb rfl rfl (fun w => (xi w).trans (by rw [hb67]))) λa A↦?_
       iterate 2 refine sdm A λa A↦?_
       rcases tf (decide ((((((l.getD i 0).toNat : Nat) : Int)) % 32) * 64 + (((((l.getD (i + 1) 0).toNat : Nat) : Int)) % 64) ≤ 1114111)) with hb68 | hb68
       ·
        have hb68' := of_decide_eq_true hb68
        refine sdo (v := .bool true) A (qb rfl rfl (fun w => (jz w).trans (by rw [hb68]))) λa A↦?_
        refine sdk (v := .bool true) A λa A↦?_
        iterate 2 refine sdm A λa A↦?_
        rcases tf (decide ((((((l.getD i 0).toNat : Nat) : Int)) % 32) * 64 + (((((l.getD (i + 1) 0).toNat : Nat) : Int)) % 64) < 55296)) with hb69 | hb69
        ·
         have hb69' := of_decide_eq_true hb69
         refine sdo (v := .bool true) A (qb rfl rfl (fun w => (zk w).trans (by rw [hb69]))) λa A↦?_
         refine sdm A λa A↦?_
         iterate 2 refine qk A rfl rfl rfl λa A↦?_
         iterate 2 refine sdk (v := .bool true) A λa A↦?_
         refine sda A λa A↦?_
         refine qa (hK62 _ _ (wsk fun K70 hK70 => wrl (sdm A λa A↦?_)))
         refine qa (hK70 _ _ (wp_cond_true (A.ev rfl) ?_))
         refine wsk fun K71 hK71 => wrl ?_
         iterate 3 refine sdm A λa A↦?_
         refine sdo (v := .agg #[.int .i32 ((((((l.getD i 0).toNat : Nat) : Int)) % 32) * 64 + (((((l.getD (i + 1) 0).toNat : Nat) : Int)) % 64)), .bool false, .int .i64 (((i : Nat) : Int))]) A (zb rfl (fun w => by kernel_rfl)) λa A↦?_
         refine jm (e := 80) (sz := 3) (m := 1) (vs := [.int .i32 ((((((l.getD i 0).toNat : Nat) : Int)) % 32) * 64 + (((((l.getD (i + 1) 0).toNat : Nat) : Int)) % 64)), .bool false, .int .i64 (((i : Nat) : Int))]) A M rfl rfl rfl (qp rfl (by kernel_rfl)) rfl rfl (.inl (by decide)) ?_
         intro g72 w73 M a A
         refine zw (e := 80) (sz := 3) (k := 2) (q := acc.length) (m := 1) (xs := (qr acc)) (news := [.int .i32 ((((((l.getD i 0).toNat : Nat) : Int)) % 32) * 64 + (((((l.getD (i + 1) 0).toNat : Nat) : Int)) % 64)), .bool false, .int .i64 (((i : Nat) : Int))]) (L' := fun v74 => (.row 80 3 (.slice (some ⟨g72, 0, none⟩) 1 1) 1 ([.int .i32 ((((((l.getD i 0).toNat : Nat) : Int)) % 32) * 64 + (((((l.getD (i + 1) 0).toNat : Nat) : Int)) % 64)), .bool false, .int .i64 (((i : Nat) : Int))]) :: .row 21 1 (.slice (some ⟨g65, 0, none⟩) 5 5) 5 ([.int .i32 0, .int .i32 0, .int .i32 128, .int .i32 2048, .int .i32 65536]) :: .row 80 3 (v74) (acc.length + 1) ((qr acc) ++ [.int .i32 ((((((l.getD i 0).toNat : Nat) : Int)) % 32) * 64 + (((((l.getD (i + 1) 0).toNat : Nat) : Int)) % 64)), .bool false, .int .i64 (((i : Nat) : Int))]) :: [])) A rfl rfl rfl (zv (z := .agg #[.int .i32 0, .bool false, .int .i64 0]) (sz := 3) (by_ := 16) Tryz.underlying77 (by kernel_rfl) rfl rfl rfl M 2 rfl rfl 0 rfl rfl rfl rfl (by omega)) (fun _ => rfl) ?_
         intro v74 w75 M a A
         refine sda A λa A↦?_
         refine qa (hK71 _ _ (wrl ?_))
         iterate 2 refine sdm A λa A↦?_
         refine sdo (v := .int .i64 (((i + 2 : Nat) : Int))) A (qb rfl rfl (ar_add ((in_i64 (by omega) (by omega)).trans (by omega)))) λa A↦?_
         refine sda A λa A↦?_
         refine qa ?_
         have hd : decodeN (l.length - i) (l.getD i 0).toNat (l.getD (i + 1) 0).toNat (l.getD (i + 2) 0).toNat (l.getD (i + 3) 0).toNat = (((((((l.getD i 0).toNat : Nat) : Int)) % 32) * 64 + (((((l.getD (i + 1) 0).toNat : Nat) : Int)) % 64)).toNat, 2) := by
          unfold Lib.decodeN
          repeat' split
          all_goals first | rfl | (exfalso; omega) | (refine Prod.ext ?_ rfl; show (_ : Nat) = _; omega)
         have hr9 : uR (((((((l.getD i 0).toNat : Nat) : Int)) % 32) * 64 + (((((l.getD (i + 1) 0).toNat : Nat) : Int)) % 64)).toNat) 2 = ((((((l.getD i 0).toNat : Nat) : Int)) % 32) * 64 + (((((l.getD (i + 1) 0).toNat : Nat) : Int)) % 64)) := by unfold uR; rw [if_neg (by omega)]; omega
         have hs9 := zr (show i < l.length by omega) hd
         rw [hr9] at hs9
         replace M : Mg w w75 [.row 80 3 v74 (acc ++ [((i : Int), ((((((l.getD i 0).toNat : Nat) : Int)) % 32) * 64 + (((((l.getD (i + 1) 0).toNat : Nat) : Int)) % 64)))]).length (qr (acc ++ [((i : Int), ((((((l.getD i 0).toNat : Nat) : Int)) % 32) * 64 + (((((l.getD (i + 1) 0).toNat : Nat) : Int)) % 64)))]))] := by
          have h9 := M.sub (.cons _ (.cons _ (.cons_cons _ (.refl _))))
          have e9 : qr (acc ++ [((i : Int), ((((((l.getD i 0).toNat : Nat) : Int)) % 32) * 64 + (((((l.getD (i + 1) 0).toNat : Nat) : Int)) % 64)))]) = qr acc ++ [.int .i32 ((((((l.getD i 0).toNat : Nat) : Int)) % 32) * 64 + (((((l.getD (i + 1) 0).toNat : Nat) : Int)) % 64)), .bool false, .int .i64 (((i : Nat) : Int))] := by
           unfold qr
           rw [List.flatMap_append, List.flatMap_singleton]
           rw [if_neg (show ¬ _ = (-1 : Int) by simp only; omega)]
          rw [e9, List.length_append]
          exact h9
         refine hK8 _ _ _ (by omega) ⟨i + 2, acc ++ [((i : Int), ((((((l.getD i 0).toNat : Nat) : Int)) % 32) * 64 + (((((l.getD (i + 1) 0).toNat : Nat) : Int)) % 64)))], v74, rfl, ⟨by rw [← hrun, hs9, List.append_assoc]; rfl, by omega, by rw [List.length_append]; simp only [List.length_cons, List.length_nil]; omega⟩, A.keep _ ⟨rfl, rfl, rfl, rfl, rfl, trivial⟩, M⟩
        ·
         have hb69' := of_decide_eq_false hb69
         refine sdo (v := .bool false) A (qb rfl rfl (fun w => (zk w).trans (by rw [hb69]))) λa A↦?_
         iterate 2 refine sdm A λa A↦?_
         rcases tf (decide (57343 < (((((l.getD i 0).toNat : Nat) : Int)) % 32) * 64 + (((((l.getD (i + 1) 0).toNat : Nat) : Int)) % 64))) with hb76 | hb76
         ·
          have hb76' := of_decide_eq_true hb76
          refine sdo (v := .bool true) A (qb rfl rfl (fun w => (jd w).trans (by rw [hb76]))) λa A↦?_
          iterate 2 refine sdk (v := .bool true) A λa A↦?_
          refine sda A λa A↦?_
          refine qa (hK62 _ _ (wsk fun K77 hK77 => wrl (sdm A λa A↦?_)))
          refine qa (hK77 _ _ (wp_cond_true (A.ev rfl) ?_))
          refine wsk fun K78 hK78 => wrl ?_
          iterate 3 refine sdm A λa A↦?_
          refine sdo (v := .agg #[.int .i32 ((((((l.getD i 0).toNat : Nat) : Int)) % 32) * 64 + (((((l.getD (i + 1) 0).toNat : Nat) : Int)) % 64)), .bool false, .int .i64 (((i : Nat) : Int))]) A (zb rfl (fun w => by kernel_rfl)) λa A↦?_
          refine jm (e := 80) (sz := 3) (m := 1) (vs := [.int .i32 ((((((l.getD i 0).toNat : Nat) : Int)) % 32) * 64 + (((((l.getD (i + 1) 0).toNat : Nat) : Int)) % 64)), .bool false, .int .i64 (((i : Nat) : Int))]) A M rfl rfl rfl (qp rfl (by kernel_rfl)) rfl rfl (.inl (by decide)) ?_
          intro g79 w80 M a A
          refine zw (e := 80) (sz := 3) (k := 2) (q := acc.length) (m := 1) (xs := (qr acc)) (news := [.int .i32 ((((((l.getD i 0).toNat : Nat) : Int)) % 32) * 64 + (((((l.getD (i + 1) 0).toNat : Nat) : Int)) % 64)), .bool false, .int .i64 (((i : Nat) : Int))]) (L' := fun v81 => (.row 80 3 (.slice (some ⟨g79, 0, none⟩) 1 1) 1 ([.int .i32 ((((((l.getD i 0).toNat : Nat) : Int)) % 32) * 64 + (((((l.getD (i + 1) 0).toNat : Nat) : Int)) % 64)), .bool false, .int .i64 (((i : Nat) : Int))]) :: .row 21 1 (.slice (some ⟨g65, 0, none⟩) 5 5) 5 ([.int .i32 0, .int .i32 0, .int .i32 128, .int .i32 2048, .int .i32 65536]) :: .row 80 3 (v81) (acc.length + 1) ((qr acc) ++ [.int .i32 ((((((l.getD i 0).toNat : Nat) : Int)) % 32) * 64 + (((((l.getD (i + 1) 0).toNat : Nat) : Int)) % 64)), .bool false, .int .i64 (((i : Nat) : Int))]) :: [])) A rfl rfl rfl (zv (z := .agg #[.int .i32 0, .bool false, .int .i64 0]) (sz := 3) (by_ := 16) Tryz.underlying77 (by kernel_rfl) rfl rfl rfl M 2 rfl rfl 0 rfl rfl rfl rfl (by omega)) (fun _ => rfl) ?_
          intro v81 w82 M a A
          refine sda A λa A↦?_
          refine qa (hK78 _ _ (wrl ?_))
          iterate 2 refine sdm A λa A↦?_
          refine sdo (v := .int .i64 (((i + 2 : Nat) : Int))) A (qb rfl rfl (ar_add ((in_i64 (by omega) (by omega)).trans (by omega)))) λa A↦?_
          refine sda A λa A↦?_
          refine qa ?_
          have hd : decodeN (l.length - i) (l.getD i 0).toNat (l.getD (i + 1) 0).toNat (l.getD (i + 2) 0).toNat (l.getD (i + 3) 0).toNat = (((((((l.getD i 0).toNat : Nat) : Int)) % 32) * 64 + (((((l.getD (i + 1) 0).toNat : Nat) : Int)) % 64)).toNat, 2) := by
           unfold Lib.decodeN
           repeat' split
           all_goals first | rfl | (exfalso; omega) | (refine Prod.ext ?_ rfl; show (_ : Nat) = _; omega)
          have hr9 : uR (((((((l.getD i 0).toNat : Nat) : Int)) % 32) * 64 + (((((l.getD (i + 1) 0).toNat : Nat) : Int)) % 64)).toNat) 2 = ((((((l.getD i 0).toNat : Nat) : Int)) % 32) * 64 + (((((l.getD (i + 1) 0).toNat : Nat) : Int)) % 64)) := by unfold uR; rw [if_neg (by omega)]; omega
          have hs9 := zr (show i < l.length by omega) hd
          rw [hr9] at hs9
          replace M : Mg w w82 [.row 80 3 v81 (acc ++ [((i : Int), ((((((l.getD i 0).toNat : Nat) : Int)) % 32) * 64 + (((((l.getD (i + 1) 0).toNat : Nat) : Int)) % 64)))]).length (qr (acc ++ [((i : Int), ((((((l.getD i 0).toNat : Nat) : Int)) % 32) * 64 + (((((l.getD (i + 1) 0).toNat : Nat) : Int)) % 64)))]))] := by
           have h9 := M.sub (.cons _ (.cons _ (.cons_cons _ (.refl _))))
           have e9 : qr (acc ++ [((i : Int), ((((((l.getD i 0).toNat : Nat) : Int)) % 32) * 64 + (((((l.getD (i + 1) 0).toNat : Nat) : Int)) % 64)))]) = qr acc ++ [.int .i32 ((((((l.getD i 0).toNat : Nat) : Int)) % 32) * 64 + (((((l.getD (i + 1) 0).toNat : Nat) : Int)) % 64)), .bool false, .int .i64 (((i : Nat) : Int))] := by
            unfold qr
            rw [List.flatMap_append, List.flatMap_singleton]
            rw [if_neg (show ¬ _ = (-1 : Int) by simp only; omega)]
           rw [e9, List.length_append]
           exact h9
          refine hK8 _ _ _ (by omega) ⟨i + 2, acc ++ [((i : Int), ((((((l.getD i 0).toNat : Nat) : Int)) % 32) * 64 + (((((l.getD (i + 1) 0).toNat : Nat) : Int)) % 64)))], v81, rfl, ⟨by rw [← hrun, hs9, List.append_assoc]; rfl, by omega, by rw [List.length_append]; simp only [List.length_cons, List.length_nil]; omega⟩, A.keep _ ⟨rfl, rfl, rfl, rfl, rfl, trivial⟩, M⟩
         ·
          have hb76' := of_decide_eq_false hb76
          refine sdo (v := .bool false) A (qb rfl rfl (fun w => (jd w).trans (by rw [hb76]))) λa A↦?_
          iterate 2 refine sdk (v := .bool false) A λa A↦?_
          refine sda A λa A↦?_
          refine qa (hK62 _ _ (wsk fun K83 hK83 => wrl (sdm A λa A↦?_)))
          refine qa (hK83 _ _ (wp_cond_false (A.ev rfl) ?_))
          refine wsk fun K84 hK84 => wrl ?_
          iterate 2 refine sdm A λa A↦?_
          refine sdo (v := .agg #[.int .i32 0, .bool true, .int .i64 (((i : Nat) : Int))]) A (zb rfl (fun w => by kernel_rfl)) λa A↦?_
          refine jm (e := 80) (sz := 3) (m := 1) (vs := [.int .i32 0, .bool true, .int .i64 (((i : Nat) : Int))]) A M rfl rfl rfl (qp rfl (by kernel_rfl)) rfl rfl (.inl (by decide)) ?_
          intro g85 w86 M a A
          refine zw (e := 80) (sz := 3) (k := 2) (q := acc.length) (m := 1) (xs := (qr acc)) (news := [.int .i32 0, .bool true, .int .i64 (((i : Nat) : Int))]) (L' := fun v87 => (.row 80 3 (.slice (some ⟨g85, 0, none⟩) 1 1) 1 ([.int .i32 0, .bool true, .int .i64 (((i : Nat) : Int))]) :: .row 21 1 (.slice (some ⟨g65, 0, none⟩) 5 5) 5 ([.int .i32 0, .int .i32 0, .int .i32 128, .int .i32 2048, .int .i32 65536]) :: .row 80 3 (v87) (acc.length + 1) ((qr acc) ++ [.int .i32 0, .bool true, .int .i64 (((i : Nat) : Int))]) :: [])) A rfl rfl rfl (zv (z := .agg #[.int .i32 0, .bool false, .int .i64 0]) (sz := 3) (by_ := 16) Tryz.underlying77 (by kernel_rfl) rfl rfl rfl M 2 rfl rfl 0 rfl rfl rfl rfl (by omega)) (fun _ => rfl) ?_
          intro v87 w88 M a A
          refine sda A λa A↦?_
          refine qa (hK84 _ _ (wrl (sdm A λa A↦?_)))
          refine sdo (v := .int .i64 (((i + 1 : Nat) : Int))) A (qb rfl rfl (ar_add ((in_i64 (by omega) (by omega)).trans (by omega)))) λa A↦?_
          refine sda A λa A↦?_
          refine qa ?_
          have hd : decodeN (l.length - i) (l.getD i 0).toNat (l.getD (i + 1) 0).toNat (l.getD (i + 2) 0).toNat (l.getD (i + 3) 0).toNat = (65533, 1) := by
           unfold Lib.decodeN
           repeat' split
           all_goals first | rfl | (exfalso; omega) | (refine Prod.ext ?_ rfl; show (_ : Nat) = _; omega)
          have hr9 : uR (65533) 1 = (-1) := by unfold uR; rw [if_pos ⟨rfl, by decide⟩]
          have hs9 := zr (show i < l.length by omega) hd
          rw [hr9] at hs9
          replace M : Mg w w88 [.row 80 3 v87 (acc ++ [((i : Int), (-1))]).length (qr (acc ++ [((i : Int), (-1))]))] := by
           have h9 := M.sub (.cons _ (.cons _ (.cons_cons _ (.refl _))))
           have e9 : qr (acc ++ [((i : Int), (-1))]) = qr acc ++ [.int .i32 0, .bool true, .int .i64 (((i : Nat) : Int))] := by
            unfold qr
            rw [List.flatMap_append, List.flatMap_singleton]
            rw [if_pos rfl]
           rw [e9, List.length_append]
           exact h9
          refine hK8 _ _ _ (by omega) ⟨i + 1, acc ++ [((i : Int), (-1))], v87, rfl, ⟨by rw [← hrun, hs9, List.append_assoc]; rfl, by omega, by rw [List.length_append]; simp only [List.length_cons, List.length_nil]; omega⟩, A.keep _ ⟨rfl, rfl, rfl, rfl, rfl, trivial⟩, M⟩
       ·
        have hb68' := of_decide_eq_false hb68
        refine sdo (v := .bool false) A (qb rfl rfl (fun w => (jz w).trans (by rw [hb68]))) λa A↦?_
        refine sdk (v := .bool false) A λa A↦?_
        refine sdm A λa A↦?_
        iterate 3 refine qk A rfl rfl rfl λa A↦?_
        iterate 2 refine vj A rfl rfl rfl λa A↦?_
        refine qk A rfl rfl rfl λa A↦?_
        refine sdk (v := .bool false) A λa A↦?_
        refine sda A λa A↦?_
        refine qa (hK62 _ _ (wsk fun K89 hK89 => wrl (sdm A λa A↦?_)))
        refine qa (hK89 _ _ (wp_cond_false (A.ev rfl) ?_))
        refine wsk fun K90 hK90 => wrl ?_
        iterate 2 refine sdm A λa A↦?_
        refine sdo (v := .agg #[.int .i32 0, .bool true, .int .i64 (((i : Nat) : Int))]) A (zb rfl (fun w => by kernel_rfl)) λa A↦?_
        refine jm (e := 80) (sz := 3) (m := 1) (vs := [.int .i32 0, .bool true, .int .i64 (((i : Nat) : Int))]) A M rfl rfl rfl (qp rfl (by kernel_rfl)) rfl rfl (.inl (by decide)) ?_
        intro g91 w92 M a A
        refine zw (e := 80) (sz := 3) (k := 2) (q := acc.length) (m := 1) (xs := (qr acc)) (news := [.int .i32 0, .bool true, .int .i64 (((i : Nat) : Int))]) (L' := fun v93 => (.row 80 3 (.slice (some ⟨g91, 0, none⟩) 1 1) 1 ([.int .i32 0, .bool true, .int .i64 (((i : Nat) : Int))]) :: .row 21 1 (.slice (some ⟨g65, 0, none⟩) 5 5) 5 ([.int .i32 0, .int .i32 0, .int .i32 128, .int .i32 2048, .int .i32 65536]) :: .row 80 3 (v93) (acc.length + 1) ((qr acc) ++ [.int .i32 0, .bool true, .int .i64 (((i : Nat) : Int))]) :: [])) A rfl rfl rfl (zv (z := .agg #[.int .i32 0, .bool false, .int .i64 0]) (sz := 3) (by_ := 16) Tryz.underlying77 (by kernel_rfl) rfl rfl rfl M 2 rfl rfl 0 rfl rfl rfl rfl (by omega)) (fun _ => rfl) ?_
        intro v93 w94 M a A
        refine sda A λa A↦?_
        refine qa (hK90 _ _ (wrl (sdm A λa A↦?_)))
        refine sdo (v := .int .i64 (((i + 1 : Nat) : Int))) A (qb rfl rfl (ar_add ((in_i64 (by omega) (by omega)).trans (by omega)))) λa A↦?_
        refine sda A λa A↦?_
        refine qa ?_
        have hd : decodeN (l.length - i) (l.getD i 0).toNat (l.getD (i + 1) 0).toNat (l.getD (i + 2) 0).toNat (l.getD (i + 3) 0).toNat = (65533, 1) := by
         unfold Lib.decodeN
         repeat' split
         all_goals first | rfl | (exfalso; omega) | (refine Prod.ext ?_ rfl; show (_ : Nat) = _; omega)
        have hr9 : uR (65533) 1 = (-1) := by unfold uR; rw [if_pos ⟨rfl, by decide⟩]
        have hs9 := zr (show i < l.length by omega) hd
        rw [hr9] at hs9
        replace M : Mg w w94 [.row 80 3 v93 (acc ++ [((i : Int), (-1))]).length (qr (acc ++ [((i : Int), (-1))]))] := by
         have h9 := M.sub (.cons _ (.cons _ (.cons_cons _ (.refl _))))
         have e9 : qr (acc ++ [((i : Int), (-1))]) = qr acc ++ [.int .i32 0, .bool true, .int .i64 (((i : Nat) : Int))] := by
          unfold qr
          rw [List.flatMap_append, List.flatMap_singleton]
          rw [if_pos rfl]
         rw [e9, List.length_append]
         exact h9
        refine hK8 _ _ _ (by omega) ⟨i + 1, acc ++ [((i : Int), (-1))], v93, rfl, ⟨by rw [← hrun, hs9, List.append_assoc]; rfl, by omega, by rw [List.length_append]; simp only [List.length_cons, List.length_nil]; omega⟩, A.keep _ ⟨rfl, rfl, rfl, rfl, rfl, trivial⟩, M⟩
      ·
       have hb67' := of_decide_eq_false hb67
       refine sdo (v := .bool false) A (qb rfl rfl (fun w => (xi w).trans (by rw [hb67]))) λa A↦?_
       refine sdm A λa A↦?_
       iterate 2 refine qk A rfl rfl rfl λa A↦?_
       refine sdk (v := .bool false) A λa A↦?_
       refine sdm A λa A↦?_
       iterate 3 refine qk A rfl rfl rfl λa A↦?_
       iterate 2 refine vj A rfl rfl rfl λa A↦?_
       refine qk A rfl rfl rfl λa A↦?_
       refine sdk (v := .bool false) A λa A↦?_
       refine sda A λa A↦?_
       refine qa (hK62 _ _ (wsk fun K95 hK95 => wrl (sdm A λa A↦?_)))
       refine qa (hK95 _ _ (wp_cond_false (A.ev rfl) ?_))
       refine wsk fun K96 hK96 => wrl ?_
       iterate 2 refine sdm A λa A↦?_
       refine sdo (v := .agg #[.int .i32 0, .bool true, .int .i64 (((i : Nat) : Int))]) A (zb rfl (fun w => by kernel_rfl)) λa A↦?_
       refine jm (e := 80) (sz := 3) (m := 1) (vs := [.int .i32 0, .bool true, .int .i64 (((i : Nat) : Int))]) A M rfl rfl rfl (qp rfl (by kernel_rfl)) rfl rfl (.inl (by decide)) ?_
       intro g97 w98 M a A
       refine zw (e := 80) (sz := 3) (k := 2) (q := acc.length) (m := 1) (xs := (qr acc)) (news := [.int .i32 0, .bool true, .int .i64 (((i : Nat) : Int))]) (L' := fun v99 => (.row 80 3 (.slice (some ⟨g97, 0, none⟩) 1 1) 1 ([.int .i32 0, .bool true, .int .i64 (((i : Nat) : Int))]) :: .row 21 1 (.slice (some ⟨g65, 0, none⟩) 5 5) 5 ([.int .i32 0, .int .i32 0, .int .i32 128, .int .i32 2048, .int .i32 65536]) :: .row 80 3 (v99) (acc.length + 1) ((qr acc) ++ [.int .i32 0, .bool true, .int .i64 (((i : Nat) : Int))]) :: [])) A rfl rfl rfl (zv (z := .agg #[.int .i32 0, .bool false, .int .i64 0]) (sz := 3) (by_ := 16) Tryz.underlying77 (by kernel_rfl) rfl rfl rfl M 2 rfl rfl 0 rfl rfl rfl rfl (by omega)) (fun _ => rfl) ?_
       intro v99 w100 M a A
       refine sda A λa A↦?_
       refine qa (hK96 _ _ (wrl (sdm A λa A↦?_)))
       refine sdo (v := .int .i64 (((i + 1 : Nat) : Int))) A (qb rfl rfl (ar_add ((in_i64 (by omega) (by omega)).trans (by omega)))) λa A↦?_
       refine sda A λa A↦?_
       refine qa ?_
       have hd : decodeN (l.length - i) (l.getD i 0).toNat (l.getD (i + 1) 0).toNat (l.getD (i + 2) 0).toNat (l.getD (i + 3) 0).toNat = (65533, 1) := by
        unfold Lib.decodeN
        repeat' split
        all_goals first | rfl | (exfalso; omega) | (refine Prod.ext ?_ rfl; show (_ : Nat) = _; omega)
       have hr9 : uR (65533) 1 = (-1) := by unfold uR; rw [if_pos ⟨rfl, by decide⟩]
       have hs9 := zr (show i < l.length by omega) hd
       rw [hr9] at hs9
       replace M : Mg w w100 [.row 80 3 v99 (acc ++ [((i : Int), (-1))]).length (qr (acc ++ [((i : Int), (-1))]))] := by
        have h9 := M.sub (.cons _ (.cons _ (.cons_cons _ (.refl _))))
        have e9 : qr (acc ++ [((i : Int), (-1))]) = qr acc ++ [.int .i32 0, .bool true, .int .i64 (((i : Nat) : Int))] := by
         unfold qr
         rw [List.flatMap_append, List.flatMap_singleton]
         rw [if_pos rfl]
        rw [e9, List.length_append]
        exact h9
       refine hK8 _ _ _ (by omega) ⟨i + 1, acc ++ [((i : Int), (-1))], v99, rfl, ⟨by rw [← hrun, hs9, List.append_assoc]; rfl, by omega, by rw [List.length_append]; simp only [List.length_cons, List.length_nil]; omega⟩, A.keep _ ⟨rfl, rfl, rfl, rfl, rfl, trivial⟩, M⟩
     ·
      have hb58' := ne_of_beq_false hb58
      refine sdo (v := .bool false) A (qb rfl rfl (fun w => (ql w).trans (by rw [hb58]))) λa A↦?_
      refine sda A λa A↦?_
      refine qa (hK57 _ _ (wrl (sdm A λa A↦?_)))
      refine sdo (v := .int .i32 ((((((l.getD i 0).toNat : Nat) : Int)) % 32) * 64)) A (qb rfl rfl (ar_shl (n := 6) rfl rfl (in_i32 (by omega) (by omega)))) λa A↦?_
      refine sdm A λa A↦?_
      refine sdo (v := .int .u8 (((((l.getD (i + 1) 0).toNat : Nat) : Int)) % 64)) A (qb rfl rfl (ar_and (vv 6 63 rfl (by decide) (by omega) (by omega)))) λa A↦?_
      refine sdo (v := .int .i32 (((((l.getD (i + 1) 0).toNat : Nat) : Int)) % 64)) A (zq rfl (ar_conv Tryz.underlying5 Tryz.underlying21 (in_i32 (by omega) (by omega)))) λa A↦?_
      refine sdo (v := .int .i32 ((((((l.getD i 0).toNat : Nat) : Int)) % 32) * 64 + (((((l.getD (i + 1) 0).toNat : Nat) : Int)) % 64))) A (qb rfl rfl (ar_or (kz (by omega) (by omega) (by omega) (by omega)))) λa A↦?_
      refine sda A λa A↦?_
      refine qa (hK55 _ _ (wrl (sdm A λa A↦?_)))
      refine sdo (v := .int .i64 2) A (qb rfl rfl (fun w => by kernel_rfl)) λa A↦?_
      refine sda A λa A↦?_
      refine qa (hK52 _ _ (jf ?_))
      intro K101 hK101
      refine wsk fun K102 hK102 => wsk fun K103 hK103 => wrl ?_
      iterate 2 refine sdm A λa A↦?_
      iterate 3 refine qk A rfl rfl rfl λa A↦?_
      refine sdk (v := .bool false) A λa A↦?_
      refine qa (hK103 _ _ (wp_cond_false (A.ev rfl) ?_))
      refine wp_exit (hK50 _ _ (wsk fun K104 hK104 => wsk fun K105 hK105 => wrl ?_))
      iterate 2 refine sdm A λa A↦?_
      iterate 2 refine qk A rfl rfl rfl λa A↦?_
      refine sdk (v := .bool false) A λa A↦?_
      refine qa (hK105 _ _ (wp_cond_false (A.ev rfl) ?_))
      refine wp_skip (hK104 _ _ (wsk fun K106 hK106 => wrl (sdm A λa A↦?_)))
      refine qa (hK106 _ _ (wp_cond_false (A.ev rfl) ?_))
      refine wsk fun K107 hK107 => wrl ?_
      iterate 2 refine sdm A λa A↦?_
      refine sdo (v := .agg #[.int .i32 0, .bool true, .int .i64 (((i : Nat) : Int))]) A (zb rfl (fun w => by kernel_rfl)) λa A↦?_
      refine jm (e := 80) (sz := 3) (m := 1) (vs := [.int .i32 0, .bool true, .int .i64 (((i : Nat) : Int))]) A M rfl rfl rfl (qp rfl (by kernel_rfl)) rfl rfl (.inl (by decide)) ?_
      intro g108 w109 M a A
      refine zw (e := 80) (sz := 3) (k := 1) (q := acc.length) (m := 1) (xs := (qr acc)) (news := [.int .i32 0, .bool true, .int .i64 (((i : Nat) : Int))]) (L' := fun v110 => (.row 80 3 (.slice (some ⟨g108, 0, none⟩) 1 1) 1 ([.int .i32 0, .bool true, .int .i64 (((i : Nat) : Int))]) :: .row 80 3 (v110) (acc.length + 1) ((qr acc) ++ [.int .i32 0, .bool true, .int .i64 (((i : Nat) : Int))]) :: [])) A rfl rfl rfl (zv (z := .agg #[.int .i32 0, .bool false, .int .i64 0]) (sz := 3) (by_ := 16) Tryz.underlying77 (by kernel_rfl) rfl rfl rfl M 1 rfl rfl 0 rfl rfl rfl rfl (by omega)) (fun _ => rfl) ?_
      intro v110 w111 M a A
      refine sda A λa A↦?_
      refine qa (hK107 _ _ (wrl (sdm A λa A↦?_)))
      refine sdo (v := .int .i64 (((i + 1 : Nat) : Int))) A (qb rfl rfl (ar_add ((in_i64 (by omega) (by omega)).trans (by omega)))) λa A↦?_
      refine sda A λa A↦?_
      refine qa ?_
      have hd : decodeN (l.length - i) (l.getD i 0).toNat (l.getD (i + 1) 0).toNat (l.getD (i + 2) 0).toNat (l.getD (i + 3) 0).toNat = (65533, 1) := by
       unfold Lib.decodeN
       repeat' split
       all_goals first | rfl | (exfalso; omega) | (refine Prod.ext ?_ rfl; show (_ : Nat) = _; omega)
      have hr9 : uR (65533) 1 = (-1) := by unfold uR; rw [if_pos ⟨rfl, by decide⟩]
      have hs9 := zr (show i < l.length by omega) hd
      rw [hr9] at hs9
      replace M : Mg w w111 [.row 80 3 v110 (acc ++ [((i : Int), (-1))]).length (qr (acc ++ [((i : Int), (-1))]))] := by
       have h9 := M.sub (.cons _ (.cons_cons _ (.refl _)))
       have e9 : qr (acc ++ [((i : Int), (-1))]) = qr acc ++ [.int .i32 0, .bool true, .int .i64 (((i : Nat) : Int))] := by
        unfold qr
        rw [List.flatMap_append, List.flatMap_singleton]
        rw [if_pos rfl]
       rw [e9, List.length_append]
       exact h9
      refine hK8 _ _ _ (by omega) ⟨i + 1, acc ++ [((i : Int), (-1))], v110, rfl, ⟨by rw [← hrun, hs9, List.append_assoc]; rfl, by omega, by rw [List.length_append]; simp only [List.length_cons, List.length_nil]; omega⟩, A.keep _ ⟨rfl, rfl, rfl, rfl, rfl, trivial⟩, M⟩
    ·
     have hb49' := of_decide_eq_false hb49
     refine sdo (v := .bool false) A (qb rfl rfl (fun w => (jz w).trans (by rw [hb49]))) λa A↦?_
     refine sdk (v := .bool false) A λa A↦?_
     refine sda A λa A↦?_
     refine qa (hK48 _ _ (wsk fun K112 hK112 => wsk fun K113 hK113 => wrl (sda A λa A↦?_)))
     refine qa (hK113 _ _ (wp_block (wp_loop_rounds 5 ?_)))
     refine jf ?_
     intro K114 hK114
     refine wsk fun K115 hK115 => wsk fun K116 hK116 => wrl ?_
     iterate 2 refine sdm A λa A↦?_
     iterate 3 refine qk A rfl rfl rfl λa A↦?_
     refine sdk (v := .bool false) A λa A↦?_
     refine qa (hK116 _ _ (wp_cond_false (A.ev rfl) ?_))
     refine wp_exit (hK112 _ _ (wsk fun K117 hK117 => wsk fun K118 hK118 => wrl ?_))
     iterate 2 refine sdm A λa A↦?_
     iterate 2 refine qk A rfl rfl rfl λa A↦?_
     refine sdk (v := .bool false) A λa A↦?_
     refine qa (hK118 _ _ (wp_cond_false (A.ev rfl) ?_))
     refine wp_skip (hK117 _ _ (wsk fun K119 hK119 => wrl (sdm A λa A↦?_)))
     refine qa (hK119 _ _ (wp_cond_false (A.ev rfl) ?_))
     refine wsk fun K120 hK120 => wrl ?_
     iterate 2 refine sdm A λa A↦?_
     refine sdo (v := .agg #[.int .i32 0, .bool true, .int .i64 (((i : Nat) : Int))]) A (zb rfl (fun w => by kernel_rfl)) λa A↦?_
     refine jm (e := 80) (sz := 3) (m := 1) (vs := [.int .i32 0, .bool true, .int .i64 (((i : Nat) : Int))]) A M rfl rfl rfl (qp rfl (by kernel_rfl)) rfl rfl (.inl (by decide)) ?_
     intro g121 w122 M a A
     refine zw (e := 80) (sz := 3) (k := 1) (q := acc.length) (m := 1) (xs := (qr acc)) (news := [.int .i32 0, .bool true, .int .i64 (((i : Nat) : Int))]) (L' := fun v123 => (.row 80 3 (.slice (some ⟨g121, 0, none⟩) 1 1) 1 ([.int .i32 0, .bool true, .int .i64 (((i : Nat) : Int))]) :: .row 80 3 (v123) (acc.length + 1) ((qr acc) ++ [.int .i32 0, .bool true, .int .i64 (((i : Nat) : Int))]) :: [])) A rfl rfl rfl (zv (z := .agg #[.int .i32 0, .bool false, .int .i64 0]) (sz := 3) (by_ := 16) Tryz.underlying77 (by kernel_rfl) rfl rfl rfl M 1 rfl rfl 0 rfl rfl rfl rfl (by omega)) (fun _ => rfl) ?_
     intro v123 w124 M a A
     refine sda A λa A↦?_
     refine qa (hK120 _ _ (wrl (sdm A λa A↦?_)))
     refine sdo (v := .int .i64 (((i + 1 : Nat) : Int))) A (qb rfl rfl (ar_add ((in_i64 (by omega) (by omega)).trans (by omega)))) λa A↦?_
     refine sda A λa A↦?_
     refine qa ?_
     have hd : decodeN (l.length - i) (l.getD i 0).toNat (l.getD (i + 1) 0).toNat (l.getD (i + 2) 0).toNat (l.getD (i + 3) 0).toNat = (65533, 1) := by
      unfold Lib.decodeN
      repeat' split
      all_goals first | rfl | (exfalso; omega) | (refine Prod.ext ?_ rfl; show (_ : Nat) = _; omega)
     have hr9 : uR (65533) 1 = (-1) := by unfold uR; rw [if_pos ⟨rfl, by decide⟩]
     have hs9 := zr (show i < l.length by omega) hd
     rw [hr9] at hs9
     replace M : Mg w w124 [.row 80 3 v123 (acc ++ [((i : Int), (-1))]).length (qr (acc ++ [((i : Int), (-1))]))] := by
      have h9 := M.sub (.cons _ (.cons_cons _ (.refl _)))
      have e9 : qr (acc ++ [((i : Int), (-1))]) = qr acc ++ [.int .i32 0, .bool true, .int .i64 (((i : Nat) : Int))] := by
       unfold qr
       rw [List.flatMap_append, List.flatMap_singleton]
       rw [if_pos rfl]
      rw [e9, List.length_append]
      exact h9
     refine hK8 _ _ _ (by omega) ⟨i + 1, acc ++ [((i : Int), (-1))], v123, rfl, ⟨by rw [← hrun, hs9, List.append_assoc]; rfl, by omega, by rw [List.length_append]; simp only [List.length_cons, List.length_nil]; omega⟩, A.keep _ ⟨rfl, rfl, rfl, rfl, rfl, trivial⟩, M⟩
   ·
    have hb47' := ne_of_beq_false hb47
    refine sdo (v := .bool false) A (qb rfl rfl (fun w => (ql w).trans (by rw [hb47]))) λa A↦?_
    refine sda A λa A↦?_
    refine qa (hK46 _ _ (wp_cond_false (A.ev rfl) ?_))
    refine wsk fun K125 hK125 => wrl (sdm A λa A↦?_)
    refine sdo (v := .int .u8 (((((l.getD i 0).toNat : Nat) : Int)) / 16)) A (qb rfl rfl (ar_shr (n := 4) rfl rfl rfl)) λa A↦?_
    rcases tf ((((((l.getD i 0).toNat : Nat) : Int)) / 16 == 14)) with hb126 | hb126
    ·
     have hb126' := eq_of_beq hb126
     refine sdo (v := .bool true) A (qb rfl rfl (fun w => (ql w).trans (by rw [hb126]))) λa A↦?_
     refine sda A λa A↦?_
     refine qa (hK125 _ _ (wp_cond_true (A.ev rfl) ?_))
     refine wrl (sdm A λa A↦?_)
     refine sdo (v := .int .u8 (((((l.getD i 0).toNat : Nat) : Int)) % 16)) A (qb rfl rfl (ar_and (vv 4 15 rfl (by decide) (by omega) (by omega)))) λa A↦?_
     refine sdo (v := .int .i32 (((((l.getD i 0).toNat : Nat) : Int)) % 16)) A (zq rfl (ar_conv Tryz.underlying5 Tryz.underlying21 (in_i32 (by omega) (by omega)))) λa A↦?_
     iterate 2 refine sda A λa A↦?_
     refine qa (hK15 _ _ (wsk fun K127 hK127 => wrl (sdm A λa A↦?_)))
     refine sdo (v := .bool true) A (qb rfl rfl (fun w => by kernel_rfl)) λa A↦?_
     iterate 3 refine sdm A λa A↦?_
     refine sdo (v := .int .i64 (((i + 3 : Nat) : Int))) A (qb rfl rfl (ar_add ((in_i64 (by omega) (by omega)).trans (by omega)))) λa A↦?_
     refine sdm A λa A↦?_
     refine sdo A (qt Tryz.underlying27 rfl) λa A↦?_
     rcases tf (decide (((i + 3 : Nat) : Int) ≤ ((l.length : Nat) : Int))) with hb128 | hb128
     ·
      have hb128' := of_decide_eq_true hb128
      refine sdo (v := .bool true) A (qb rfl rfl (fun w => (jz w).trans (by rw [hb128]))) λa A↦?_
      refine sdk (v := .bool true) A λa A↦?_
      refine sda A λa A↦?_
      refine qa (hK127 _ _ (wsk fun K129 hK129 => wsk fun K130 hK130 => wrl (sda A λa A↦?_)))
      refine qa (hK130 _ _ (wp_block (wp_loop_rounds 5 ?_)))
      refine jf ?_
      intro K131 hK131
      refine wsk fun K132 hK132 => wsk fun K133 hK133 => wrl ?_
      iterate 4 refine sdm A λa A↦?_
      refine sdo (v := .bool true) A (qb rfl rfl (fun w => by kernel_rfl)) λa A↦?_
      refine sdk (v := .bool true) A λa A↦?_
      refine qa (hK133 _ _ (wp_cond_true (A.ev rfl) ?_))
      refine wp_skip (hK132 _ _ (wsk fun K134 hK134 => wp_block (wsk fun K135 hK135 => wrl ?_)))
      iterate 3 refine sdm A λa A↦?_
      refine sdo (v := .int .i64 (((i + 1 : Nat) : Int))) A (qb rfl rfl (ar_add ((in_i64 (by omega) (by omega)).trans (by omega)))) λa A↦?_
      refine sdo (v := .pointer (some ⟨bx, ox + (i + 1), none⟩)) A (zt Tryz.underlying27 (by kernel_rfl) rfl rfl rfl hx1 (show i + 1 < l.length by omega)) λa A↦?_
      refine sdo (v := .int .u8 ((((l.getD (i + 1) 0).toNat : Nat) : Int))) A (ve M hx2 (hx3 (i + 1) (by omega)) TrU_is1_5 rfl) λa A↦?_
      have hu1 := (l.getD (i + 1) 0).toNat_lt
      refine sda A λa A↦?_
      refine qa (hK135 _ _ (wsk fun K136 hK136 => wrl (sdm A λa A↦?_)))
      refine sdo (v := .int .u8 (((((l.getD (i + 1) 0).toNat : Nat) : Int)) / 64)) A (qb rfl rfl (ar_shr (n := 6) rfl rfl rfl)) λa A↦?_
      rcases tf ((((((l.getD (i + 1) 0).toNat : Nat) : Int)) / 64 == 2)) with hb137 | hb137
      ·
       have hb137' := eq_of_beq hb137
       refine sdo (v := .bool true) A (qb rfl rfl (fun w => (ql w).trans (by rw [hb137]))) λa A↦?_
       refine sda A λa A↦?_
       refine qa (hK136 _ _ (wrl (sdm A λa A↦?_)))
       refine sdo (v := .int .i32 ((((((l.getD i 0).toNat : Nat) : Int)) % 16) * 64)) A (qb rfl rfl (ar_shl (n := 6) rfl rfl (in_i32 (by omega) (by omega)))) λa A↦?_
       refine sdm A λa A↦?_
       refine sdo (v := .int .u8 (((((l.getD (i + 1) 0).toNat : Nat) : Int)) % 64)) A (qb rfl rfl (ar_and (vv 6 63 rfl (by decide) (by omega) (by omega)))) λa A↦?_
       refine sdo (v := .int .i32 (((((l.getD (i + 1) 0).toNat : Nat) : Int)) % 64)) A (zq rfl (ar_conv Tryz.underlying5 Tryz.underlying21 (in_i32 (by omega) (by omega)))) λa A↦?_
       refine sdo (v := .int .i32 ((((((l.getD i 0).toNat : Nat) : Int)) % 16) * 64 + (((((l.getD (i + 1) 0).toNat : Nat) : Int)) % 64))) A (qb rfl rfl (ar_or (kz (by omega) (by omega) (by omega) (by omega)))) λa A↦?_
       refine sda A λa A↦?_
       refine qa (hK134 _ _ (wrl (sdm A λa A↦?_)))
       refine sdo (v := .int .i64 2) A (qb rfl rfl (fun w => by kernel_rfl)) λa A↦?_
       refine sda A λa A↦?_
       refine qa (hK131 _ _ (jf ?_))
       intro K138 hK138
       refine wsk fun K139 hK139 => wsk fun K140 hK140 => wrl ?_
       iterate 4 refine sdm A λa A↦?_
       refine sdo (v := .bool true) A (qb rfl rfl (fun w => by kernel_rfl)) λa A↦?_
       refine sdk (v := .bool true) A λa A↦?_
       refine qa (hK140 _ _ (wp_cond_true (A.ev rfl) ?_))
       refine wp_skip (hK139 _ _ (wsk fun K141 hK141 => wp_block (wsk fun K142 hK142 => wrl ?_)))
       iterate 3 refine sdm A λa A↦?_
       refine sdo (v := .int .i64 (((i + 2 : Nat) : Int))) A (qb rfl rfl (ar_add ((in_i64 (by omega) (by omega)).trans (by omega)))) λa A↦?_
       refine sdo (v := .pointer (some ⟨bx, ox + (i + 2), none⟩)) A (zt Tryz.underlying27 (by kernel_rfl) rfl rfl rfl hx1 (show i + 2 < l.length by omega)) λa A↦?_
       refine sdo (v := .int .u8 ((((l.getD (i + 2) 0).toNat : Nat) : Int))) A (ve M hx2 (hx3 (i + 2) (by omega)) TrU_is1_5 rfl) λa A↦?_
       have hu2 := (l.getD (i + 2) 0).toNat_lt
       refine sda A λa A↦?_
       refine qa (hK142 _ _ (wsk fun K143 hK143 => wrl (sdm A λa A↦?_)))
       refine sdo (v := .int .u8 (((((l.getD (i + 2) 0).toNat : Nat) : Int)) / 64)) A (qb rfl rfl (ar_shr (n := 6) rfl rfl rfl)) λa A↦?_
       rcases tf ((((((l.getD (i + 2) 0).toNat : Nat) : Int)) / 64 == 2)) with hb144 | hb144
       ·
        have hb144' := eq_of_beq hb144
        refine sdo (v := .bool true) A (qb rfl rfl (fun w => (ql w).trans (by rw [hb144]))) λa A↦?_
        refine sda A λa A↦?_
        refine qa (hK143 _ _ (wrl (sdm A λa A↦?_)))
        refine sdo (v := .int .i32 (((((((l.getD i 0).toNat : Nat) : Int)) % 16) * 64 + (((((l.getD (i + 1) 0).toNat : Nat) : Int)) % 64)) * 64)) A (qb rfl rfl (ar_shl (n := 6) rfl rfl (in_i32 (by omega) (by omega)))) λa A↦?_
        refine sdm A λa A↦?_
        refine sdo (v := .int .u8 (((((l.getD (i + 2) 0).toNat : Nat) : Int)) % 64)) A (qb rfl rfl (ar_and (vv 6 63 rfl (by decide) (by omega) (by omega)))) λa A↦?_
        refine sdo (v := .int .i32 (((((l.getD (i + 2) 0).toNat : Nat) : Int)) % 64)) A (zq rfl (ar_conv Tryz.underlying5 Tryz.underlying21 (in_i32 (by omega) (by omega)))) λa A↦?_
        refine sdo (v := .int .i32 (((((((l.getD i 0).toNat : Nat) : Int)) % 16) * 64 + (((((l.getD (i + 1) 0).toNat : Nat) : Int)) % 64)) * 64 + (((((l.getD (i + 2) 0).toNat : Nat) : Int)) % 64))) A (qb rfl rfl (ar_or (kz (by omega) (by omega) (by omega) (by omega)))) λa A↦?_
        refine sda A λa A↦?_
        refine qa (hK141 _ _ (wrl (sdm A λa A↦?_)))
        refine sdo (v := .int .i64 3) A (qb rfl rfl (fun w => by kernel_rfl)) λa A↦?_
        refine sda A λa A↦?_
        refine qa (hK138 _ _ (jf ?_))
        intro K145 hK145
        refine wsk fun K146 hK146 => wsk fun K147 hK147 => wrl ?_
        iterate 4 refine sdm A λa A↦?_
        refine sdo (v := .bool false) A (qb rfl rfl (fun w => by kernel_rfl)) λa A↦?_
        refine sdk (v := .bool false) A λa A↦?_
        refine qa (hK147 _ _ (wp_cond_false (A.ev rfl) ?_))
        refine wp_exit (hK129 _ _ (wsk fun K148 hK148 => wsk fun K149 hK149 => wrl ?_))
        iterate 3 refine sdm A λa A↦?_
        refine sdo (v := .bool true) A (qb rfl rfl (fun w => by kernel_rfl)) λa A↦?_
        refine sdk (v := .bool true) A λa A↦?_
        refine qa (hK149 _ _ (wp_cond_true (A.ev rfl) ?_))
        refine wsk fun K150 hK150 => wrl (jm (e := 21) (sz := 1) (m := 5) (vs := [.int .i32 0, .int .i32 0, .int .i32 128, .int .i32 2048, .int .i32 65536]) A M rfl rfl rfl (qp rfl (by kernel_rfl)) rfl rfl (.inl (by decide)) ?_)
        intro g151 w152 M a A
        refine sda A λa A↦?_
        refine qa (hK150 _ _ (wrl ?_))
        iterate 3 refine sdm A λa A↦?_
        refine sdo (v := .pointer (some ⟨g151, 3, none⟩)) A (jv rfl rfl (fun w => by kernel_rfl)) λa A↦?_
        refine sdo (v := .int .i32 2048) A (qgi M 0 rfl rfl TrU_is1_21 rfl) λa A↦?_
        rcases tf (decide (2048 ≤ ((((((l.getD i 0).toNat : Nat) : Int)) % 16) * 64 + (((((l.getD (i + 1) 0).toNat : Nat) : Int)) % 64)) * 64 + (((((l.getD (i + 2) 0).toNat : Nat) : Int)) % 64))) with hb153 | hb153
        ·
         have hb153' := of_decide_eq_true hb153
         refine sdo (v := .bool true) A (qb rfl rfl (fun w => (xi w).trans (by rw [hb153]))) λa A↦?_
         iterate 2 refine sdm A λa A↦?_
         rcases tf (decide (((((((l.getD i 0).toNat : Nat) : Int)) % 16) * 64 + (((((l.getD (i + 1) 0).toNat : Nat) : Int)) % 64)) * 64 + (((((l.getD (i + 2) 0).toNat : Nat) : Int)) % 64) ≤ 1114111)) with hb154 | hb154
         ·
          have hb154' := of_decide_eq_true hb154
          refine sdo (v := .bool true) A (qb rfl rfl (fun w => (jz w).trans (by rw [hb154]))) λa A↦?_
          refine sdk (v := .bool true) A λa A↦?_
          iterate 2 refine sdm A λa A↦?_
          rcases tf (decide (((((((l.getD i 0).toNat : Nat) : Int)) % 16) * 64 + (((((l.getD (i + 1) 0).toNat : Nat) : Int)) % 64)) * 64 + (((((l.getD (i + 2) 0).toNat : Nat) : Int)) % 64) < 55296)) with hb155 | hb155
          ·
           have hb155' := of_decide_eq_true hb155
           refine sdo (v := .bool true) A (qb rfl rfl (fun w => (zk w).trans (by rw [hb155]))) λa A↦?_
           refine sdm A λa A↦?_
           iterate 2 refine qk A rfl rfl rfl λa A↦?_
           iterate 2 refine sdk (v := .bool true) A λa A↦?_
           refine sda A λa A↦?_
           refine qa (hK148 _ _ (wsk fun K156 hK156 => wrl (sdm A λa A↦?_)))
           refine qa (hK156 _ _ (wp_cond_true (A.ev rfl) ?_))
           refine wsk fun K157 hK157 => wrl ?_
           iterate 3 refine sdm A λa A↦?_
           refine sdo (v := .agg #[.int .i32 (((((((l.getD i 0).toNat : Nat) : Int)) % 16) * 64 + (((((l.getD (i + 1) 0).toNat : Nat) : Int)) % 64)) * 64 + (((((l.getD (i + 2) 0).toNat : Nat) : Int)) % 64)), .bool false, .int .i64 (((i : Nat) : Int))]) A (zb rfl (fun w => by kernel_rfl)) λa A↦?_
           refine jm (e := 80) (sz := 3) (m := 1) (vs := [.int .i32 (((((((l.getD i 0).toNat : Nat) : Int)) % 16) * 64 + (((((l.getD (i + 1) 0).toNat : Nat) : Int)) % 64)) * 64 + (((((l.getD (i + 2) 0).toNat : Nat) : Int)) % 64)), .bool false, .int .i64 (((i : Nat) : Int))]) A M rfl rfl rfl (qp rfl (by kernel_rfl)) rfl rfl (.inl (by decide)) ?_
           intro g158 w159 M a A
           refine zw (e := 80) (sz := 3) (k := 2) (q := acc.length) (m := 1) (xs := (qr acc)) (news := [.int .i32 (((((((l.getD i 0).toNat : Nat) : Int)) % 16) * 64 + (((((l.getD (i + 1) 0).toNat : Nat) : Int)) % 64)) * 64 + (((((l.getD (i + 2) 0).toNat : Nat) : Int)) % 64)), .bool false, .int .i64 (((i : Nat) : Int))]) (L' := fun v160 => (.row 80 3 (.slice (some ⟨g158, 0, none⟩) 1 1) 1 ([.int .i32 (((((((l.getD i 0).toNat : Nat) : Int)) % 16) * 64 + (((((l.getD (i + 1) 0).toNat : Nat) : Int)) % 64)) * 64 + (((((l.getD (i + 2) 0).toNat : Nat) : Int)) % 64)), .bool false, .int .i64 (((i : Nat) : Int))]) :: .row 21 1 (.slice (some ⟨g151, 0, none⟩) 5 5) 5 ([.int .i32 0, .int .i32 0, .int .i32 128, .int .i32 2048, .int .i32 65536]) :: .row 80 3 (v160) (acc.length + 1) ((qr acc) ++ [.int .i32 (((((((l.getD i 0).toNat : Nat) : Int)) % 16) * 64 + (((((l.getD (i + 1) 0).toNat : Nat) : Int)) % 64)) * 64 + (((((l.getD (i + 2) 0).toNat : Nat) : Int)) % 64)), .bool false, .int .i64 (((i : Nat) : Int))]) :: [])) A rfl rfl rfl (zv (z := .agg #[.int .i32 0, .bool false, .int .i64 0]) (sz := 3) (by_ := 16) Tryz.underlying77 (by kernel_rfl) rfl rfl rfl M 2 rfl rfl 0 rfl rfl rfl rfl (by omega)) (fun _ => rfl) ?_
           intro v160 w161 M a A
           refine sda A λa A↦?_
           refine qa (hK157 _ _ (wrl ?_))
           iterate 2 refine sdm A λa A↦?_
           refine sdo (v := .int .i64 (((i + 3 : Nat) : Int))) A (qb rfl rfl (ar_add ((in_i64 (by omega) (by omega)).trans (by omega)))) λa A↦?_
           refine sda A λa A↦?_
           refine qa ?_
           have hd : decodeN (l.length - i) (l.getD i 0).toNat (l.getD (i + 1) 0).toNat (l.getD (i + 2) 0).toNat (l.getD (i + 3) 0).toNat = ((((((((l.getD i 0).toNat : Nat) : Int)) % 16) * 64 + (((((l.getD (i + 1) 0).toNat : Nat) : Int)) % 64)) * 64 + (((((l.getD (i + 2) 0).toNat : Nat) : Int)) % 64)).toNat, 3) := by
            unfold Lib.decodeN
            repeat' split
            all_goals first | rfl | (exfalso; omega) | (refine Prod.ext ?_ rfl; show (_ : Nat) = _; omega)
           have hr9 : uR ((((((((l.getD i 0).toNat : Nat) : Int)) % 16) * 64 + (((((l.getD (i + 1) 0).toNat : Nat) : Int)) % 64)) * 64 + (((((l.getD (i + 2) 0).toNat : Nat) : Int)) % 64)).toNat) 3 = (((((((l.getD i 0).toNat : Nat) : Int)) % 16) * 64 + (((((l.getD (i + 1) 0).toNat : Nat) : Int)) % 64)) * 64 + (((((l.getD (i + 2) 0).toNat : Nat) : Int)) % 64)) := by unfold uR; rw [if_neg (by omega)]; omega
           have hs9 := zr (show i < l.length by omega) hd
           rw [hr9] at hs9
           replace M : Mg w w161 [.row 80 3 v160 (acc ++ [((i : Int), (((((((l.getD i 0).toNat : Nat) : Int)) % 16) * 64 + (((((l.getD (i + 1) 0).toNat : Nat) : Int)) % 64)) * 64 + (((((l.getD (i + 2) 0).toNat : Nat) : Int)) % 64)))]).length (qr (acc ++ [((i : Int), (((((((l.getD i 0).toNat : Nat) : Int)) % 16) * 64 + (((((l.getD (i + 1) 0).toNat : Nat) : Int)) % 64)) * 64 + (((((l.getD (i + 2) 0).toNat : Nat) : Int)) % 64)))]))] := by
            have h9 := M.sub (.cons _ (.cons _ (.cons_cons _ (.refl _))))
            have e9 : qr (acc ++ [((i : Int), (((((((l.getD i 0).toNat : Nat) : Int)) % 16) * 64 + (((((l.getD (i + 1) 0).toNat : Nat) : Int)) % 64)) * 64 + (((((l.getD (i + 2) 0).toNat : Nat) : Int)) % 64)))]) = qr acc ++ [.int .i32 (((((((l.getD i 0).toNat : Nat) : Int)) % 16) * 64 + (((((l.getD (i + 1) 0).toNat : Nat) : Int)) % 64)) * 64 + (((((l.getD (i + 2) 0).toNat : Nat) : Int)) % 64)), .bool false, .int .i64 (((i : Nat) : Int))] := by
             unfold qr
             rw [List.flatMap_append, List.flatMap_singleton]
             rw [if_neg (show ¬ _ = (-1 : Int) by simp only; omega)]
            rw [e9, List.length_append]
            exact h9
           refine hK8 _ _ _ (by omega) ⟨i + 3, acc ++ [((i : Int), (((((((l.getD i 0).toNat : Nat) : Int)) % 16) * 64 + (((((l.getD (i + 1) 0).toNat : Nat) : Int)) % 64)) * 64 + (((((l.getD (i + 2) 0).toNat : Nat) : Int)) % 64)))], v160, rfl, ⟨by rw [← hrun, hs9, List.append_assoc]; rfl, by omega, by rw [List.length_append]; simp only [List.length_cons, List.length_nil]; omega⟩, A.keep _ ⟨rfl, rfl, rfl, rfl, rfl, trivial⟩, M⟩
          ·
           have hb155' := of_decide_eq_false hb155
           refine sdo (v := .bool false) A (qb rfl rfl (fun w => (zk w).trans (by rw [hb155]))) λa A↦?_
           iterate 2 refine sdm A λa A↦?_
           rcases tf (decide (57343 < ((((((l.getD i 0).toNat : Nat) : Int)) % 16) * 64 + (((((l.getD (i + 1) 0).toNat : Nat) : Int)) % 64)) * 64 + (((((l.getD (i + 2) 0).toNat : Nat) : Int)) % 64))) with hb162 | hb162
           ·
            have hb162' := of_decide_eq_true hb162
            refine sdo (v := .bool true) A (qb rfl rfl (fun w => (jd w).trans (by rw [hb162]))) λa A↦?_
            iterate 2 refine sdk (v := .bool true) A λa A↦?_
            refine sda A λa A↦?_
            refine qa (hK148 _ _ (wsk fun K163 hK163 => wrl (sdm A λa A↦?_)))
            refine qa (hK163 _ _ (wp_cond_true (A.ev rfl) ?_))
            refine wsk fun K164 hK164 => wrl ?_
            iterate 3 refine sdm A λa A↦?_
            refine sdo (v := .agg #[.int .i32 (((((((l.getD i 0).toNat : Nat) : Int)) % 16) * 64 + (((((l.getD (i + 1) 0).toNat : Nat) : Int)) % 64)) * 64 + (((((l.getD (i + 2) 0).toNat : Nat) : Int)) % 64)), .bool false, .int .i64 (((i : Nat) : Int))]) A (zb rfl (fun w => by kernel_rfl)) λa A↦?_
            refine jm (e := 80) (sz := 3) (m := 1) (vs := [.int .i32 (((((((l.getD i 0).toNat : Nat) : Int)) % 16) * 64 + (((((l.getD (i + 1) 0).toNat : Nat) : Int)) % 64)) * 64 + (((((l.getD (i + 2) 0).toNat : Nat) : Int)) % 64)), .bool false, .int .i64 (((i : Nat) : Int))]) A M rfl rfl rfl (qp rfl (by kernel_rfl)) rfl rfl (.inl (by decide)) ?_
            intro g165 w166 M a A
            refine zw (e := 80) (sz := 3) (k := 2) (q := acc.length) (m := 1) (xs := (qr acc)) (news := [.int .i32 (((((((l.getD i 0).toNat : Nat) : Int)) % 16) * 64 + (((((l.getD (i + 1) 0).toNat : Nat) : Int)) % 64)) * 64 + (((((l.getD (i + 2) 0).toNat : Nat) : Int)) % 64)), .bool false, .int .i64 (((i : Nat) : Int))]) (L' := fun v167 => (.row 80 3 (.slice (some ⟨g165, 0, none⟩) 1 1) 1 ([.int .i32 (((((((l.getD i 0).toNat : Nat) : Int)) % 16) * 64 + (((((l.getD (i + 1) 0).toNat : Nat) : Int)) % 64)) * 64 + (((((l.getD (i + 2) 0).toNat : Nat) : Int)) % 64)), .bool false, .int .i64 (((i : Nat) : Int))]) :: .row 21 1 (.slice (some ⟨g151, 0, none⟩) 5 5) 5 ([.int .i32 0, .int .i32 0, .int .i32 128, .int .i32 2048, .int .i32 65536]) :: .row 80 3 (v167) (acc.length + 1) ((qr acc) ++ [.int .i32 (((((((l.getD i 0).toNat : Nat) : Int)) % 16) * 64 + (((((l.getD (i + 1) 0).toNat : Nat) : Int)) % 64)) * 64 + (((((l.getD (i + 2) 0).toNat : Nat) : Int)) % 64)), .bool false, .int .i64 (((i : Nat) : Int))]) :: [])) A rfl rfl rfl (zv (z := .agg #[.int .i32 0, .bool false, .int .i64 0]) (sz := 3) (by_ := 16) Tryz.underlying77 (by kernel_rfl) rfl rfl rfl M 2 rfl rfl 0 rfl rfl rfl rfl (by omega)) (fun _ => rfl) ?_
            intro v167 w168 M a A
            refine sda A λa A↦?_
            refine qa (hK164 _ _ (wrl ?_))
            iterate 2 refine sdm A λa A↦?_
            refine sdo (v := .int .i64 (((i + 3 : Nat) : Int))) A (qb rfl rfl (ar_add ((in_i64 (by omega) (by omega)).trans (by omega)))) λa A↦?_
            refine sda A λa A↦?_
            refine qa ?_
            have hd : decodeN (l.length - i) (l.getD i 0).toNat (l.getD (i + 1) 0).toNat (l.getD (i + 2) 0).toNat (l.getD (i + 3) 0).toNat = ((((((((l.getD i 0).toNat : Nat) : Int)) % 16) * 64 + (((((l.getD (i + 1) 0).toNat : Nat) : Int)) % 64)) * 64 + (((((l.getD (i + 2) 0).toNat : Nat) : Int)) % 64)).toNat, 3) := by
             unfold Lib.decodeN
             repeat' split
             all_goals first | rfl | (exfalso; omega) | (refine Prod.ext ?_ rfl; show (_ : Nat) = _; omega)
            have hr9 : uR ((((((((l.getD i 0).toNat : Nat) : Int)) % 16) * 64 + (((((l.getD (i + 1) 0).toNat : Nat) : Int)) % 64)) * 64 + (((((l.getD (i + 2) 0).toNat : Nat) : Int)) % 64)).toNat) 3 = (((((((l.getD i 0).toNat : Nat) : Int)) % 16) * 64 + (((((l.getD (i + 1) 0).toNat : Nat) : Int)) % 64)) * 64 + (((((l.getD (i + 2) 0).toNat : Nat) : Int)) % 64)) := by unfold uR; rw [if_neg (by omega)]; omega
            have hs9 := zr (show i < l.length by omega) hd
            rw [hr9] at hs9
            replace M : Mg w w168 [.row 80 3 v167 (acc ++ [((i : Int), (((((((l.getD i 0).toNat : Nat) : Int)) % 16) * 64 + (((((l.getD (i + 1) 0).toNat : Nat) : Int)) % 64)) * 64 + (((((l.getD (i + 2) 0).toNat : Nat) : Int)) % 64)))]).length (qr (acc ++ [((i : Int), (((((((l.getD i 0).toNat : Nat) : Int)) % 16) * 64 + (((((l.getD (i + 1) 0).toNat : Nat) : Int)) % 64)) * 64 + (((((l.getD (i + 2) 0).toNat : Nat) : Int)) % 64)))]))] := by
             have h9 := M.sub (.cons _ (.cons _ (.cons_cons _ (.refl _))))
             have e9 : qr (acc ++ [((i : Int), (((((((l.getD i 0).toNat : Nat) : Int)) % 16) * 64 + (((((l.getD (i + 1) 0).toNat : Nat) : Int)) % 64)) * 64 + (((((l.getD (i + 2) 0).toNat : Nat) : Int)) % 64)))]) = qr acc ++ [.int .i32 (((((((l.getD i 0).toNat : Nat) : Int)) % 16) * 64 + (((((l.getD (i + 1) 0).toNat : Nat) : Int)) % 64)) * 64 + (((((l.getD (i + 2) 0).toNat : Nat) : Int)) % 64)), .bool false, .int .i64 (((i : Nat) : Int))] := by
              unfold qr
              rw [List.flatMap_append, List.flatMap_singleton]
              rw [if_neg (show ¬ _ = (-1 : Int) by simp only; omega)]
             rw [e9, List.length_append]
             exact h9
            refine hK8 _ _ _ (by omega) ⟨i + 3, acc ++ [((i : Int), (((((((l.getD i 0).toNat : Nat) : Int)) % 16) * 64 + (((((l.getD (i + 1) 0).toNat : Nat) : Int)) % 64)) * 64 + (((((l.getD (i + 2) 0).toNat : Nat) : Int)) % 64)))], v167, rfl, ⟨by rw [← hrun, hs9, List.append_assoc]; rfl, by omega, by rw [List.length_append]; simp only [List.length_cons, List.length_nil]; omega⟩, A.keep _ ⟨rfl, rfl, rfl, rfl, rfl, trivial⟩, M⟩
           ·
            have hb162' := of_decide_eq_false hb162
            refine sdo (v := .bool false) A (qb rfl rfl (fun w => (jd w).trans (by rw [hb162]))) λa A↦?_
            iterate 2 refine sdk (v := .bool false) A λa A↦?_
            refine sda A λa A↦?_
            refine qa (hK148 _ _ (wsk fun K169 hK169 => wrl (sdm A λa A↦?_)))
            refine qa (hK169 _ _ (wp_cond_false (A.ev rfl) ?_))
            refine wsk fun K170 hK170 => wrl ?_
            iterate 2 refine sdm A λa A↦?_
            refine sdo (v := .agg #[.int .i32 0, .bool true, .int .i64 (((i : Nat) : Int))]) A (zb rfl (fun w => by kernel_rfl)) λa A↦?_
            refine jm (e := 80) (sz := 3) (m := 1) (vs := [.int .i32 0, .bool true, .int .i64 (((i : Nat) : Int))]) A M rfl rfl rfl (qp rfl (by kernel_rfl)) rfl rfl (.inl (by decide)) ?_
            intro g171 w172 M a A
            refine zw (e := 80) (sz := 3) (k := 2) (q := acc.length) (m := 1) (xs := (qr acc)) (news := [.int .i32 0, .bool true, .int .i64 (((i : Nat) : Int))]) (L' := fun v173 => (.row 80 3 (.slice (some ⟨g171, 0, none⟩) 1 1) 1 ([.int .i32 0, .bool true, .int .i64 (((i : Nat) : Int))]) :: .row 21 1 (.slice (some ⟨g151, 0, none⟩) 5 5) 5 ([.int .i32 0, .int .i32 0, .int .i32 128, .int .i32 2048, .int .i32 65536]) :: .row 80 3 (v173) (acc.length + 1) ((qr acc) ++ [.int .i32 0, .bool true, .int .i64 (((i : Nat) : Int))]) :: [])) A rfl rfl rfl (zv (z := .agg #[.int .i32 0, .bool false, .int .i64 0]) (sz := 3) (by_ := 16) Tryz.underlying77 (by kernel_rfl) rfl rfl rfl M 2 rfl rfl 0 rfl rfl rfl rfl (by omega)) (fun _ => rfl) ?_
            intro v173 w174 M a A
            refine sda A λa A↦?_
            refine qa (hK170 _ _ (wrl (sdm A λa A↦?_)))
            refine sdo (v := .int .i64 (((i + 1 : Nat) : Int))) A (qb rfl rfl (ar_add ((in_i64 (by omega) (by omega)).trans (by omega)))) λa A↦?_
            refine sda A λa A↦?_
            refine qa ?_
            have hd : decodeN (l.length - i) (l.getD i 0).toNat (l.getD (i + 1) 0).toNat (l.getD (i + 2) 0).toNat (l.getD (i + 3) 0).toNat = (65533, 1) := by
             unfold Lib.decodeN
             repeat' split
             all_goals first | rfl | (exfalso; omega) | (refine Prod.ext ?_ rfl; show (_ : Nat) = _; omega)
            have hr9 : uR (65533) 1 = (-1) := by unfold uR; rw [if_pos ⟨rfl, by decide⟩]
            have hs9 := zr (show i < l.length by omega) hd
            rw [hr9] at hs9
            replace M : Mg w w174 [.row 80 3 v173 (acc ++ [((i : Int), (-1))]).length (qr (acc ++ [((i : Int), (-1))]))] := by
             have h9 := M.sub (.cons _ (.cons _ (.cons_cons _ (.refl _))))
             have e9 : qr (acc ++ [((i : Int), (-1))]) = qr acc ++ [.int .i32 0, .bool true, .int .i64 (((i : Nat) : Int))] := by
              unfold qr
              rw [List.flatMap_append, List.flatMap_singleton]
              rw [if_pos rfl]
             rw [e9, List.length_append]
             exact h9
            refine hK8 _ _ _ (by omega) ⟨i + 1, acc ++ [((i : Int), (-1))], v173, rfl, ⟨by rw [← hrun, hs9, List.append_assoc]; rfl, by omega, by rw [List.length_append]; simp only [List.length_cons, List.length_nil]; omega⟩, A.keep _ ⟨rfl, rfl, rfl, rfl, rfl, trivial⟩, M⟩
         ·
          have hb154' := of_decide_eq_false hb154
          refine sdo (v := .bool false) A (qb rfl rfl (fun w => (jz w).trans (by rw [hb154]))) λa A↦?_
          refine sdk (v := .bool false) A λa A↦?_
          refine sdm A λa A↦?_
          iterate 3 refine qk A rfl rfl rfl λa A↦?_
          iterate 2 refine vj A rfl rfl rfl λa A↦?_
          refine qk A rfl rfl rfl λa A↦?_
          refine sdk (v := .bool false) A λa A↦?_
          refine sda A λa A↦?_
          refine qa (hK148 _ _ (wsk fun K175 hK175 => wrl (sdm A λa A↦?_)))
          refine qa (hK175 _ _ (wp_cond_false (A.ev rfl) ?_))
          refine wsk fun K176 hK176 => wrl ?_
          iterate 2 refine sdm A λa A↦?_
          refine sdo (v := .agg #[.int .i32 0, .bool true, .int .i64 (((i : Nat) : Int))]) A (zb rfl (fun w => by kernel_rfl)) λa A↦?_
          refine jm (e := 80) (sz := 3) (m := 1) (vs := [.int .i32 0, .bool true, .int .i64 (((i : Nat) : Int))]) A M rfl rfl rfl (qp rfl (by kernel_rfl)) rfl rfl (.inl (by decide)) ?_
          intro g177 w178 M a A
          refine zw (e := 80) (sz := 3) (k := 2) (q := acc.length) (m := 1) (xs := (qr acc)) (news := [.int .i32 0, .bool true, .int .i64 (((i : Nat) : Int))]) (L' := fun v179 => (.row 80 3 (.slice (some ⟨g177, 0, none⟩) 1 1) 1 ([.int .i32 0, .bool true, .int .i64 (((i : Nat) : Int))]) :: .row 21 1 (.slice (some ⟨g151, 0, none⟩) 5 5) 5 ([.int .i32 0, .int .i32 0, .int .i32 128, .int .i32 2048, .int .i32 65536]) :: .row 80 3 (v179) (acc.length + 1) ((qr acc) ++ [.int .i32 0, .bool true, .int .i64 (((i : Nat) : Int))]) :: [])) A rfl rfl rfl (zv (z := .agg #[.int .i32 0, .bool false, .int .i64 0]) (sz := 3) (by_ := 16) Tryz.underlying77 (by kernel_rfl) rfl rfl rfl M 2 rfl rfl 0 rfl rfl rfl rfl (by omega)) (fun _ => rfl) ?_
          intro v179 w180 M a A
          refine sda A λa A↦?_
          refine qa (hK176 _ _ (wrl (sdm A λa A↦?_)))
          refine sdo (v := .int .i64 (((i + 1 : Nat) : Int))) A (qb rfl rfl (ar_add ((in_i64 (by omega) (by omega)).trans (by omega)))) λa A↦?_
          refine sda A λa A↦?_
          refine qa ?_
          have hd : decodeN (l.length - i) (l.getD i 0).toNat (l.getD (i + 1) 0).toNat (l.getD (i + 2) 0).toNat (l.getD (i + 3) 0).toNat = (65533, 1) := by
           unfold Lib.decodeN
           repeat' split
           all_goals first | rfl | (exfalso; omega) | (refine Prod.ext ?_ rfl; show (_ : Nat) = _; omega)
          have hr9 : uR (65533) 1 = (-1) := by unfold uR; rw [if_pos ⟨rfl, by decide⟩]
          have hs9 := zr (show i < l.length by omega) hd
          rw [hr9] at hs9
          replace M : Mg w w180 [.row 80 3 v179 (acc ++ [((i : Int), (-1))]).length (qr (acc ++ [((i : Int), (-1))]))] := by
           have h9 := M.sub (.cons _ (.cons _ (.cons_cons _ (.refl _))))
           have e9 : qr (acc ++ [((i : Int), (-1))]) = qr acc ++ [.int .i32 0, .bool true, .int .i64 (((i : Nat) : Int))] := by
            unfold qr
            rw [List.flatMap_append, List.flatMap_singleton]
            rw [if_pos rfl]
           rw [e9, List.length_append]
           exact h9
          refine hK8 _ _ _ (by omega) ⟨i + 1, acc ++ [((i : Int), (-1))], v179, rfl, ⟨by rw [← hrun, hs9, List.append_assoc]; rfl, by omega, by rw [List.length_append]; simp only [List.length_cons, List.length_nil]; omega⟩, A.keep _ ⟨rfl, rfl, rfl, rfl, rfl, trivial⟩, M⟩
        ·
         have hb153' := of_decide_eq_false hb153
         refine sdo (v := .bool false) A (qb rfl rfl (fun w => (xi w).trans (by rw [hb153]))) λa A↦?_
         refine sdm A λa A↦?_
         iterate 2 refine qk A rfl rfl rfl λa A↦?_
         refine sdk (v := .bool false) A λa A↦?_
         refine sdm A λa A↦?_
         iterate 3 refine qk A rfl rfl rfl λa A↦?_
         iterate 2 refine vj A rfl rfl rfl λa A↦?_
         refine qk A rfl rfl rfl λa A↦?_
         refine sdk (v := .bool false) A λa A↦?_
         refine sda A λa A↦?_
         refine qa (hK148 _ _ (wsk fun K181 hK181 => wrl (sdm A λa A↦?_)))
         refine qa (hK181 _ _ (wp_cond_false (A.ev rfl) ?_))
         refine wsk fun K182 hK182 => wrl ?_
         iterate 2 refine sdm A λa A↦?_
         refine sdo (v := .agg #[.int .i32 0, .bool true, .int .i64 (((i : Nat) : Int))]) A (zb rfl (fun w => by kernel_rfl)) λa A↦?_
         refine jm (e := 80) (sz := 3) (m := 1) (vs := [.int .i32 0, .bool true, .int .i64 (((i : Nat) : Int))]) A M rfl rfl rfl (qp rfl (by kernel_rfl)) rfl rfl (.inl (by decide)) ?_
         intro g183 w184 M a A
         refine zw (e := 80) (sz := 3) (k := 2) (q := acc.length) (m := 1) (xs := (qr acc)) (news := [.int .i32 0, .bool true, .int .i64 (((i : Nat) : Int))]) (L' := fun v185 => (.row 80 3 (.slice (some ⟨g183, 0, none⟩) 1 1) 1 ([.int .i32 0, .bool true, .int .i64 (((i : Nat) : Int))]) :: .row 21 1 (.slice (some ⟨g151, 0, none⟩) 5 5) 5 ([.int .i32 0, .int .i32 0, .int .i32 128, .int .i32 2048, .int .i32 65536]) :: .row 80 3 (v185) (acc.length + 1) ((qr acc) ++ [.int .i32 0, .bool true, .int .i64 (((i : Nat) : Int))]) :: [])) A rfl rfl rfl (zv (z := .agg #[.int .i32 0, .bool false, .int .i64 0]) (sz := 3) (by_ := 16) Tryz.underlying77 (by kernel_rfl) rfl rfl rfl M 2 rfl rfl 0 rfl rfl rfl rfl (by omega)) (fun _ => rfl) ?_
         intro v185 w186 M a A
         refine sda A λa A↦?_
         refine qa (hK182 _ _ (wrl (sdm A λa A↦?_)))
         refine sdo (v := .int .i64 (((i + 1 : Nat) : Int))) A (qb rfl rfl (ar_add ((in_i64 (by omega) (by omega)).trans (by omega)))) λa A↦?_
         refine sda A λa A↦?_
         refine qa ?_
         have hd : decodeN (l.length - i) (l.getD i 0).toNat (l.getD (i + 1) 0).toNat (l.getD (i + 2) 0).toNat (l.getD (i + 3) 0).toNat = (65533, 1) := by
          unfold Lib.decodeN
          repeat' split
          all_goals first | rfl | (exfalso; omega) | (refine Prod.ext ?_ rfl; show (_ : Nat) = _; omega)
         have hr9 : uR (65533) 1 = (-1) := by unfold uR; rw [if_pos ⟨rfl, by decide⟩]
         have hs9 := zr (show i < l.length by omega) hd
         rw [hr9] at hs9
         replace M : Mg w w186 [.row 80 3 v185 (acc ++ [((i : Int), (-1))]).length (qr (acc ++ [((i : Int), (-1))]))] := by
          have h9 := M.sub (.cons _ (.cons _ (.cons_cons _ (.refl _))))
          have e9 : qr (acc ++ [((i : Int), (-1))]) = qr acc ++ [.int .i32 0, .bool true, .int .i64 (((i : Nat) : Int))] := by
           unfold qr
           rw [List.flatMap_append, List.flatMap_singleton]
           rw [if_pos rfl]
          rw [e9, List.length_append]
          exact h9
         refine hK8 _ _ _ (by omega) ⟨i + 1, acc ++ [((i : Int), (-1))], v185, rfl, ⟨by rw [← hrun, hs9, List.append_assoc]; rfl, by omega, by rw [List.length_append]; simp only [List.length_cons, List.length_nil]; omega⟩, A.keep _ ⟨rfl, rfl, rfl, rfl, rfl, trivial⟩, M⟩
       ·
        have hb144' := ne_of_beq_false hb144
        refine sdo (v := .bool false) A (qb rfl rfl (fun w => (ql w).trans (by rw [hb144]))) λa A↦?_
        refine sda A λa A↦?_
        refine qa (hK143 _ _ (wrl (sdm A λa A↦?_)))
        refine sdo (v := .int .i32 (((((((l.getD i 0).toNat : Nat) : Int)) % 16) * 64 + (((((l.getD (i + 1) 0).toNat : Nat) : Int)) % 64)) * 64)) A (qb rfl rfl (ar_shl (n := 6) rfl rfl (in_i32 (by omega) (by omega)))) λa A↦?_
        refine sdm A λa A↦?_
        refine sdo (v := .int .u8 (((((l.getD (i + 2) 0).toNat : Nat) : Int)) % 64)) A (qb rfl rfl (ar_and (vv 6 63 rfl (by decide) (by omega) (by omega)))) λa A↦?_
        refine sdo (v := .int .i32 (((((l.getD (i + 2) 0).toNat : Nat) : Int)) % 64)) A (zq rfl (ar_conv Tryz.underlying5 Tryz.underlying21 (in_i32 (by omega) (by omega)))) λa A↦?_
        refine sdo (v := .int .i32 (((((((l.getD i 0).toNat : Nat) : Int)) % 16) * 64 + (((((l.getD (i + 1) 0).toNat : Nat) : Int)) % 64)) * 64 + (((((l.getD (i + 2) 0).toNat : Nat) : Int)) % 64))) A (qb rfl rfl (ar_or (kz (by omega) (by omega) (by omega) (by omega)))) λa A↦?_
        refine sda A λa A↦?_
        refine qa (hK141 _ _ (wrl (sdm A λa A↦?_)))
        refine sdo (v := .int .i64 3) A (qb rfl rfl (fun w => by kernel_rfl)) λa A↦?_
        refine sda A λa A↦?_
        refine qa (hK138 _ _ (jf ?_))
        intro K187 hK187
        refine wsk fun K188 hK188 => wsk fun K189 hK189 => wrl ?_
        iterate 2 refine sdm A λa A↦?_
        iterate 3 refine qk A rfl rfl rfl λa A↦?_
        refine sdk (v := .bool false) A λa A↦?_
        refine qa (hK189 _ _ (wp_cond_false (A.ev rfl) ?_))
        refine wp_exit (hK129 _ _ (wsk fun K190 hK190 => wsk fun K191 hK191 => wrl ?_))
        iterate 2 refine sdm A λa A↦?_
        iterate 2 refine qk A rfl rfl rfl λa A↦?_
        refine sdk (v := .bool false) A λa A↦?_
        refine qa (hK191 _ _ (wp_cond_false (A.ev rfl) ?_))
        refine wp_skip (hK190 _ _ (wsk fun K192 hK192 => wrl (sdm A λa A↦?_)))
        refine qa (hK192 _ _ (wp_cond_false (A.ev rfl) ?_))
        refine wsk fun K193 hK193 => wrl ?_
        iterate 2 refine sdm A λa A↦?_
        refine sdo (v := .agg #[.int .i32 0, .bool true, .int .i64 (((i : Nat) : Int))]) A (zb rfl (fun w => by kernel_rfl)) λa A↦?_
        refine jm (e := 80) (sz := 3) (m := 1) (vs := [.int .i32 0, .bool true, .int .i64 (((i : Nat) : Int))]) A M rfl rfl rfl (qp rfl (by kernel_rfl)) rfl rfl (.inl (by decide)) ?_
        intro g194 w195 M a A
        refine zw (e := 80) (sz := 3) (k := 1) (q := acc.length) (m := 1) (xs := (qr acc)) (news := [.int .i32 0, .bool true, .int .i64 (((i : Nat) : Int))]) (L' := fun v196 => (.row 80 3 (.slice (some ⟨g194, 0, none⟩) 1 1) 1 ([.int .i32 0, .bool true, .int .i64 (((i : Nat) : Int))]) :: .row 80 3 (v196) (acc.length + 1) ((qr acc) ++ [.int .i32 0, .bool true, .int .i64 (((i : Nat) : Int))]) :: [])) A rfl rfl rfl (zv (z := .agg #[.int .i32 0, .bool false, .int .i64 0]) (sz := 3) (by_ := 16) Tryz.underlying77 (by kernel_rfl) rfl rfl rfl M 1 rfl rfl 0 rfl rfl rfl rfl (by omega)) (fun _ => rfl) ?_
        intro v196 w197 M a A
        refine sda A λa A↦?_
        refine qa (hK193 _ _ (wrl (sdm A λa A↦?_)))
        refine sdo (v := .int .i64 (((i + 1 : Nat) : Int))) A (qb rfl rfl (ar_add ((in_i64 (by omega) (by omega)).trans (by omega)))) λa A↦?_
        refine sda A λa A↦?_
        refine qa ?_
        have hd : decodeN (l.length - i) (l.getD i 0).toNat (l.getD (i + 1) 0).toNat (l.getD (i + 2) 0).toNat (l.getD (i + 3) 0).toNat = (65533, 1) := by
         unfold Lib.decodeN
         repeat' split
         all_goals first | rfl | (exfalso; omega) | (refine Prod.ext ?_ rfl; show (_ : Nat) = _; omega)
        have hr9 : uR (65533) 1 = (-1) := by unfold uR; rw [if_pos ⟨rfl, by decide⟩]
        have hs9 := zr (show i < l.length by omega) hd
        rw [hr9] at hs9
        replace M : Mg w w197 [.row 80 3 v196 (acc ++ [((i : Int), (-1))]).length (qr (acc ++ [((i : Int), (-1))]))] := by
         have h9 := M.sub (.cons _ (.cons_cons _ (.refl _)))
         have e9 : qr (acc ++ [((i : Int), (-1))]) = qr acc ++ [.int .i32 0, .bool true, .int .i64 (((i : Nat) : Int))] := by
          unfold qr
          rw [List.flatMap_append, List.flatMap_singleton]
          rw [if_pos rfl]
         rw [e9, List.length_append]
         exact h9
        refine hK8 _ _ _ (by omega) ⟨i + 1, acc ++ [((i : Int), (-1))], v196, rfl, ⟨by rw [← hrun, hs9, List.append_assoc]; rfl, by omega, by rw [List.length_append]; simp only [List.length_cons, List.length_nil]; omega⟩, A.keep _ ⟨rfl, rfl, rfl, rfl, rfl, trivial⟩, M⟩
      ·
       have hb137' := ne_of_beq_false hb137
       refine sdo (v := .bool false) A (qb rfl rfl (fun w => (ql w).trans (by rw [hb137]))) λa A↦?_
       refine sda A λa A↦?_
       refine qa (hK136 _ _ (wrl (sdm A λa A↦?_)))
       refine sdo (v := .int .i32 ((((((l.getD i 0).toNat : Nat) : Int)) % 16) * 64)) A (qb rfl rfl (ar_shl (n := 6) rfl rfl (in_i32 (by omega) (by omega)))) λa A↦?_
       refine sdm A λa A↦?_
       refine sdo (v := .int .u8 (((((l.getD (i + 1) 0).toNat : Nat) : Int)) % 64)) A (qb rfl rfl (ar_and (vv 6 63 rfl (by decide) (by omega) (by omega)))) λa A↦?_
       refine sdo (v := .int .i32 (((((l.getD (i + 1) 0).toNat : Nat) : Int)) % 64)) A (zq rfl (ar_conv Tryz.underlying5 Tryz.underlying21 (in_i32 (by omega) (by omega)))) λa A↦?_
       refine sdo (v := .int .i32 ((((((l.getD i 0).toNat : Nat) : Int)) % 16) * 64 + (((((l.getD (i + 1) 0).toNat : Nat) : Int)) % 64))) A (qb rfl rfl (ar_or (kz (by omega) (by omega) (by omega) (by omega)))) λa A↦?_
       refine sda A λa A↦?_
       refine qa (hK134 _ _ (wrl (sdm A λa A↦?_)))
       refine sdo (v := .int .i64 2) A (qb rfl rfl (fun w => by kernel_rfl)) λa A↦?_
       refine sda A λa A↦?_
       refine qa (hK131 _ _ (jf ?_))
       intro K198 hK198
       refine wsk fun K199 hK199 => wsk fun K200 hK200 => wrl ?_
       iterate 2 refine sdm A λa A↦?_
       iterate 3 refine qk A rfl rfl rfl λa A↦?_
       refine sdk (v := .bool false) A λa A↦?_
       refine qa (hK200 _ _ (wp_cond_false (A.ev rfl) ?_))
       refine wp_exit (hK129 _ _ (wsk fun K201 hK201 => wsk fun K202 hK202 => wrl ?_))
       iterate 2 refine sdm A λa A↦?_
       iterate 2 refine qk A rfl rfl rfl λa A↦?_
       refine sdk (v := .bool false) A λa A↦?_
       refine qa (hK202 _ _ (wp_cond_false (A.ev rfl) ?_))
       refine wp_skip (hK201 _ _ (wsk fun K203 hK203 => wrl (sdm A λa A↦?_)))
       refine qa (hK203 _ _ (wp_cond_false (A.ev rfl) ?_))
       refine wsk fun K204 hK204 => wrl ?_
       iterate 2 refine sdm A λa A↦?_
       refine sdo (v := .agg #[.int .i32 0, .bool true, .int .i64 (((i : Nat) : Int))]) A (zb rfl (fun w => by kernel_rfl)) λa A↦?_
       refine jm (e := 80) (sz := 3) (m := 1) (vs := [.int .i32 0, .bool true, .int .i64 (((i : Nat) : Int))]) A M rfl rfl rfl (qp rfl (by kernel_rfl)) rfl rfl (.inl (by decide)) ?_
       intro g205 w206 M a A
       refine zw (e := 80) (sz := 3) (k := 1) (q := acc.length) (m := 1) (xs := (qr acc)) (news := [.int .i32 0, .bool true, .int .i64 (((i : Nat) : Int))]) (L' := fun v207 => (.row 80 3 (.slice (some ⟨g205, 0, none⟩) 1 1) 1 ([.int .i32 0, .bool true, .int .i64 (((i : Nat) : Int))]) :: .row 80 3 (v207) (acc.length + 1) ((qr acc) ++ [.int .i32 0, .bool true, .int .i64 (((i : Nat) : Int))]) :: [])) A rfl rfl rfl (zv (z := .agg #[.int .i32 0, .bool false, .int .i64 0]) (sz := 3) (by_ := 16) Tryz.underlying77 (by kernel_rfl) rfl rfl rfl M 1 rfl rfl 0 rfl rfl rfl rfl (by omega)) (fun _ => rfl) ?_
       intro v207 w208 M a A
       refine sda A λa A↦?_
       refine qa (hK204 _ _ (wrl (sdm A λa A↦?_)))
       refine sdo (v := .int .i64 (((i + 1 : Nat) : Int))) A (qb rfl rfl (ar_add ((in_i64 (by omega) (by omega)).trans (by omega)))) λa A↦?_
       refine sda A λa A↦?_
       refine qa ?_
       have hd : decodeN (l.length - i) (l.getD i 0).toNat (l.getD (i + 1) 0).toNat (l.getD (i + 2) 0).toNat (l.getD (i + 3) 0).toNat = (65533, 1) := by
        unfold Lib.decodeN
        repeat' split
        all_goals first | rfl | (exfalso; omega) | (refine Prod.ext ?_ rfl; show (_ : Nat) = _; omega)
       have hr9 : uR (65533) 1 = (-1) := by unfold uR; rw [if_pos ⟨rfl, by decide⟩]
       have hs9 := zr (show i < l.length by omega) hd
       rw [hr9] at hs9
       replace M : Mg w w208 [.row 80 3 v207 (acc ++ [((i : Int), (-1))]).length (qr (acc ++ [((i : Int), (-1))]))] := by
        have h9 := M.sub (.cons _ (.cons_cons _ (.refl _)))
        have e9 : qr (acc ++ [((i : Int), (-1))]) = qr acc ++ [.int .i32 0, .bool true, .int .i64 (((i : Nat) : Int))] := by
         unfold qr
         rw [List.flatMap_append, List.flatMap_singleton]
         rw [if_pos rfl]
        rw [e9, List.length_append]
        exact h9
       refine hK8 _ _ _ (by omega) ⟨i + 1, acc ++ [((i : Int), (-1))], v207, rfl, ⟨by rw [← hrun, hs9, List.append_assoc]; rfl, by omega, by rw [List.length_append]; simp only [List.length_cons, List.length_nil]; omega⟩, A.keep _ ⟨rfl, rfl, rfl, rfl, rfl, trivial⟩, M⟩
     ·
      have hb128' := of_decide_eq_false hb128
      refine sdo (v := .bool false) A (qb rfl rfl (fun w => (jz w).trans (by rw [hb128]))) λa A↦?_
      refine sdk (v := .bool false) A λa A↦?_
      refine sda A λa A↦?_
      refine qa (hK127 _ _ (wsk fun K209 hK209 => wsk fun K210 hK210 => wrl (sda A λa A↦?_)))
      refine qa (hK210 _ _ (wp_block (wp_loop_rounds 5 ?_)))
      refine jf ?_
      intro K211 hK211
      refine wsk fun K212 hK212 => wsk fun K213 hK213 => wrl ?_
      iterate 2 refine sdm A λa A↦?_
      iterate 3 refine qk A rfl rfl rfl λa A↦?_
      refine sdk (v := .bool false) A λa A↦?_
      refine qa (hK213 _ _ (wp_cond_false (A.ev rfl) ?_))
      refine wp_exit (hK209 _ _ (wsk fun K214 hK214 => wsk fun K215 hK215 => wrl ?_))
      iterate 2 refine sdm A λa A↦?_
      iterate 2 refine qk A rfl rfl rfl λa A↦?_
      refine sdk (v := .bool false) A λa A↦?_
      refine qa (hK215 _ _ (wp_cond_false (A.ev rfl) ?_))
      refine wp_skip (hK214 _ _ (wsk fun K216 hK216 => wrl (sdm A λa A↦?_)))
      refine qa (hK216 _ _ (wp_cond_false (A.ev rfl) ?_))
      refine wsk fun K217 hK217 => wrl ?_
      iterate 2 refine sdm A λa A↦?_
      refine sdo (v := .agg #[.int .i32 0, .bool true, .int .i64 (((i : Nat) : Int))]) A (zb rfl (fun w => by kernel_rfl)) λa A↦?_
      refine jm (e := 80) (sz := 3) (m := 1) (vs := [.int .i32 0, .bool true, .int .i64 (((i : Nat) : Int))]) A M rfl rfl rfl (qp rfl (by kernel_rfl)) rfl rfl (.inl (by decide)) ?_
      intro g218 w219 M a A
      refine zw (e := 80) (sz := 3) (k := 1) (q := acc.length) (m := 1) (xs := (qr acc)) (news := [.int .i32 0, .bool true, .int .i64 (((i : Nat) : Int))]) (L' := fun v220 => (.row 80 3 (.slice (some ⟨g218, 0, none⟩) 1 1) 1 ([.int .i32 0, .bool true, .int .i64 (((i : Nat) : Int))]) :: .row 80 3 (v220) (acc.length + 1) ((qr acc) ++ [.int .i32 0, .bool true, .int .i64 (((i : Nat) : Int))]) :: [])) A rfl rfl rfl (zv (z := .agg #[.int .i32 0, .bool false, .int .i64 0]) (sz := 3) (by_ := 16) Tryz.underlying77 (by kernel_rfl) rfl rfl rfl M 1 rfl rfl 0 rfl rfl rfl rfl (by omega)) (fun _ => rfl) ?_
      intro v220 w221 M a A
      refine sda A λa A↦?_
      refine qa (hK217 _ _ (wrl (sdm A λa A↦?_)))
      refine sdo (v := .int .i64 (((i + 1 : Nat) : Int))) A (qb rfl rfl (ar_add ((in_i64 (by omega) (by omega)).trans (by omega)))) λa A↦?_
      refine sda A λa A↦?_
      refine qa ?_
      have hd : decodeN (l.length - i) (l.getD i 0).toNat (l.getD (i + 1) 0).toNat (l.getD (i + 2) 0).toNat (l.getD (i + 3) 0).toNat = (65533, 1) := by
       unfold Lib.decodeN
       repeat' split
       all_goals first | rfl | (exfalso; omega) | (refine Prod.ext ?_ rfl; show (_ : Nat) = _; omega)
      have hr9 : uR (65533) 1 = (-1) := by unfold uR; rw [if_pos ⟨rfl, by decide⟩]
      have hs9 := zr (show i < l.length by omega) hd
      rw [hr9] at hs9
      replace M : Mg w w221 [.row 80 3 v220 (acc ++ [((i : Int), (-1))]).length (qr (acc ++ [((i : Int), (-1))]))] := by
       have h9 := M.sub (.cons _ (.cons_cons _ (.refl _)))
       have e9 : qr (acc ++ [((i : Int), (-1))]) = qr acc ++ [.int .i32 0, .bool true, .int .i64 (((i : Nat) : Int))] := by
        unfold qr
        rw [List.flatMap_append, List.flatMap_singleton]
        rw [if_pos rfl]
       rw [e9, List.length_append]
       exact h9
      refine hK8 _ _ _ (by omega) ⟨i + 1, acc ++ [((i : Int), (-1))], v220, rfl, ⟨by rw [← hrun, hs9, List.append_assoc]; rfl, by omega, by rw [List.length_append]; simp only [List.length_cons, List.length_nil]; omega⟩, A.keep _ ⟨rfl, rfl, rfl, rfl, rfl, trivial⟩, M⟩
    ·
     have hb126' := ne_of_beq_false hb126
     refine sdo (v := .bool false) A (qb rfl rfl (fun w => (ql w).trans (by rw [hb126]))) λa A↦?_
     refine sda A λa A↦?_
     refine qa (hK125 _ _ (wp_cond_false (A.ev rfl) ?_))
     refine wsk fun K222 hK222 => wrl (sdm A λa A↦?_)
     refine sdo (v := .int .u8 (((((l.getD i 0).toNat : Nat) : Int)) / 8)) A (qb rfl rfl (ar_shr (n := 3) rfl rfl rfl)) λa A↦?_
     rcases tf ((((((l.getD i 0).toNat : Nat) : Int)) / 8 == 30)) with hb223 | hb223
     ·
      have hb223' := eq_of_beq hb223
      refine sdo (v := .bool true) A (qb rfl rfl (fun w => (ql w).trans (by rw [hb223]))) λa A↦?_
      refine sda A λa A↦?_
      refine qa (hK222 _ _ (wp_cond_true (A.ev rfl) ?_))
      refine wrl (sdm A λa A↦?_)
      refine sdo (v := .int .u8 (((((l.getD i 0).toNat : Nat) : Int)) % 8)) A (qb rfl rfl (ar_and (vv 3 7 rfl (by decide) (by omega) (by omega)))) λa A↦?_
      refine sdo (v := .int .i32 (((((l.getD i 0).toNat : Nat) : Int)) % 8)) A (zq rfl (ar_conv Tryz.underlying5 Tryz.underlying21 (in_i32 (by omega) (by omega)))) λa A↦?_
      iterate 2 refine sda A λa A↦?_
      refine qa (hK15 _ _ (wsk fun K224 hK224 => wrl (sdm A λa A↦?_)))
      refine sdo (v := .bool true) A (qb rfl rfl (fun w => by kernel_rfl)) λa A↦?_
      iterate 3 refine sdm A λa A↦?_
      refine sdo (v := .int .i64 (((i + 4 : Nat) : Int))) A (qb rfl rfl (ar_add ((in_i64 (by omega) (by omega)).trans (by omega)))) λa A↦?_
      refine sdm A λa A↦?_
      refine sdo A (qt Tryz.underlying27 rfl) λa A↦?_
      rcases tf (decide (((i + 4 : Nat) : Int) ≤ ((l.length : Nat) : Int))) with hb225 | hb225
      ·
       have hb225' := of_decide_eq_true hb225
       refine sdo (v := .bool true) A (qb rfl rfl (fun w => (jz w).trans (by rw [hb225]))) λa A↦?_
       refine sdk (v := .bool true) A λa A↦?_
       refine sda A λa A↦?_
       refine qa (hK224 _ _ (wsk fun K226 hK226 => wsk fun K227 hK227 => wrl (sda A λa A↦?_)))
       refine qa (hK227 _ _ (wp_block (wp_loop_rounds 5 ?_)))
       refine jf ?_
       intro K228 hK228
       refine wsk fun K229 hK229 => wsk fun K230 hK230 => wrl ?_
       iterate 4 refine sdm A λa A↦?_
       refine sdo (v := .bool true) A (qb rfl rfl (fun w => by kernel_rfl)) λa A↦?_
       refine sdk (v := .bool true) A λa A↦?_
       refine qa (hK230 _ _ (wp_cond_true (A.ev rfl) ?_))
       refine wp_skip (hK229 _ _ (wsk fun K231 hK231 => wp_block (wsk fun K232 hK232 => wrl ?_)))
       iterate 3 refine sdm A λa A↦?_
       refine sdo (v := .int .i64 (((i + 1 : Nat) : Int))) A (qb rfl rfl (ar_add ((in_i64 (by omega) (by omega)).trans (by omega)))) λa A↦?_
       refine sdo (v := .pointer (some ⟨bx, ox + (i + 1), none⟩)) A (zt Tryz.underlying27 (by kernel_rfl) rfl rfl rfl hx1 (show i + 1 < l.length by omega)) λa A↦?_
       refine sdo (v := .int .u8 ((((l.getD (i + 1) 0).toNat : Nat) : Int))) A (ve M hx2 (hx3 (i + 1) (by omega)) TrU_is1_5 rfl) λa A↦?_
       have hu1 := (l.getD (i + 1) 0).toNat_lt
       refine sda A λa A↦?_
       refine qa (hK232 _ _ (wsk fun K233 hK233 => wrl (sdm A λa A↦?_)))
       refine sdo (v := .int .u8 (((((l.getD (i + 1) 0).toNat : Nat) : Int)) / 64)) A (qb rfl rfl (ar_shr (n := 6) rfl rfl rfl)) λa A↦?_
       rcases tf ((((((l.getD (i + 1) 0).toNat : Nat) : Int)) / 64 == 2)) with hb234 | hb234
       ·
        have hb234' := eq_of_beq hb234
        refine sdo (v := .bool true) A (qb rfl rfl (fun w => (ql w).trans (by rw [hb234]))) λa A↦?_
        refine sda A λa A↦?_
        refine qa (hK233 _ _ (wrl (sdm A λa A↦?_)))
        refine sdo (v := .int .i32 ((((((l.getD i 0).toNat : Nat) : Int)) % 8) * 64)) A (qb rfl rfl (ar_shl (n := 6) rfl rfl (in_i32 (by omega) (by omega)))) λa A↦?_
        refine sdm A λa A↦?_
        refine sdo (v := .int .u8 (((((l.getD (i + 1) 0).toNat : Nat) : Int)) % 64)) A (qb rfl rfl (ar_and (vv 6 63 rfl (by decide) (by omega) (by omega)))) λa A↦?_
        refine sdo (v := .int .i32 (((((l.getD (i + 1) 0).toNat : Nat) : Int)) % 64)) A (zq rfl (ar_conv Tryz.underlying5 Tryz.underlying21 (in_i32 (by omega) (by omega)))) λa A↦?_
        refine sdo (v := .int .i32 ((((((l.getD i 0).toNat : Nat) : Int)) % 8) * 64 + (((((l.getD (i + 1) 0).toNat : Nat) : Int)) % 64))) A (qb rfl rfl (ar_or (kz (by omega) (by omega) (by omega) (by omega)))) λa A↦?_
        refine sda A λa A↦?_
        refine qa (hK231 _ _ (wrl (sdm A λa A↦?_)))
        refine sdo (v := .int .i64 2) A (qb rfl rfl (fun w => by kernel_rfl)) λa A↦?_
        refine sda A λa A↦?_
        refine qa (hK228 _ _ (jf ?_))
        intro K235 hK235
        refine wsk fun K236 hK236 => wsk fun K237 hK237 => wrl ?_
        iterate 4 refine sdm A λa A↦?_
        refine sdo (v := .bool true) A (qb rfl rfl (fun w => by kernel_rfl)) λa A↦?_
        refine sdk (v := .bool true) A λa A↦?_
        refine qa (hK237 _ _ (wp_cond_true (A.ev rfl) ?_))
        refine wp_skip (hK236 _ _ (wsk fun K238 hK238 => wp_block (wsk fun K239 hK239 => wrl ?_)))
        iterate 3 refine sdm A λa A↦?_
        refine sdo (v := .int .i64 (((i + 2 : Nat) : Int))) A (qb rfl rfl (ar_add ((in_i64 (by omega) (by omega)).trans (by omega)))) λa A↦?_
        refine sdo (v := .pointer (some ⟨bx, ox + (i + 2), none⟩)) A (zt Tryz.underlying27 (by kernel_rfl) rfl rfl rfl hx1 (show i + 2 < l.length by omega)) λa A↦?_
        refine sdo (v := .int .u8 ((((l.getD (i + 2) 0).toNat : Nat) : Int))) A (ve M hx2 (hx3 (i + 2) (by omega)) TrU_is1_5 rfl) λa A↦?_
        have hu2 := (l.getD (i + 2) 0).toNat_lt
        refine sda A λa A↦?_
        refine qa (hK239 _ _ (wsk fun K240 hK240 => wrl (sdm A λa A↦?_)))
        refine sdo (v := .int .u8 (((((l.getD (i + 2) 0).toNat : Nat) : Int)) / 64)) A (qb rfl rfl (ar_shr (n := 6) rfl rfl rfl)) λa A↦?_
        rcases tf ((((((l.getD (i + 2) 0).toNat : Nat) : Int)) / 64 == 2)) with hb241 | hb241
        ·
         have hb241' := eq_of_beq hb241
         refine sdo (v := .bool true) A (qb rfl rfl (fun w => (ql w).trans (by rw [hb241]))) λa A↦?_
         refine sda A λa A↦?_
         refine qa (hK240 _ _ (wrl (sdm A λa A↦?_)))
         refine sdo (v := .int .i32 (((((((l.getD i 0).toNat : Nat) : Int)) % 8) * 64 + (((((l.getD (i + 1) 0).toNat : Nat) : Int)) % 64)) * 64)) A (qb rfl rfl (ar_shl (n := 6) rfl rfl (in_i32 (by omega) (by omega)))) λa A↦?_
         refine sdm A λa A↦?_
         refine sdo (v := .int .u8 (((((l.getD (i + 2) 0).toNat : Nat) : Int)) % 64)) A (qb rfl rfl (ar_and (vv 6 63 rfl (by decide) (by omega) (by omega)))) λa A↦?_
         refine sdo (v := .int .i32 (((((l.getD (i + 2) 0).toNat : Nat) : Int)) % 64)) A (zq rfl (ar_conv Tryz.underlying5 Tryz.underlying21 (in_i32 (by omega) (by omega)))) λa A↦?_
         refine sdo (v := .int .i32 (((((((l.getD i 0).toNat : Nat) : Int)) % 8) * 64 + (((((l.getD (i + 1) 0).toNat : Nat) : Int)) % 64)) * 64 + (((((l.getD (i + 2) 0).toNat : Nat) : Int)) % 64))) A (qb rfl rfl (ar_or (kz (by omega) (by omega) (by omega) (by omega)))) λa A↦?_
         refine sda A λa A↦?_
         refine qa (hK238 _ _ (wrl (sdm A λa A↦?_)))
         refine sdo (v := .int .i64 3) A (qb rfl rfl (fun w => by kernel_rfl)) λa A↦?_
         refine sda A λa A↦?_
         refine qa (hK235 _ _ (jf ?_))
         intro K242 hK242
         refine wsk fun K243 hK243 => wsk fun K244 hK244 => wrl ?_
         iterate 4 refine sdm A λa A↦?_
         refine sdo (v := .bool true) A (qb rfl rfl (fun w => by kernel_rfl)) λa A↦?_
         refine sdk (v := .bool true) A λa A↦?_
         refine qa (hK244 _ _ (wp_cond_true (A.ev rfl) ?_))
         refine wp_skip (hK243 _ _ (wsk fun K245 hK245 => wp_block (wsk fun K246 hK246 => wrl ?_)))
         iterate 3 refine sdm A λa A↦?_
         refine sdo (v := .int .i64 (((i + 3 : Nat) : Int))) A (qb rfl rfl (ar_add ((in_i64 (by omega) (by omega)).trans (by omega)))) λa A↦?_
         refine sdo (v := .pointer (some ⟨bx, ox + (i + 3), none⟩)) A (zt Tryz.underlying27 (by kernel_rfl) rfl rfl rfl hx1 (show i + 3 < l.length by omega)) λa A↦?_
         refine sdo (v := .int .u8 ((((l.getD (i + 3) 0).toNat : Nat) : Int))) A (ve M hx2 (hx3 (i + 3) (by omega)) TrU_is1_5 rfl) λa A↦?_
         have hu3 := (l.getD (i + 3) 0).toNat_lt
         refine sda A λa A↦?_
         refine qa (hK246 _ _ (wsk fun K247 hK247 => wrl (sdm A λa A↦?_)))
         refine sdo (v := .int .u8 (((((l.getD (i + 3) 0).toNat : Nat) : Int)) / 64)) A (qb rfl rfl (ar_shr (n := 6) rfl rfl rfl)) λa A↦?_
         rcases tf ((((((l.getD (i + 3) 0).toNat : Nat) : Int)) / 64 == 2)) with hb248 | hb248
         ·
          have hb248' := eq_of_beq hb248
          refine sdo (v := .bool true) A (qb rfl rfl (fun w => (ql w).trans (by rw [hb248]))) λa A↦?_
          refine sda A λa A↦?_
          refine qa (hK247 _ _ (wrl (sdm A λa A↦?_)))
          refine sdo (v := .int .i32 ((((((((l.getD i 0).toNat : Nat) : Int)) % 8) * 64 + (((((l.getD (i + 1) 0).toNat : Nat) : Int)) % 64)) * 64 + (((((l.getD (i + 2) 0).toNat : Nat) : Int)) % 64)) * 64)) A (qb rfl rfl (ar_shl (n := 6) rfl rfl (in_i32 (by omega) (by omega)))) λa A↦?_
          refine sdm A λa A↦?_
          refine sdo (v := .int .u8 (((((l.getD (i + 3) 0).toNat : Nat) : Int)) % 64)) A (qb rfl rfl (ar_and (vv 6 63 rfl (by decide) (by omega) (by omega)))) λa A↦?_
          refine sdo (v := .int .i32 (((((l.getD (i + 3) 0).toNat : Nat) : Int)) % 64)) A (zq rfl (ar_conv Tryz.underlying5 Tryz.underlying21 (in_i32 (by omega) (by omega)))) λa A↦?_
          refine sdo (v := .int .i32 ((((((((l.getD i 0).toNat : Nat) : Int)) % 8) * 64 + (((((l.getD (i + 1) 0).toNat : Nat) : Int)) % 64)) * 64 + (((((l.getD (i + 2) 0).toNat : Nat) : Int)) % 64)) * 64 + (((((l.getD (i + 3) 0).toNat : Nat) : Int)) % 64))) A (qb rfl rfl (ar_or (kz (by omega) (by omega) (by omega) (by omega)))) λa A↦?_
          refine sda A λa A↦?_
          refine qa (hK245 _ _ (wrl (sdm A λa A↦?_)))
          refine sdo (v := .int .i64 4) A (qb rfl rfl (fun w => by kernel_rfl)) λa A↦?_
          refine sda A λa A↦?_
          refine qa (hK242 _ _ (jf ?_))
          intro K249 hK249
          refine wsk fun K250 hK250 => wsk fun K251 hK251 => wrl ?_
          iterate 4 refine sdm A λa A↦?_
          refine sdo (v := .bool false) A (qb rfl rfl (fun w => by kernel_rfl)) λa A↦?_
          refine sdk (v := .bool false) A λa A↦?_
          refine qa (hK251 _ _ (wp_cond_false (A.ev rfl) ?_))
          refine wp_exit (hK226 _ _ (wsk fun K252 hK252 => wsk fun K253 hK253 => wrl ?_))
          iterate 3 refine sdm A λa A↦?_
          refine sdo (v := .bool true) A (qb rfl rfl (fun w => by kernel_rfl)) λa A↦?_
          refine sdk (v := .bool true) A λa A↦?_
          refine qa (hK253 _ _ (wp_cond_true (A.ev rfl) ?_))
          refine wsk fun K254 hK254 => wrl (jm (e := 21) (sz := 1) (m := 5) (vs := [.int .i32 0, .int .i32 0, .int .i32 128, .int .i32 2048, .int .i32 65536]) A M rfl rfl rfl (qp rfl (by kernel_rfl)) rfl rfl (.inl (by decide)) ?_)
          intro g255 w256 M a A
          refine sda A λa A↦?_
          refine qa (hK254 _ _ (wrl ?_))
          iterate 3 refine sdm A λa A↦?_
          refine sdo (v := .pointer (some ⟨g255, 4, none⟩)) A (jv rfl rfl (fun w => by kernel_rfl)) λa A↦?_
          refine sdo (v := .int .i32 65536) A (qgi M 0 rfl rfl TrU_is1_21 rfl) λa A↦?_
          rcases tf (decide (65536 ≤ (((((((l.getD i 0).toNat : Nat) : Int)) % 8) * 64 + (((((l.getD (i + 1) 0).toNat : Nat) : Int)) % 64)) * 64 + (((((l.getD (i + 2) 0).toNat : Nat) : Int)) % 64)) * 64 + (((((l.getD (i + 3) 0).toNat : Nat) : Int)) % 64))) with hb257 | hb257
          ·
           have hb257' := of_decide_eq_true hb257
           refine sdo (v := .bool true) A (qb rfl rfl (fun w => (xi w).trans (by rw [hb257]))) λa A↦?_
           iterate 2 refine sdm A λa A↦?_
           rcases tf (decide ((((((((l.getD i 0).toNat : Nat) : Int)) % 8) * 64 + (((((l.getD (i + 1) 0).toNat : Nat) : Int)) % 64)) * 64 + (((((l.getD (i + 2) 0).toNat : Nat) : Int)) % 64)) * 64 + (((((l.getD (i + 3) 0).toNat : Nat) : Int)) % 64) ≤ 1114111)) with hb258 | hb258
           ·
            have hb258' := of_decide_eq_true hb258
            refine sdo (v := .bool true) A (qb rfl rfl (fun w => (jz w).trans (by rw [hb258]))) λa A↦?_
            refine sdk (v := .bool true) A λa A↦?_
            iterate 2 refine sdm A λa A↦?_
            rcases tf (decide ((((((((l.getD i 0).toNat : Nat) : Int)) % 8) * 64 + (((((l.getD (i + 1) 0).toNat : Nat) : Int)) % 64)) * 64 + (((((l.getD (i + 2) 0).toNat : Nat) : Int)) % 64)) * 64 + (((((l.getD (i + 3) 0).toNat : Nat) : Int)) % 64) < 55296)) with hb259 | hb259
            ·
             have hb259' := of_decide_eq_true hb259
             refine sdo (v := .bool true) A (qb rfl rfl (fun w => (zk w).trans (by rw [hb259]))) λa A↦?_
             refine sdm A λa A↦?_
             iterate 2 refine qk A rfl rfl rfl λa A↦?_
             iterate 2 refine sdk (v := .bool true) A λa A↦?_
             refine sda A λa A↦?_
             refine qa (hK252 _ _ (wsk fun K260 hK260 => wrl (sdm A λa A↦?_)))
             refine qa (hK260 _ _ (wp_cond_true (A.ev rfl) ?_))
             refine wsk fun K261 hK261 => wrl ?_
             iterate 3 refine sdm A λa A↦?_
             refine sdo (v := .agg #[.int .i32 ((((((((l.getD i 0).toNat : Nat) : Int)) % 8) * 64 + (((((l.getD (i + 1) 0).toNat : Nat) : Int)) % 64)) * 64 + (((((l.getD (i + 2) 0).toNat : Nat) : Int)) % 64)) * 64 + (((((l.getD (i + 3) 0).toNat : Nat) : Int)) % 64)), .bool false, .int .i64 (((i : Nat) : Int))]) A (zb rfl (fun w => by kernel_rfl)) λa A↦?_
             refine jm (e := 80) (sz := 3) (m := 1) (vs := [.int .i32 ((((((((l.getD i 0).toNat : Nat) : Int)) % 8) * 64 + (((((l.getD (i + 1) 0).toNat : Nat) : Int)) % 64)) * 64 + (((((l.getD (i + 2) 0).toNat : Nat) : Int)) % 64)) * 64 + (((((l.getD (i + 3) 0).toNat : Nat) : Int)) % 64)), .bool false, .int .i64 (((i : Nat) : Int))]) A M rfl rfl rfl (qp rfl (by kernel_rfl)) rfl rfl (.inl (by decide)) ?_
             intro g262 w263 M a A
             refine zw (e := 80) (sz := 3) (k := 2) (q := acc.length) (m := 1) (xs := (qr acc)) (news := [.int .i32 ((((((((l.getD i 0).toNat : Nat) : Int)) % 8) * 64 + (((((l.getD (i + 1) 0).toNat : Nat) : Int)) % 64)) * 64 + (((((l.getD (i + 2) 0).toNat : Nat) : Int)) % 64)) * 64 + (((((l.getD (i + 3) 0).toNat : Nat) : Int)) % 64)), .bool false, .int .i64 (((i : Nat) : Int))]) (L' := fun v264 => (.row 80 3 (.slice (some ⟨g262, 0, none⟩) 1 1) 1 ([.int .i32 ((((((((l.getD i 0).toNat : Nat) : Int)) % 8) * 64 + (((((l.getD (i + 1) 0).toNat : Nat) : Int)) % 64)) * 64 + (((((l.getD (i + 2) 0).toNat : Nat) : Int)) % 64)) * 64 + (((((l.getD (i + 3) 0).toNat : Nat) : Int)) % 64)), .bool false, .int .i64 (((i : Nat) : Int))]) :: .row 21 1 (.slice (some ⟨g255, 0, none⟩) 5 5) 5 ([.int .i32 0, .int .i32 0, .int .i32 128, .int .i32 2048, .int .i32 65536]) :: .row 80 3 (v264) (acc.length + 1) ((qr acc) ++ [.int .i32 ((((((((l.getD i 0).toNat : Nat) : Int)) % 8) * 64 + (((((l.getD (i + 1) 0).toNat : Nat) : Int)) % 64)) * 64 + (((((l.getD (i + 2) 0).toNat : Nat) : Int)) % 64)) * 64 + (((((l.getD (i + 3) 0).toNat : Nat) : Int)) % 64)), .bool false, .int .i64 (((i : Nat) : Int))]) :: [])) A rfl rfl rfl (zv (z := .agg #[.int .i32 0, .bool false, .int .i64 0]) (sz := 3) (by_ := 16) Tryz.underlying77 (by kernel_rfl) rfl rfl rfl M 2 rfl rfl 0 rfl rfl rfl rfl (by omega)) (fun _ => rfl) ?_
             intro v264 w265 M a A
             refine sda A λa A↦?_
             refine qa (hK261 _ _ (wrl ?_))
             iterate 2 refine sdm A λa A↦?_
             refine sdo (v := .int .i64 (((i + 4 : Nat) : Int))) A (qb rfl rfl (ar_add ((in_i64 (by omega) (by omega)).trans (by omega)))) λa A↦?_
             refine sda A λa A↦?_
             refine qa ?_
             have hd : decodeN (l.length - i) (l.getD i 0).toNat (l.getD (i + 1) 0).toNat (l.getD (i + 2) 0).toNat (l.getD (i + 3) 0).toNat = (((((((((l.getD i 0).toNat : Nat) : Int)) % 8) * 64 + (((((l.getD (i + 1) 0).toNat : Nat) : Int)) % 64)) * 64 + (((((l.getD (i + 2) 0).toNat : Nat) : Int)) % 64)) * 64 + (((((l.getD (i + 3) 0).toNat : Nat) : Int)) % 64)).toNat, 4) := by
              unfold Lib.decodeN
              repeat' split
              all_goals first | rfl | (exfalso; omega) | (refine Prod.ext ?_ rfl; show (_ : Nat) = _; omega)
             have hr9 : uR (((((((((l.getD i 0).toNat : Nat) : Int)) % 8) * 64 + (((((l.getD (i + 1) 0).toNat : Nat) : Int)) % 64)) * 64 + (((((l.getD (i + 2) 0).toNat : Nat) : Int)) % 64)) * 64 + (((((l.getD (i + 3) 0).toNat : Nat) : Int)) % 64)).toNat) 4 = ((((((((l.getD i 0).toNat : Nat) : Int)) % 8) * 64 + (((((l.getD (i + 1) 0).toNat : Nat) : Int)) % 64)) * 64 + (((((l.getD (i + 2) 0).toNat : Nat) : Int)) % 64)) * 64 + (((((l.getD (i + 3) 0).toNat : Nat) : Int)) % 64)) := by unfold uR; rw [if_neg (by omega)]; omega
             have hs9 := zr (show i < l.length by omega) hd
             rw [hr9] at hs9
             replace M : Mg w w265 [.row 80 3 v264 (acc ++ [((i : Int), ((((((((l.getD i 0).toNat : Nat) : Int)) % 8) * 64 + (((((l.getD (i + 1) 0).toNat : Nat) : Int)) % 64)) * 64 + (((((l.getD (i + 2) 0).toNat : Nat) : Int)) % 64)) * 64 + (((((l.getD (i + 3) 0).toNat : Nat) : Int)) % 64)))]).length (qr (acc ++ [((i : Int), ((((((((l.getD i 0).toNat : Nat) : Int)) % 8) * 64 + (((((l.getD (i + 1) 0).toNat : Nat) : Int)) % 64)) * 64 + (((((l.getD (i + 2) 0).toNat : Nat) : Int)) % 64)) * 64 + (((((l.getD (i + 3) 0).toNat : Nat) : Int)) % 64)))]))] := by
              have h9 := M.sub (.cons _ (.cons _ (.cons_cons _ (.refl _))))
              have e9 : qr (acc ++ [((i : Int), ((((((((l.getD i 0).toNat : Nat) : Int)) % 8) * 64 + (((((l.getD (i + 1) 0).toNat : Nat) : Int)) % 64)) * 64 + (((((l.getD (i + 2) 0).toNat : Nat) : Int)) % 64)) * 64 + (((((l.getD (i + 3) 0).toNat : Nat) : Int)) % 64)))]) = qr acc ++ [.int .i32 ((((((((l.getD i 0).toNat : Nat) : Int)) % 8) * 64 + (((((l.getD (i + 1) 0).toNat : Nat) : Int)) % 64)) * 64 + (((((l.getD (i + 2) 0).toNat : Nat) : Int)) % 64)) * 64 + (((((l.getD (i + 3) 0).toNat : Nat) : Int)) % 64)), .bool false, .int .i64 (((i : Nat) : Int))] := by
               unfold qr
               rw [List.flatMap_append, List.flatMap_singleton]
               rw [if_neg (show ¬ _ = (-1 : Int) by simp only; omega)]
              rw [e9, List.length_append]
              exact h9
             refine hK8 _ _ _ (by omega) ⟨i + 4, acc ++ [((i : Int), ((((((((l.getD i 0).toNat : Nat) : Int)) % 8) * 64 + (((((l.getD (i + 1) 0).toNat : Nat) : Int)) % 64)) * 64 + (((((l.getD (i + 2) 0).toNat : Nat) : Int)) % 64)) * 64 + (((((l.getD (i + 3) 0).toNat : Nat) : Int)) % 64)))], v264, rfl, ⟨by rw [← hrun, hs9, List.append_assoc]; rfl, by omega, by rw [List.length_append]; simp only [List.length_cons, List.length_nil]; omega⟩, A.keep _ ⟨rfl, rfl, rfl, rfl, rfl, trivial⟩, M⟩
            ·
             have hb259' := of_decide_eq_false hb259
             refine sdo (v := .bool false) A (qb rfl rfl (fun w => (zk w).trans (by rw [hb259]))) λa A↦?_
             iterate 2 refine sdm A λa A↦?_
             rcases tf (decide (57343 < (((((((l.getD i 0).toNat : Nat) : Int)) % 8) * 64 + (((((l.getD (i + 1) 0).toNat : Nat) : Int)) % 64)) * 64 + (((((l.getD (i + 2) 0).toNat : Nat) : Int)) % 64)) * 64 + (((((l.getD (i + 3) 0).toNat : Nat) : Int)) % 64))) with hb266 | hb266
             ·
              have hb266' := of_decide_eq_true hb266
              refine sdo (v := .bool true) A (qb rfl rfl (fun w => (jd w).trans (by rw [hb266]))) λa A↦?_
              iterate 2 refine sdk (v := .bool true) A λa A↦?_
              refine sda A λa A↦?_
              refine qa (hK252 _ _ (wsk fun K267 hK267 => wrl (sdm A λa A↦?_)))
              refine qa (hK267 _ _ (wp_cond_true (A.ev rfl) ?_))
              refine wsk fun K268 hK268 => wrl ?_
              iterate 3 refine sdm A λa A↦?_
              refine sdo (v := .agg #[.int .i32 ((((((((l.getD i 0).toNat : Nat) : Int)) % 8) * 64 + (((((l.getD (i + 1) 0).toNat : Nat) : Int)) % 64)) * 64 + (((((l.getD (i + 2) 0).toNat : Nat) : Int)) % 64)) * 64 + (((((l.getD (i + 3) 0).toNat : Nat) : Int)) % 64)), .bool false, .int .i64 (((i : Nat) : Int))]) A (zb rfl (fun w => by kernel_rfl)) λa A↦?_
              refine jm (e := 80) (sz := 3) (m := 1) (vs := [.int .i32 ((((((((l.getD i 0).toNat : Nat) : Int)) % 8) * 64 + (((((l.getD (i + 1) 0).toNat : Nat) : Int)) % 64)) * 64 + (((((l.getD (i + 2) 0).toNat : Nat) : Int)) % 64)) * 64 + (((((l.getD (i + 3) 0).toNat : Nat) : Int)) % 64)), .bool false, .int .i64 (((i : Nat) : Int))]) A M rfl rfl rfl (qp rfl (by kernel_rfl)) rfl rfl (.inl (by decide)) ?_
              intro g269 w270 M a A
              refine zw (e := 80) (sz := 3) (k := 2) (q := acc.length) (m := 1) (xs := (qr acc)) (news := [.int .i32 ((((((((l.getD i 0).toNat : Nat) : Int)) % 8) * 64 + (((((l.getD (i + 1) 0).toNat : Nat) : Int)) % 64)) * 64 + (((((l.getD (i + 2) 0).toNat : Nat) : Int)) % 64)) * 64 + (((((l.getD (i + 3) 0).toNat : Nat) : Int)) % 64)), .bool false, .int .i64 (((i : Nat) : Int))]) (L' := fun v271 => (.row 80 3 (.slice (some ⟨g269, 0, none⟩) 1 1) 1 ([.int .i32 ((((((((l.getD i 0).toNat : Nat) : Int)) % 8) * 64 + (((((l.getD (i + 1) 0).toNat : Nat) : Int)) % 64)) * 64 + (((((l.getD (i + 2) 0).toNat : Nat) : Int)) % 64)) * 64 + (((((l.getD (i + 3) 0).toNat : Nat) : Int)) % 64)), .bool false, .int .i64 (((i : Nat) : Int))]) :: .row 21 1 (.slice (some ⟨g255, 0, none⟩) 5 5) 5 ([.int .i32 0, .int .i32 0, .int .i32 128, .int .i32 2048, .int .i32 65536]) :: .row 80 3 (v271) (acc.length + 1) ((qr acc) ++ [.int .i32 ((((((((l.getD i 0).toNat : Nat) : Int)) % 8) * 64 + (((((l.getD (i + 1) 0).toNat : Nat) : Int)) % 64)) * 64 + (((((l.getD (i + 2) 0).toNat : Nat) : Int)) % 64)) * 64 + (((((l.getD (i + 3) 0).toNat : Nat) : Int)) % 64)), .bool false, .int .i64 (((i : Nat) : Int))]) :: [])) A rfl rfl rfl (zv (z := .agg #[.int .i32 0, .bool false, .int .i64 0]) (sz := 3) (by_ := 16) Tryz.underlying77 (by kernel_rfl) rfl rfl rfl M 2 rfl rfl 0 rfl rfl rfl rfl (by omega)) (fun _ => rfl) ?_
              intro v271 w272 M a A
              refine sda A λa A↦?_
              refine qa (hK268 _ _ (wrl ?_))
              iterate 2 refine sdm A λa A↦?_
              refine sdo (v := .int .i64 (((i + 4 : Nat) : Int))) A (qb rfl rfl (ar_add ((in_i64 (by omega) (by omega)).trans (by omega)))) λa A↦?_
              refine sda A λa A↦?_
              refine qa ?_
              have hd : decodeN (l.length - i) (l.getD i 0).toNat (l.getD (i + 1) 0).toNat (l.getD (i + 2) 0).toNat (l.getD (i + 3) 0).toNat = (((((((((l.getD i 0).toNat : Nat) : Int)) % 8) * 64 + (((((l.getD (i + 1) 0).toNat : Nat) : Int)) % 64)) * 64 + (((((l.getD (i + 2) 0).toNat : Nat) : Int)) % 64)) * 64 + (((((l.getD (i + 3) 0).toNat : Nat) : Int)) % 64)).toNat, 4) := by
               unfold Lib.decodeN
               repeat' split
               all_goals first | rfl | (exfalso; omega) | (refine Prod.ext ?_ rfl; show (_ : Nat) = _; omega)
              have hr9 : uR (((((((((l.getD i 0).toNat : Nat) : Int)) % 8) * 64 + (((((l.getD (i + 1) 0).toNat : Nat) : Int)) % 64)) * 64 + (((((l.getD (i + 2) 0).toNat : Nat) : Int)) % 64)) * 64 + (((((l.getD (i + 3) 0).toNat : Nat) : Int)) % 64)).toNat) 4 = ((((((((l.getD i 0).toNat : Nat) : Int)) % 8) * 64 + (((((l.getD (i + 1) 0).toNat : Nat) : Int)) % 64)) * 64 + (((((l.getD (i + 2) 0).toNat : Nat) : Int)) % 64)) * 64 + (((((l.getD (i + 3) 0).toNat : Nat) : Int)) % 64)) := by unfold uR; rw [if_neg (by omega)]; omega
              have hs9 := zr (show i < l.length by omega) hd
              rw [hr9] at hs9
              replace M : Mg w w272 [.row 80 3 v271 (acc ++ [((i : Int), ((((((((l.getD i 0).toNat : Nat) : Int)) % 8) * 64 + (((((l.getD (i + 1) 0).toNat : Nat) : Int)) % 64)) * 64 + (((((l.getD (i + 2) 0).toNat : Nat) : Int)) % 64)) * 64 + (((((l.getD (i + 3) 0).toNat : Nat) : Int)) % 64)))]).length (qr (acc ++ [((i : Int), ((((((((l.getD i 0).toNat : Nat) : Int)) % 8) * 64 + (((((l.getD (i + 1) 0).toNat : Nat) : Int)) % 64)) * 64 + (((((l.getD (i + 2) 0).toNat : Nat) : Int)) % 64)) * 64 + (((((l.getD (i + 3) 0).toNat : Nat) : Int)) % 64)))]))] := by
               have h9 := M.sub (.cons _ (.cons _ (.cons_cons _ (.refl _))))
               have e9 : qr (acc ++ [((i : Int), ((((((((l.getD i 0).toNat : Nat) : Int)) % 8) * 64 + (((((l.getD (i + 1) 0).toNat : Nat) : Int)) % 64)) * 64 + (((((l.getD (i + 2) 0).toNat : Nat) : Int)) % 64)) * 64 + (((((l.getD (i + 3) 0).toNat : Nat) : Int)) % 64)))]) = qr acc ++ [.int .i32 ((((((((l.getD i 0).toNat : Nat) : Int)) % 8) * 64 + (((((l.getD (i + 1) 0).toNat : Nat) : Int)) % 64)) * 64 + (((((l.getD (i + 2) 0).toNat : Nat) : Int)) % 64)) * 64 + (((((l.getD (i + 3) 0).toNat : Nat) : Int)) % 64)), .bool false, .int .i64 (((i : Nat) : Int))] := by
                unfold qr
                rw [List.flatMap_append, List.flatMap_singleton]
                rw [if_neg (show ¬ _ = (-1 : Int) by simp only; omega)]
               rw [e9, List.length_append]
               exact h9
              refine hK8 _ _ _ (by omega) ⟨i + 4, acc ++ [((i : Int), ((((((((l.getD i 0).toNat : Nat) : Int)) % 8) * 64 + (((((l.getD (i + 1) 0).toNat : Nat) : Int)) % 64)) * 64 + (((((l.getD (i + 2) 0).toNat : Nat) : Int)) % 64)) * 64 + (((((l.getD (i + 3) 0).toNat : Nat) : Int)) % 64)))], v271, rfl, ⟨by rw [← hrun, hs9, List.append_assoc]; rfl, by omega, by rw [List.length_append]; simp only [List.length_cons, List.length_nil]; omega⟩, A.keep _ ⟨rfl, rfl, rfl, rfl, rfl, trivial⟩, M⟩
             ·
              have hb266' := of_decide_eq_false hb266
              refine sdo (v := .bool false) A (qb rfl rfl (fun w => (jd w).trans (by rw [hb266]))) λa A↦?_
              iterate 2 refine sdk (v := .bool false) A λa A↦?_
              refine sda A λa A↦?_
              refine qa (hK252 _ _ (wsk fun K273 hK273 => wrl (sdm A λa A↦?_)))
              refine qa (hK273 _ _ (wp_cond_false (A.ev rfl) ?_))
              refine wsk fun K274 hK274 => wrl ?_
              iterate 2 refine sdm A λa A↦?_
              refine sdo (v := .agg #[.int .i32 0, .bool true, .int .i64 (((i : Nat) : Int))]) A (zb rfl (fun w => by kernel_rfl)) λa A↦?_
              refine jm (e := 80) (sz := 3) (m := 1) (vs := [.int .i32 0, .bool true, .int .i64 (((i : Nat) : Int))]) A M rfl rfl rfl (qp rfl (by kernel_rfl)) rfl rfl (.inl (by decide)) ?_
              intro g275 w276 M a A
              refine zw (e := 80) (sz := 3) (k := 2) (q := acc.length) (m := 1) (xs := (qr acc)) (news := [.int .i32 0, .bool true, .int .i64 (((i : Nat) : Int))]) (L' := fun v277 => (.row 80 3 (.slice (some ⟨g275, 0, none⟩) 1 1) 1 ([.int .i32 0, .bool true, .int .i64 (((i : Nat) : Int))]) :: .row 21 1 (.slice (some ⟨g255, 0, none⟩) 5 5) 5 ([.int .i32 0, .int .i32 0, .int .i32 128, .int .i32 2048, .int .i32 65536]) :: .row 80 3 (v277) (acc.length + 1) ((qr acc) ++ [.int .i32 0, .bool true, .int .i64 (((i : Nat) : Int))]) :: [])) A rfl rfl rfl (zv (z := .agg #[.int .i32 0, .bool false, .int .i64 0]) (sz := 3) (by_ := 16) Tryz.underlying77 (by kernel_rfl) rfl rfl rfl M 2 rfl rfl 0 rfl rfl rfl rfl (by omega)) (fun _ => rfl) ?_
              intro v277 w278 M a A
              refine sda A λa A↦?_
              refine qa (hK274 _ _ (wrl (sdm A λa A↦?_)))
              refine sdo (v := .int .i64 (((i + 1 : Nat) : Int))) A (qb rfl rfl (ar_add ((in_i64 (by omega) (by omega)).trans (by omega)))) λa A↦?_
              refine sda A λa A↦?_
              refine qa ?_
              have hd : decodeN (l.length - i) (l.getD i 0).toNat (l.getD (i + 1) 0).toNat (l.getD (i + 2) 0).toNat (l.getD (i + 3) 0).toNat = (65533, 1) := by
               unfold Lib.decodeN
               repeat' split
               all_goals first | rfl | (exfalso; omega) | (refine Prod.ext ?_ rfl; show (_ : Nat) = _; omega)
              have hr9 : uR (65533) 1 = (-1) := by unfold uR; rw [if_pos ⟨rfl, by decide⟩]
              have hs9 := zr (show i < l.length by omega) hd
              rw [hr9] at hs9
              replace M : Mg w w278 [.row 80 3 v277 (acc ++ [((i : Int), (-1))]).length (qr (acc ++ [((i : Int), (-1))]))] := by
               have h9 := M.sub (.cons _ (.cons _ (.cons_cons _ (.refl _))))
               have e9 : qr (acc ++ [((i : Int), (-1))]) = qr acc ++ [.int .i32 0, .bool true, .int .i64 (((i : Nat) : Int))] := by
                unfold qr
                rw [List.flatMap_append, List.flatMap_singleton]
                rw [if_pos rfl]
               rw [e9, List.length_append]
               exact h9
              refine hK8 _ _ _ (by omega) ⟨i + 1, acc ++ [((i : Int), (-1))], v277, rfl, ⟨by rw [← hrun, hs9, List.append_assoc]; rfl, by omega, by rw [List.length_append]; simp only [List.length_cons, List.length_nil]; omega⟩, A.keep _ ⟨rfl, rfl, rfl, rfl, rfl, trivial⟩, M⟩
           ·
            have hb258' := of_decide_eq_false hb258
            refine sdo (v := .bool false) A (qb rfl rfl (fun w => (jz w).trans (by rw [hb258]))) λa A↦?_
            refine sdk (v := .bool false) A λa A↦?_
            refine sdm A λa A↦?_
            iterate 3 refine qk A rfl rfl rfl λa A↦?_
            iterate 2 refine vj A rfl rfl rfl λa A↦?_
            refine qk A rfl rfl rfl λa A↦?_
            refine sdk (v := .bool false) A λa A↦?_
            refine sda A λa A↦?_
            refine qa (hK252 _ _ (wsk fun K279 hK279 => wrl (sdm A λa A↦?_)))
            refine qa (hK279 _ _ (wp_cond_false (A.ev rfl) ?_))
            refine wsk fun K280 hK280 => wrl ?_
            iterate 2 refine sdm A λa A↦?_
            refine sdo (v := .agg #[.int .i32 0, .bool true, .int .i64 (((i : Nat) : Int))]) A (zb rfl (fun w => by kernel_rfl)) λa A↦?_
            refine jm (e := 80) (sz := 3) (m := 1) (vs := [.int .i32 0, .bool true, .int .i64 (((i : Nat) : Int))]) A M rfl rfl rfl (qp rfl (by kernel_rfl)) rfl rfl (.inl (by decide)) ?_
            intro g281 w282 M a A
            refine zw (e := 80) (sz := 3) (k := 2) (q := acc.length) (m := 1) (xs := (qr acc)) (news := [.int .i32 0, .bool true, .int .i64 (((i : Nat) : Int))]) (L' := fun v283 => (.row 80 3 (.slice (some ⟨g281, 0, none⟩) 1 1) 1 ([.int .i32 0, .bool true, .int .i64 (((i : Nat) : Int))]) :: .row 21 1 (.slice (some ⟨g255, 0, none⟩) 5 5) 5 ([.int .i32 0, .int .i32 0, .int .i32 128, .int .i32 2048, .int .i32 65536]) :: .row 80 3 (v283) (acc.length + 1) ((qr acc) ++ [.int .i32 0, .bool true, .int .i64 (((i : Nat) : Int))]) :: [])) A rfl rfl rfl (zv (z := .agg #[.int .i32 0, .bool false, .int .i64 0]) (sz := 3) (by_ := 16) Tryz.underlying77 (by kernel_rfl) rfl rfl rfl M 2 rfl rfl 0 rfl rfl rfl rfl (by omega)) (fun _ => rfl) ?_
            intro v283 w284 M a A
            refine sda A λa A↦?_
            refine qa (hK280 _ _ (wrl (sdm A λa A↦?_)))
            refine sdo (v := .int .i64 (((i + 1 : Nat) : Int))) A (qb rfl rfl (ar_add ((in_i64 (by omega) (by omega)).trans (by omega)))) λa A↦?_
            refine sda A λa A↦?_
            refine qa ?_
            have hd : decodeN (l.length - i) (l.getD i 0).toNat (l.getD (i + 1) 0).toNat (l.getD (i + 2) 0).toNat (l.getD (i + 3) 0).toNat = (65533, 1) := by
             unfold Lib.decodeN
             repeat' split
             all_goals first | rfl | (exfalso; omega) | (refine Prod.ext ?_ rfl; show (_ : Nat) = _; omega)
            have hr9 : uR (65533) 1 = (-1) := by unfold uR; rw [if_pos ⟨rfl, by decide⟩]
            have hs9 := zr (show i < l.length by omega) hd
            rw [hr9] at hs9
            replace M : Mg w w284 [.row 80 3 v283 (acc ++ [((i : Int), (-1))]).length (qr (acc ++ [((i : Int), (-1))]))] := by
             have h9 := M.sub (.cons _ (.cons _ (.cons_cons _ (.refl _))))
             have e9 : qr (acc ++ [((i : Int), (-1))]) = qr acc ++ [.int .i32 0, .bool true, .int .i64 (((i : Nat) : Int))] := by
              unfold qr
              rw [List.flatMap_append, List.flatMap_singleton]
              rw [if_pos rfl]
             rw [e9, List.length_append]
             exact h9
            refine hK8 _ _ _ (by omega) ⟨i + 1, acc ++ [((i : Int), (-1))], v283, rfl, ⟨by rw [← hrun, hs9, List.append_assoc]; rfl, by omega, by rw [List.length_append]; simp only [List.length_cons, List.length_nil]; omega⟩, A.keep _ ⟨rfl, rfl, rfl, rfl, rfl, trivial⟩, M⟩
          ·
           have hb257' := of_decide_eq_false hb257
           refine sdo (v := .bool false) A (qb rfl rfl (fun w => (xi w).trans (by rw [hb257]))) λa A↦?_
           refine sdm A λa A↦?_
           iterate 2 refine qk A rfl rfl rfl λa A↦?_
           refine sdk (v := .bool false) A λa A↦?_
           refine sdm A λa A↦?_
           iterate 3 refine qk A rfl rfl rfl λa A↦?_
           iterate 2 refine vj A rfl rfl rfl λa A↦?_
           refine qk A rfl rfl rfl λa A↦?_
           refine sdk (v := .bool false) A λa A↦?_
           refine sda A λa A↦?_
           refine qa (hK252 _ _ (wsk fun K285 hK285 => wrl (sdm A λa A↦?_)))
           refine qa (hK285 _ _ (wp_cond_false (A.ev rfl) ?_))
           refine wsk fun K286 hK286 => wrl ?_
           iterate 2 refine sdm A λa A↦?_
           refine sdo (v := .agg #[.int .i32 0, .bool true, .int .i64 (((i : Nat) : Int))]) A (zb rfl (fun w => by kernel_rfl)) λa A↦?_
           refine jm (e := 80) (sz := 3) (m := 1) (vs := [.int .i32 0, .bool true, .int .i64 (((i : Nat) : Int))]) A M rfl rfl rfl (qp rfl (by kernel_rfl)) rfl rfl (.inl (by decide)) ?_
           intro g287 w288 M a A
           refine zw (e := 80) (sz := 3) (k := 2) (q := acc.length) (m := 1) (xs := (qr acc)) (news := [.int .i32 0, .bool true, .int .i64 (((i : Nat) : Int))]) (L' := fun v289 => (.row 80 3 (.slice (some ⟨g287, 0, none⟩) 1 1) 1 ([.int .i32 0, .bool true, .int .i64 (((i : Nat) : Int))]) :: .row 21 1 (.slice (some ⟨g255, 0, none⟩) 5 5) 5 ([.int .i32 0, .int .i32 0, .int .i32 128, .int .i32 2048, .int .i32 65536]) :: .row 80 3 (v289) (acc.length + 1) ((qr acc) ++ [.int .i32 0, .bool true, .int .i64 (((i : Nat) : Int))]) :: [])) A rfl rfl rfl (zv (z := .agg #[.int .i32 0, .bool false, .int .i64 0]) (sz := 3) (by_ := 16) Tryz.underlying77 (by kernel_rfl) rfl rfl rfl M 2 rfl rfl 0 rfl rfl rfl rfl (by omega)) (fun _ => rfl) ?_
           intro v289 w290 M a A
           refine sda A λa A↦?_
           refine qa (hK286 _ _ (wrl (sdm A λa A↦?_)))
           refine sdo (v := .int .i64 (((i + 1 : Nat) : Int))) A (qb rfl rfl (ar_add ((in_i64 (by omega) (by omega)).trans (by omega)))) λa A↦?_
           refine sda A λa A↦?_
           refine qa ?_
           have hd : decodeN (l.length - i) (l.getD i 0).toNat (l.getD (i + 1) 0).toNat (l.getD (i + 2) 0).toNat (l.getD (i + 3) 0).toNat = (65533, 1) := by
            unfold Lib.decodeN
            repeat' split
            all_goals first | rfl | (exfalso; omega) | (refine Prod.ext ?_ rfl; show (_ : Nat) = _; omega)
           have hr9 : uR (65533) 1 = (-1) := by unfold uR; rw [if_pos ⟨rfl, by decide⟩]
           have hs9 := zr (show i < l.length by omega) hd
           rw [hr9] at hs9
           replace M : Mg w w290 [.row 80 3 v289 (acc ++ [((i : Int), (-1))]).length (qr (acc ++ [((i : Int), (-1))]))] := by
            have h9 := M.sub (.cons _ (.cons _ (.cons_cons _ (.refl _))))
            have e9 : qr (acc ++ [((i : Int), (-1))]) = qr acc ++ [.int .i32 0, .bool true, .int .i64 (((i : Nat) : Int))] := by
             unfold qr
             rw [List.flatMap_append, List.flatMap_singleton]
             rw [if_pos rfl]
            rw [e9, List.length_append]
            exact h9
           refine hK8 _ _ _ (by omega) ⟨i + 1, acc ++ [((i : Int), (-1))], v289, rfl, ⟨by rw [← hrun, hs9, List.append_assoc]; rfl, by omega, by rw [List.length_append]; simp only [List.length_cons, List.length_nil]; omega⟩, A.keep _ ⟨rfl, rfl, rfl, rfl, rfl, trivial⟩, M⟩
         ·
          have hb248' := ne_of_beq_false hb248
          refine sdo (v := .bool false) A (qb rfl rfl (fun w => (ql w).trans (by rw [hb248]))) λa A↦?_
          refine sda A λa A↦?_
          refine qa (hK247 _ _ (wrl (sdm A λa A↦?_)))
          refine sdo (v := .int .i32 ((((((((l.getD i 0).toNat : Nat) : Int)) % 8) * 64 + (((((l.getD (i + 1) 0).toNat : Nat) : Int)) % 64)) * 64 + (((((l.getD (i + 2) 0).toNat : Nat) : Int)) % 64)) * 64)) A (qb rfl rfl (ar_shl (n := 6) rfl rfl (in_i32 (by omega) (by omega)))) λa A↦?_
          refine sdm A λa A↦?_
          refine sdo (v := .int .u8 (((((l.getD (i + 3) 0).toNat : Nat) : Int)) % 64)) A (qb rfl rfl (ar_and (vv 6 63 rfl (by decide) (by omega) (by omega)))) λa A↦?_
          refine sdo (v := .int .i32 (((((l.getD (i + 3) 0).toNat : Nat) : Int)) % 64)) A (zq rfl (ar_conv Tryz.underlying5 Tryz.underlying21 (in_i32 (by omega) (by omega)))) λa A↦?_
          refine sdo (v := .int .i32 ((((((((l.getD i 0).toNat : Nat) : Int)) % 8) * 64 + (((((l.getD (i + 1) 0).toNat : Nat) : Int)) % 64)) * 64 + (((((l.getD (i + 2) 0).toNat : Nat) : Int)) % 64)) * 64 + (((((l.getD (i + 3) 0).toNat : Nat) : Int)) % 64))) A (qb rfl rfl (ar_or (kz (by omega) (by omega) (by omega) (by omega)))) λa A↦?_
          refine sda A λa A↦?_
          refine qa (hK245 _ _ (wrl (sdm A λa A↦?_)))
          refine sdo (v := .int .i64 4) A (qb rfl rfl (fun w => by kernel_rfl)) λa A↦?_
          refine sda A λa A↦?_
          refine qa (hK242 _ _ (jf ?_))
          intro K291 hK291
          refine wsk fun K292 hK292 => wsk fun K293 hK293 => wrl ?_
          iterate 2 refine sdm A λa A↦?_
          iterate 3 refine qk A rfl rfl rfl λa A↦?_
          refine sdk (v := .bool false) A λa A↦?_
          refine qa (hK293 _ _ (wp_cond_false (A.ev rfl) ?_))
          refine wp_exit (hK226 _ _ (wsk fun K294 hK294 => wsk fun K295 hK295 => wrl ?_))
          iterate 2 refine sdm A λa A↦?_
          iterate 2 refine qk A rfl rfl rfl λa A↦?_
          refine sdk (v := .bool false) A λa A↦?_
          refine qa (hK295 _ _ (wp_cond_false (A.ev rfl) ?_))
          refine wp_skip (hK294 _ _ (wsk fun K296 hK296 => wrl (sdm A λa A↦?_)))
          refine qa (hK296 _ _ (wp_cond_false (A.ev rfl) ?_))
          refine wsk fun K297 hK297 => wrl ?_
          iterate 2 refine sdm A λa A↦?_
          refine sdo (v := .agg #[.int .i32 0, .bool true, .int .i64 (((i : Nat) : Int))]) A (zb rfl (fun w => by kernel_rfl)) λa A↦?_
          refine jm (e := 80) (sz := 3) (m := 1) (vs := [.int .i32 0, .bool true, .int .i64 (((i : Nat) : Int))]) A M rfl rfl rfl (qp rfl (by kernel_rfl)) rfl rfl (.inl (by decide)) ?_
          intro g298 w299 M a A
          refine zw (e := 80) (sz := 3) (k := 1) (q := acc.length) (m := 1) (xs := (qr acc)) (news := [.int .i32 0, .bool true, .int .i64 (((i : Nat) : Int))]) (L' := fun v300 => (.row 80 3 (.slice (some ⟨g298, 0, none⟩) 1 1) 1 ([.int .i32 0, .bool true, .int .i64 (((i : Nat) : Int))]) :: .row 80 3 (v300) (acc.length + 1) ((qr acc) ++ [.int .i32 0, .bool true, .int .i64 (((i : Nat) : Int))]) :: [])) A rfl rfl rfl (zv (z := .agg #[.int .i32 0, .bool false, .int .i64 0]) (sz := 3) (by_ := 16) Tryz.underlying77 (by kernel_rfl) rfl rfl rfl M 1 rfl rfl 0 rfl rfl rfl rfl (by omega)) (fun _ => rfl) ?_
          intro v300 w301 M a A
          refine sda A λa A↦?_
          refine qa (hK297 _ _ (wrl (sdm A λa A↦?_)))
          refine sdo (v := .int .i64 (((i + 1 : Nat) : Int))) A (qb rfl rfl (ar_add ((in_i64 (by omega) (by omega)).trans (by omega)))) λa A↦?_
          refine sda A λa A↦?_
          refine qa ?_
          have hd : decodeN (l.length - i) (l.getD i 0).toNat (l.getD (i + 1) 0).toNat (l.getD (i + 2) 0).toNat (l.getD (i + 3) 0).toNat = (65533, 1) := by
           unfold Lib.decodeN
           repeat' split
           all_goals first | rfl | (exfalso; omega) | (refine Prod.ext ?_ rfl; show (_ : Nat) = _; omega)
          have hr9 : uR (65533) 1 = (-1) := by unfold uR; rw [if_pos ⟨rfl, by decide⟩]
          have hs9 := zr (show i < l.length by omega) hd
          rw [hr9] at hs9
          replace M : Mg w w301 [.row 80 3 v300 (acc ++ [((i : Int), (-1))]).length (qr (acc ++ [((i : Int), (-1))]))] := by
           have h9 := M.sub (.cons _ (.cons_cons _ (.refl _)))
           have e9 : qr (acc ++ [((i : Int), (-1))]) = qr acc ++ [.int .i32 0, .bool true, .int .i64 (((i : Nat) : Int))] := by
            unfold qr
            rw [List.flatMap_append, List.flatMap_singleton]
            rw [if_pos rfl]
           rw [e9, List.length_append]
           exact h9
          refine hK8 _ _ _ (by omega) ⟨i + 1, acc ++ [((i : Int), (-1))], v300, rfl, ⟨by rw [← hrun, hs9, List.append_assoc]; rfl, by omega, by rw [List.length_append]; simp only [List.length_cons, List.length_nil]; omega⟩, A.keep _ ⟨rfl, rfl, rfl, rfl, rfl, trivial⟩, M⟩
        ·
         have hb241' := ne_of_beq_false hb241
         refine sdo (v := .bool false) A (qb rfl rfl (fun w => (ql w).trans (by rw [hb241]))) λa A↦?_
         refine sda A λa A↦?_
         refine qa (hK240 _ _ (wrl (sdm A λa A↦?_)))
         refine sdo (v := .int .i32 (((((((l.getD i 0).toNat : Nat) : Int)) % 8) * 64 + (((((l.getD (i + 1) 0).toNat : Nat) : Int)) % 64)) * 64)) A (qb rfl rfl (ar_shl (n := 6) rfl rfl (in_i32 (by omega) (by omega)))) λa A↦?_
         refine sdm A λa A↦?_
         refine sdo (v := .int .u8 (((((l.getD (i + 2) 0).toNat : Nat) : Int)) % 64)) A (qb rfl rfl (ar_and (vv 6 63 rfl (by decide) (by omega) (by omega)))) λa A↦?_
         refine sdo (v := .int .i32 (((((l.getD (i + 2) 0).toNat : Nat) : Int)) % 64)) A (zq rfl (ar_conv Tryz.underlying5 Tryz.underlying21 (in_i32 (by omega) (by omega)))) λa A↦?_
         refine sdo (v := .int .i32 (((((((l.getD i 0).toNat : Nat) : Int)) % 8) * 64 + (((((l.getD (i + 1) 0).toNat : Nat) : Int)) % 64)) * 64 + (((((l.getD (i + 2) 0).toNat : Nat) : Int)) % 64))) A (qb rfl rfl (ar_or (kz (by omega) (by omega) (by omega) (by omega)))) λa A↦?_
         refine sda A λa A↦?_
         refine qa (hK238 _ _ (wrl (sdm A λa A↦?_)))
         refine sdo (v := .int .i64 3) A (qb rfl rfl (fun w => by kernel_rfl)) λa A↦?_
         refine sda A λa A↦?_
         refine qa (hK235 _ _ (jf ?_))
         intro K302 hK302
         refine wsk fun K303 hK303 => wsk fun K304 hK304 => wrl ?_
         iterate 2 refine sdm A λa A↦?_
         iterate 3 refine qk A rfl rfl rfl λa A↦?_
         refine sdk (v := .bool false) A λa A↦?_
         refine qa (hK304 _ _ (wp_cond_false (A.ev rfl) ?_))
         refine wp_exit (hK226 _ _ (wsk fun K305 hK305 => wsk fun K306 hK306 => wrl ?_))
         iterate 2 refine sdm A λa A↦?_
         iterate 2 refine qk A rfl rfl rfl λa A↦?_
         refine sdk (v := .bool false) A λa A↦?_
         refine qa (hK306 _ _ (wp_cond_false (A.ev rfl) ?_))
         refine wp_skip (hK305 _ _ (wsk fun K307 hK307 => wrl (sdm A λa A↦?_)))
         refine qa (hK307 _ _ (wp_cond_false (A.ev rfl) ?_))
         refine wsk fun K308 hK308 => wrl ?_
         iterate 2 refine sdm A λa A↦?_
         refine sdo (v := .agg #[.int .i32 0, .bool true, .int .i64 (((i : Nat) : Int))]) A (zb rfl (fun w => by kernel_rfl)) λa A↦?_
         refine jm (e := 80) (sz := 3) (m := 1) (vs := [.int .i32 0, .bool true, .int .i64 (((i : Nat) : Int))]) A M rfl rfl rfl (qp rfl (by kernel_rfl)) rfl rfl (.inl (by decide)) ?_
         intro g309 w310 M a A
         refine zw (e := 80) (sz := 3) (k := 1) (q := acc.length) (m := 1) (xs := (qr acc)) (news := [.int .i32 0, .bool true, .int .i64 (((i : Nat) : Int))]) (L' := fun v311 => (.row 80 3 (.slice (some ⟨g309, 0, none⟩) 1 1) 1 ([.int .i32 0, .bool true, .int .i64 (((i : Nat) : Int))]) :: .row 80 3 (v311) (acc.length + 1) ((qr acc) ++ [.int .i32 0, .bool true, .int .i64 (((i : Nat) : Int))]) :: [])) A rfl rfl rfl (zv (z := .agg #[.int .i32 0, .bool false, .int .i64 0]) (sz := 3) (by_ := 16) Tryz.underlying77 (by kernel_rfl) rfl rfl rfl M 1 rfl rfl 0 rfl rfl rfl rfl (by omega)) (fun _ => rfl) ?_
         intro v311 w312 M a A
         refine sda A λa A↦?_
         refine qa (hK308 _ _ (wrl (sdm A λa A↦?_)))
         refine sdo (v := .int .i64 (((i + 1 : Nat) : Int))) A (qb rfl rfl (ar_add ((in_i64 (by omega) (by omega)).trans (by omega)))) λa A↦?_
         refine sda A λa A↦?_
         refine qa ?_
         have hd : decodeN (l.length - i) (l.getD i 0).toNat (l.getD (i + 1) 0).toNat (l.getD (i + 2) 0).toNat (l.getD (i + 3) 0).toNat = (65533, 1) := by
          unfold Lib.decodeN
          repeat' split
          all_goals first | rfl | (exfalso; omega) | (refine Prod.ext ?_ rfl; show (_ : Nat) = _; omega)
         have hr9 : uR (65533) 1 = (-1) := by unfold uR; rw [if_pos ⟨rfl, by decide⟩]
         have hs9 := zr (show i < l.length by omega) hd
         rw [hr9] at hs9
         replace M : Mg w w312 [.row 80 3 v311 (acc ++ [((i : Int), (-1))]).length (qr (acc ++ [((i : Int), (-1))]))] := by
          have h9 := M.sub (.cons _ (.cons_cons _ (.refl _)))
          have e9 : qr (acc ++ [((i : Int), (-1))]) = qr acc ++ [.int .i32 0, .bool true, .int .i64 (((i : Nat) : Int))] := by
           unfold qr
           rw [List.flatMap_append, List.flatMap_singleton]
           rw [if_pos rfl]
          rw [e9, List.length_append]
          exact h9
         refine hK8 _ _ _ (by omega) ⟨i + 1, acc ++ [((i : Int), (-1))], v311, rfl, ⟨by rw [← hrun, hs9, List.append_assoc]; rfl, by omega, by rw [List.length_append]; simp only [List.length_cons, List.length_nil]; omega⟩, A.keep _ ⟨rfl, rfl, rfl, rfl, rfl, trivial⟩, M⟩
       ·
        have hb234' := ne_of_beq_false hb234
        refine sdo (v := .bool false) A (qb rfl rfl (fun w => (ql w).trans (by rw [hb234]))) λa A↦?_
        refine sda A λa A↦?_
        refine qa (hK233 _ _ (wrl (sdm A λa A↦?_)))
        refine sdo (v := .int .i32 ((((((l.getD i 0).toNat : Nat) : Int)) % 8) * 64)) A (qb rfl rfl (ar_shl (n := 6) rfl rfl (in_i32 (by omega) (by omega)))) λa A↦?_
        refine sdm A λa A↦?_
        refine sdo (v := .int .u8 (((((l.getD (i + 1) 0).toNat : Nat) : Int)) % 64)) A (qb rfl rfl (ar_and (vv 6 63 rfl (by decide) (by omega) (by omega)))) λa A↦?_
        refine sdo (v := .int .i32 (((((l.getD (i + 1) 0).toNat : Nat) : Int)) % 64)) A (zq rfl (ar_conv Tryz.underlying5 Tryz.underlying21 (in_i32 (by omega) (by omega)))) λa A↦?_
        refine sdo (v := .int .i32 ((((((l.getD i 0).toNat : Nat) : Int)) % 8) * 64 + (((((l.getD (i + 1) 0).toNat : Nat) : Int)) % 64))) A (qb rfl rfl (ar_or (kz (by omega) (by omega) (by omega) (by omega)))) λa A↦?_
        refine sda A λa A↦?_
        refine qa (hK231 _ _ (wrl (sdm A λa A↦?_)))
        refine sdo (v := .int .i64 2) A (qb rfl rfl (fun w => by kernel_rfl)) λa A↦?_
        refine sda A λa A↦?_
        refine qa (hK228 _ _ (jf ?_))
        intro K313 hK313
        refine wsk fun K314 hK314 => wsk fun K315 hK315 => wrl ?_
        iterate 2 refine sdm A λa A↦?_
        iterate 3 refine qk A rfl rfl rfl λa A↦?_
        refine sdk (v := .bool false) A λa A↦?_
        refine qa (hK315 _ _ (wp_cond_false (A.ev rfl) ?_))
        refine wp_exit (hK226 _ _ (wsk fun K316 hK316 => wsk fun K317 hK317 => wrl ?_))
        iterate 2 refine sdm A λa A↦?_
        iterate 2 refine qk A rfl rfl rfl λa A↦?_
        refine sdk (v := .bool false) A λa A↦?_
        refine qa (hK317 _ _ (wp_cond_false (A.ev rfl) ?_))
        refine wp_skip (hK316 _ _ (wsk fun K318 hK318 => wrl (sdm A λa A↦?_)))
        refine qa (hK318 _ _ (wp_cond_false (A.ev rfl) ?_))
        refine wsk fun K319 hK319 => wrl ?_
        iterate 2 refine sdm A λa A↦?_
        refine sdo (v := .agg #[.int .i32 0, .bool true, .int .i64 (((i : Nat) : Int))]) A (zb rfl (fun w => by kernel_rfl)) λa A↦?_
        refine jm (e := 80) (sz := 3) (m := 1) (vs := [.int .i32 0, .bool true, .int .i64 (((i : Nat) : Int))]) A M rfl rfl rfl (qp rfl (by kernel_rfl)) rfl rfl (.inl (by decide)) ?_
        intro g320 w321 M a A
        refine zw (e := 80) (sz := 3) (k := 1) (q := acc.length) (m := 1) (xs := (qr acc)) (news := [.int .i32 0, .bool true, .int .i64 (((i : Nat) : Int))]) (L' := fun v322 => (.row 80 3 (.slice (some ⟨g320, 0, none⟩) 1 1) 1 ([.int .i32 0, .bool true, .int .i64 (((i : Nat) : Int))]) :: .row 80 3 (v322) (acc.length + 1) ((qr acc) ++ [.int .i32 0, .bool true, .int .i64 (((i : Nat) : Int))]) :: [])) A rfl rfl rfl (zv (z := .agg #[.int .i32 0, .bool false, .int .i64 0]) (sz := 3) (by_ := 16) Tryz.underlying77 (by kernel_rfl) rfl rfl rfl M 1 rfl rfl 0 rfl rfl rfl rfl (by omega)) (fun _ => rfl) ?_
        intro v322 w323 M a A
        refine sda A λa A↦?_
        refine qa (hK319 _ _ (wrl (sdm A λa A↦?_)))
        refine sdo (v := .int .i64 (((i + 1 : Nat) : Int))) A (qb rfl rfl (ar_add ((in_i64 (by omega) (by omega)).trans (by omega)))) λa A↦?_
        refine sda A λa A↦?_
        refine qa ?_
        have hd : decodeN (l.length - i) (l.getD i 0).toNat (l.getD (i + 1) 0).toNat (l.getD (i + 2) 0).toNat (l.getD (i + 3) 0).toNat = (65533, 1) := by
         unfold Lib.decodeN
         repeat' split
         all_goals first | rfl | (exfalso; omega) | (refine Prod.ext ?_ rfl; show (_ : Nat) = _; omega)
        have hr9 : uR (65533) 1 = (-1) := by unfold uR; rw [if_pos ⟨rfl, by decide⟩]
        have hs9 := zr (show i < l.length by omega) hd
        rw [hr9] at hs9
        replace M : Mg w w323 [.row 80 3 v322 (acc ++ [((i : Int), (-1))]).length (qr (acc ++ [((i : Int), (-1))]))] := by
         have h9 := M.sub (.cons _ (.cons_cons _ (.refl _)))
         have e9 : qr (acc ++ [((i : Int), (-1))]) = qr acc ++ [.int .i32 0, .bool true, .int .i64 (((i : Nat) : Int))] := by
          unfold qr
          rw [List.flatMap_append, List.flatMap_singleton]
          rw [if_pos rfl]
         rw [e9, List.length_append]
         exact h9
        refine hK8 _ _ _ (by omega) ⟨i + 1, acc ++ [((i : Int), (-1))], v322, rfl, ⟨by rw [← hrun, hs9, List.append_assoc]; rfl, by omega, by rw [List.length_append]; simp only [List.length_cons, List.length_nil]; omega⟩, A.keep _ ⟨rfl, rfl, rfl, rfl, rfl, trivial⟩, M⟩
      ·
       have hb225' := of_decide_eq_false hb225
       refine sdo (v := .bool false) A (qb rfl rfl (fun w => (jz w).trans (by rw [hb225]))) λa A↦?_
       refine sdk (v := .bool false) A λa A↦?_
       refine sda A λa A↦?_
       refine qa (hK224 _ _ (wsk fun K324 hK324 => wsk fun K325 hK325 => wrl (sda A λa A↦?_)))
       refine qa (hK325 _ _ (wp_block (wp_loop_rounds 5 ?_)))
       refine jf ?_
       intro K326 hK326
       refine wsk fun K327 hK327 => wsk fun K328 hK328 => wrl ?_
       iterate 2 refine sdm A λa A↦?_
       iterate 3 refine qk A rfl rfl rfl λa A↦?_
       refine sdk (v := .bool false) A λa A↦?_
       refine qa (hK328 _ _ (wp_cond_false (A.ev rfl) ?_))
       refine wp_exit (hK324 _ _ (wsk fun K329 hK329 => wsk fun K330 hK330 => wrl ?_))
       iterate 2 refine sdm A λa A↦?_
       iterate 2 refine qk A rfl rfl rfl λa A↦?_
       refine sdk (v := .bool false) A λa A↦?_
       refine qa (hK330 _ _ (wp_cond_false (A.ev rfl) ?_))
       refine wp_skip (hK329 _ _ (wsk fun K331 hK331 => wrl (sdm A λa A↦?_)))
       refine qa (hK331 _ _ (wp_cond_false (A.ev rfl) ?_))
       refine wsk fun K332 hK332 => wrl ?_
       iterate 2 refine sdm A λa A↦?_
       refine sdo (v := .agg #[.int .i32 0, .bool true, .int .i64 (((i : Nat) : Int))]) A (zb rfl (fun w => by kernel_rfl)) λa A↦?_
       refine jm (e := 80) (sz := 3) (m := 1) (vs := [.int .i32 0, .bool true, .int .i64 (((i : Nat) : Int))]) A M rfl rfl rfl (qp rfl (by kernel_rfl)) rfl rfl (.inl (by decide)) ?_
       intro g333 w334 M a A
       refine zw (e := 80) (sz := 3) (k := 1) (q := acc.length) (m := 1) (xs := (qr acc)) (news := [.int .i32 0, .bool true, .int .i64 (((i : Nat) : Int))]) (L' := fun v335 => (.row 80 3 (.slice (some ⟨g333, 0, none⟩) 1 1) 1 ([.int .i32 0, .bool true, .int .i64 (((i : Nat) : Int))]) :: .row 80 3 (v335) (acc.length + 1) ((qr acc) ++ [.int .i32 0, .bool true, .int .i64 (((i : Nat) : Int))]) :: [])) A rfl rfl rfl (zv (z := .agg #[.int .i32 0, .bool false, .int .i64 0]) (sz := 3) (by_ := 16) Tryz.underlying77 (by kernel_rfl) rfl rfl rfl M 1 rfl rfl 0 rfl rfl rfl rfl (by omega)) (fun _ => rfl) ?_
       intro v335 w336 M a A
       refine sda A λa A↦?_
       refine qa (hK332 _ _ (wrl (sdm A λa A↦?_)))
       refine sdo (v := .int .i64 (((i + 1 : Nat) : Int))) A (qb rfl rfl (ar_add ((in_i64 (by omega) (by omega)).trans (by omega)))) λa A↦?_
       refine sda A λa A↦?_
       refine qa ?_
       have hd : decodeN (l.length - i) (l.getD i 0).toNat (l.getD (i + 1) 0).toNat (l.getD (i + 2) 0).toNat (l.getD (i + 3) 0).toNat = (65533, 1) := by
        unfold Lib.decodeN
        repeat' split
        all_goals first | rfl | (exfalso; omega) | (refine Prod.ext ?_ rfl; show (_ : Nat) = _; omega)
       have hr9 : uR (65533) 1 = (-1) := by unfold uR; rw [if_pos ⟨rfl, by decide⟩]
       have hs9 := zr (show i < l.length by omega) hd
       rw [hr9] at hs9
       replace M : Mg w w336 [.row 80 3 v335 (acc ++ [((i : Int), (-1))]).length (qr (acc ++ [((i : Int), (-1))]))] := by
        have h9 := M.sub (.cons _ (.cons_cons _ (.refl _)))
        have e9 : qr (acc ++ [((i : Int), (-1))]) = qr acc ++ [.int .i32 0, .bool true, .int .i64 (((i : Nat) : Int))] := by
         unfold qr
         rw [List.flatMap_append, List.flatMap_singleton]
         rw [if_pos rfl]
        rw [e9, List.length_append]
        exact h9
       refine hK8 _ _ _ (by omega) ⟨i + 1, acc ++ [((i : Int), (-1))], v335, rfl, ⟨by rw [← hrun, hs9, List.append_assoc]; rfl, by omega, by rw [List.length_append]; simp only [List.length_cons, List.length_nil]; omega⟩, A.keep _ ⟨rfl, rfl, rfl, rfl, rfl, trivial⟩, M⟩
     ·
      have hb223' := ne_of_beq_false hb223
      refine sdo (v := .bool false) A (qb rfl rfl (fun w => (ql w).trans (by rw [hb223]))) λa A↦?_
      refine sda A λa A↦?_
      refine qa (hK222 _ _ (wp_cond_false (A.ev rfl) ?_))
      refine wp_skip (hK15 _ _ (wsk fun K337 hK337 => wrl (sdm A λa A↦?_)))
      refine sdo (v := .bool false) A (qb rfl rfl (fun w => by kernel_rfl)) λa A↦?_
      refine sdm A λa A↦?_
      iterate 6 refine qk A rfl rfl rfl λa A↦?_
      refine sdk (v := .bool false) A λa A↦?_
      refine sda A λa A↦?_
      refine qa (hK337 _ _ (wsk fun K338 hK338 => wsk fun K339 hK339 => wrl (sda A λa A↦?_)))
      refine qa (hK339 _ _ (wp_block (wp_loop_rounds 5 ?_)))
      refine jf ?_
      intro K340 hK340
      refine wsk fun K341 hK341 => wsk fun K342 hK342 => wrl ?_
      iterate 2 refine sdm A λa A↦?_
      iterate 3 refine qk A rfl rfl rfl λa A↦?_
      refine sdk (v := .bool false) A λa A↦?_
      refine qa (hK342 _ _ (wp_cond_false (A.ev rfl) ?_))
      refine wp_exit (hK338 _ _ (wsk fun K343 hK343 => wsk fun K344 hK344 => wrl ?_))
      iterate 2 refine sdm A λa A↦?_
      iterate 2 refine qk A rfl rfl rfl λa A↦?_
      refine sdk (v := .bool false) A λa A↦?_
      refine qa (hK344 _ _ (wp_cond_false (A.ev rfl) ?_))
      refine wp_skip (hK343 _ _ (wsk fun K345 hK345 => wrl (sdm A λa A↦?_)))
      refine qa (hK345 _ _ (wp_cond_false (A.ev rfl) ?_))
      refine wsk fun K346 hK346 => wrl ?_
      iterate 2 refine sdm A λa A↦?_
      refine sdo (v := .agg #[.int .i32 0, .bool true, .int .i64 (((i : Nat) : Int))]) A (zb rfl (fun w => by kernel_rfl)) λa A↦?_
      refine jm (e := 80) (sz := 3) (m := 1) (vs := [.int .i32 0, .bool true, .int .i64 (((i : Nat) : Int))]) A M rfl rfl rfl (qp rfl (by kernel_rfl)) rfl rfl (.inl (by decide)) ?_
      intro g347 w348 M a A
      refine zw (e := 80) (sz := 3) (k := 1) (q := acc.length) (m := 1) (xs := (qr acc)) (news := [.int .i32 0, .bool true, .int .i64 (((i : Nat) : Int))]) (L' := fun v349 => (.row 80 3 (.slice (some ⟨g347, 0, none⟩) 1 1) 1 ([.int .i32 0, .bool true, .int .i64 (((i : Nat) : Int))]) :: .row 80 3 (v349) (acc.length + 1) ((qr acc) ++ [.int .i32 0, .bool true, .int .i64 (((i : Nat) : Int))]) :: [])) A rfl rfl rfl (zv (z := .agg #[.int .i32 0, .bool false, .int .i64 0]) (sz := 3) (by_ := 16) Tryz.underlying77 (by kernel_rfl) rfl rfl rfl M 1 rfl rfl 0 rfl rfl rfl rfl (by omega)) (fun _ => rfl) ?_
      intro v349 w350 M a A
      refine sda A λa A↦?_
      refine qa (hK346 _ _ (wrl (sdm A λa A↦?_)))
      refine sdo (v := .int .i64 (((i + 1 : Nat) : Int))) A (qb rfl rfl (ar_add ((in_i64 (by omega) (by omega)).trans (by omega)))) λa A↦?_
      refine sda A λa A↦?_
      refine qa ?_
      have hd : decodeN (l.length - i) (l.getD i 0).toNat (l.getD (i + 1) 0).toNat (l.getD (i + 2) 0).toNat (l.getD (i + 3) 0).toNat = (65533, 1) := by
       unfold Lib.decodeN
       repeat' split
       all_goals first | rfl | (exfalso; omega) | (refine Prod.ext ?_ rfl; show (_ : Nat) = _; omega)
      have hr9 : uR (65533) 1 = (-1) := by unfold uR; rw [if_pos ⟨rfl, by decide⟩]
      have hs9 := zr (show i < l.length by omega) hd
      rw [hr9] at hs9
      replace M : Mg w w350 [.row 80 3 v349 (acc ++ [((i : Int), (-1))]).length (qr (acc ++ [((i : Int), (-1))]))] := by
       have h9 := M.sub (.cons _ (.cons_cons _ (.refl _)))
       have e9 : qr (acc ++ [((i : Int), (-1))]) = qr acc ++ [.int .i32 0, .bool true, .int .i64 (((i : Nat) : Int))] := by
        unfold qr
        rw [List.flatMap_append, List.flatMap_singleton]
        rw [if_pos rfl]
       rw [e9, List.length_append]
       exact h9
      refine hK8 _ _ _ (by omega) ⟨i + 1, acc ++ [((i : Int), (-1))], v349, rfl, ⟨by rw [← hrun, hs9, List.append_assoc]; rfl, by omega, by rw [List.length_append]; simp only [List.length_cons, List.length_nil]; omega⟩, A.keep _ ⟨rfl, rfl, rfl, rfl, rfl, trivial⟩, M⟩
 ·
  have hb12' := of_decide_eq_false hb12
  refine sdo (v := .bool false) A (qb rfl rfl (fun w => (zk w).trans (by rw [hb12]))) λa A↦?_
  refine qa (hK11 _ _ (wp_cond_false (A.ev rfl) ?_))
  refine wp_exit (hK5 _ _ (wsk fun K351 hK351 => wrl (sdm A λa A↦?_)))
  refine sda A λa A↦?_
  refine qa (hK351 _ _ (wp_ret (hret _ _ (en1 A rfl (qh rfl) ?_))))
  rw [restU_over (by omega), List.append_nil] at hrun
  subst hrun
  exact ⟨_, rfl, M⟩
theorem xp {w : World} {B : Nat} {e : TypeId} {sz : Nat} {v : Value} {n : Nat} {xs : List Value} (h : w.ownsRow B e sz v n xs) : ∃ so cap, v = .slice so n cap := by
  rcases h.2 with ⟨rfl, rfl⟩ | ⟨g, cap, cur, rfl, _⟩
  · exact ⟨none, 0, rfl⟩
  · exact ⟨_, cap, rfl⟩
section
variable {P : Program} {w0 w : World} {L : List Ck} {l : List (Nat × Value)} {dst : Option Tmp} {ty : TypeId} {pos : String} {after : Array Edge} {guard : Option (Nat × Bool)} {v : Value}
theorem does_convC {w' : World} {s d : TypeId} {x : Operand} {u : Value} (hx : ev l x = some u) (hr : (convert s d u).run P w = .ok v w') : Does P l ⟨dst, .convert s d x, ty, pos, after, guard⟩ w v w' := fun ρ h => by
  simp only [execOp, h x _ hx, Sem.run_bind, hr, Result.andThen_ok, Sem.run_pure]
theorem row_addr (hM : Mg w0 w L) (k : Nat) {e : TypeId} {sz n cap : Nat} {so : Option Addr} {xs : List Value} (hk : L[k]? = some (.row e sz (.slice so n cap) n xs)) (hn : 0 < n) : ∃ g, so = some ⟨g, 0, none⟩ := by
  rcases (hM.has k hk).2 with ⟨_, h0⟩ | ⟨g, cap', cur, he, _⟩
  · omega
  · cases he; exact ⟨g, rfl⟩
theorem does_indexX {t e : TypeId} {sz : Nat} (hu : P.underlying t = some (.slice e)) (he : (P.info? e).map (·.size) = some sz) {x i : Operand} {so : Option Addr} {g n c k : Nat} {z : Int} (hx : ev l x = some (.slice so n c)) (hi : ev l i = some (.int .i64 z)) (hz : z = (k : Nat)) (hso : so = some ⟨g, 0, none⟩) (hk : k < n) :
    Does P l ⟨dst, .indexAddr t x i, ty, pos, after, guard⟩ w (.pointer (some ⟨g, k * sz, none⟩)) w := by
  subst hso
  exact does_indexE hu he hx hi hz hk
theorem m_loadX (hM : Mg w0 w L) (k : Nat) {e : TypeId} {sz g n c j : Nat} {so : Option Addr} {xs : List Value} (hk : L[k]? = some (.row e sz (.slice so n c) n xs)) (hso : so = some ⟨g, 0, none⟩) (hj : xs[j]? = some v) {t : TypeId} (ht : Is1 P t) {x : Operand} (hx : ev l x = some (.pointer (some ⟨g, j, none⟩))) : Does P l ⟨dst, .load t x, ty, pos, after, guard⟩ w v w := by
  subst hso
  exact qgi hM k hk hj ht hx
end
section
variable {P : Program} {w0 w : World} {L : List Ck} {l : List (Nat × Value)} {ops : List Oper} {Q : Exit → Act → World → Prop} {a : Act} {n : Nat} {rest : List Oper} {d : Nat} {dst : Option Tmp} {ty : TypeId} {pos : String} {after : Array Edge} {guard : Option (Nat × Bool)}
/-- A text as bytes. -/
theorem s_bytes (hA : Sl a n l) (hM : Mg w0 w L) {t t' : TypeId} {x : Operand} {s : ByteArray} {o : Oper} (ho : o = ⟨dst, .convert t t' x, ty, pos, after, guard⟩) (ht : P.underlying t = some .string) (hd : P.underlying t' = some (.slice BY)) (he : P.underlying BY = some (.int .u8)) (hx : ev l x = some (.string s)) (hg : je l ops o = true) (hdst : o.dst = some d) (hdn : Nat.blt d n = true)
    (hk : ∀ so cap w', Rb w' so s.data.toList → Mg w0 w' L → ∀ a', Sl a' n ((d, .slice so s.data.toList.length cap) :: l) → wpList P ops.toArray Q rest a' w') : wpList P ops.toArray Q (o :: rest) a w := by
  subst ho
  have hr := Go.Lib.run_convert_string_bytes (P := P) w t t' BY s ht hd he
  have hb : Below w.heap.size w (bytesWorld w BY s) := ⟨rfl, rfl, rfl, by rw [bytesWorld_size]; omega, fun j hj => bytesWorld_at_old w BY s j hj⟩
  refine ky hA hg hdst hdn (v := .slice (some ⟨w.heap.size, 0, none⟩) s.data.toList.length (grownCap w s.size 0 BY)) (w' := bytesWorld w BY s) (does_convC hx (by rw [xw]; exact hr)) (hk _ _ _ ⟨fun _ => ⟨w.heap.size, 0, rfl, by rw [bytesWorld_size]; omega, fun j hj => ?_⟩⟩ (hM.call hb))
  rw [xw] at hj
  rw [Nat.zero_add]
  exact bytesWorld_cell w BY s j hj
end
theorem qjb (u : Int × Int) (us : List (Int × Int)) : qr (u :: us) = (if u.2 = -1 then [.int .i32 0, .bool true, .int .i64 u.1] else [.int .i32 u.2, .bool false, .int .i64 u.1]) ++ qr us := rfl
theorem qjc : ∀ (us : List (Int × Int)) (i f : Nat) (u : Int × Int), us[i]? = some u → f < 3 → (qr us)[i * 3 + f]? = (if u.2 = -1 then [Value.int .i32 0, .bool true, .int .i64 u.1] else [.int .i32 u.2, .bool false, .int .i64 u.1])[f]?
  | [], i, f, u, h, hf => by simp at h
  | v :: us, 0, f, u, h, hf => by
    simp only [List.getElem?_cons_zero, Option.some.injEq] at h
    subst h
    rw [qjb, Nat.zero_mul, Nat.zero_add, List.getElem?_append_left]
    split <;> exact hf
  | v :: us, i + 1, f, u, h, hf => by
    rw [List.getElem?_cons_succ] at h
    rw [qjb, List.getElem?_append_right (by split <;> (simp only [List.length_cons, List.length_nil]; omega))]
    have e : (i + 1) * 3 + f - (if v.2 = -1 then [Value.int .i32 0, .bool true, .int .i64 v.1] else [.int .i32 v.2, .bool false, .int .i64 v.1]).length = i * 3 + f := by
      split <;> (simp only [List.length_cons, List.length_nil]; omega)
    rw [e]
    exact qjc us i f u h hf
theorem unit_get {us : List (Int × Int)} {i : Nat} (h : i < us.length) : ∃ ua ur, us[i]? = some (ua, ur) := ⟨_, _, List.getElem?_eq_getElem h⟩
/-! ### Encode -/
theorem qjd : ∀ (f p : Nat) (l : List UInt8), (vg f p l).length ≤ l.length
  | 0, _, _ => Nat.zero_le _
  | f + 1, p, l => by
    by_cases hl : l = []
    · subst hl; simp [vg]
    · rw [qfg hl, List.length_cons]
      have h1 := qjd f (p + (decodeL l).2) (l.drop (decodeL l).2)
      have h2 := xk l hl
      rw [List.length_drop] at h1
      omega
theorem dec_fffd (l : List UInt8) (h : (decodeL l).1 = 65533) : (decodeL l).2 = 1 ∨ (decodeL l).2 = 3 ∨ (decodeL l).2 = 0 := by
  rw [decodeL_N] at h ⊢
  generalize (l.getD 0 0).toNat = b0 at h ⊢
  generalize (l.getD 1 0).toNat = b1 at h ⊢
  generalize (l.getD 2 0).toNat = b2 at h ⊢
  generalize (l.getD 3 0).toNat = b3 at h ⊢
  unfold decodeN at h ⊢
  repeat' split
  all_goals (simp_all)
  all_goals omega
theorem ue : ∀ (f p : Nat) (l : List UInt8), validGoD f l = (vg f p l).all (fun u => !decide (u.2 = -1))
  | 0, p, l => rfl
  | f + 1, p, l => by
    unfold validGoD vg
    by_cases hl : l = []
    · rw [if_pos hl, if_pos hl]; rfl
    · rw [if_neg hl, if_neg hl, List.all_cons]
      have hw := xk l hl
      have h3 := dec_fffd l
      by_cases hb : (decodeL l).1 = 65533 ∧ (decodeL l).2 = 1
      · rw [if_pos hb]
        have : uR (decodeL l).1 (decodeL l).2 = -1 := by unfold uR; rw [if_pos ⟨hb.1, by omega⟩]
        rw [this]; rfl
      · rw [if_neg hb]
        have : ¬ uR (decodeL l).1 (decodeL l).2 = -1 := by
          unfold uR
          by_cases h9 : (decodeL l).1 = 65533
          · rw [if_neg (by have := h3 h9; omega)]; omega
          · rw [if_neg (fun e => h9 e.1)]; omega
        rw [decide_eq_false this, ue f (p + (decodeL l).2)]
        simp
theorem qme (s : ByteArray) : okS s = (jy s.data.toList).all (fun u => !decide (u.2 = -1)) := ue _ 0 _
theorem okS_bad {s : ByteArray} {i : Nat} {ua ur : Int} (h : (jy s.data.toList)[i]? = some (ua, ur)) (hr : ur = -1) : okS s = false := by
  rw [qme]
  apply Bool.eq_false_iff.2
  intro k
  have := List.all_eq_true.1 k _ (List.mem_of_getElem? h)
  simp [hr] at this
theorem okS_good {s : ByteArray} (h : ∀ (i : Nat) (ua ur : Int), (jy s.data.toList)[i]? = some (ua, ur) → ur ≠ -1) : okS s = true := by
  rw [qme, List.all_eq_true]
  intro u hu
  obtain ⟨i, hi⟩ := List.mem_iff_getElem?.1 hu
  simp [h i u.1 u.2 hi]
theorem TrA_is1_28 : Is1 Tryz.prog 28 := ⟨⟨_, Tryz.underlying28, rfl⟩, by kernel_rfl⟩
theorem TrA_is1_3 : Is1 Tryz.prog 3 := ⟨⟨_, Tryz.underlying3, rfl⟩, by kernel_rfl⟩
theorem TrA_fld_30_0 : FieldAt Tryz.prog 30 0 0 := ⟨_, _, Tryz.underlying30, rfl, rfl, by kernel_rfl⟩
theorem TrA_fld_30_5 : FieldAt Tryz.prog 30 5 10 := ⟨_, _, Tryz.underlying30, rfl, rfl, by kernel_rfl⟩
/-- The walk of the size of a datum. -/
def FitsAt (t : Dt) : Prop := ∀ {w0 w : World} {b o gl : Nat} {left dp : Int} {T : List Ck}, t.rd w0 → Here w0 b o t.cells → Mg w0 w (.obj gl (.cells #[.int .i64 left] 3) :: T) → 0 ≤ left → left ≤ 20000 → 0 ≤ dp → dp ≤ 201 → Calls Tryz.prog 50 #[.pointer (some ⟨b, o, none⟩), .int .i64 dp, .pointer (some ⟨gl, 0, none⟩)] w fun e w' => e = .returned (.bool (jx dp left t.tr).1) ∧ Mg w0 w' (.obj gl (.cells #[.int .i64 (jx dp left t.tr).2] 3) :: T)
theorem fitsAt_all : ∀ t : Dt, FitsAt t := Dt.indT fun d ts ih => by
 intro w0 w b o gl left dp T hrd hH hM0 hl0 hl1 hd0 hd1
 replace hH : Here w0 b o (d.cells ts.length) := hH
 have hok := (Dt.rd_iff.1 hrd)
 have hk0 := hok.1.k0
 have hk1 := hok.1.k1
 have hlen : ts.length ≤ 9223372036854775807 := Nat.le_trans hok.2.1 hok.2.2.1
 have M : Mg w0 w (.obj gl (.cells #[.int .i64 left] 3) :: T) := hM0
 refine ze (l := [(0, .pointer (some ⟨b, o, none⟩)), (1, .int .i64 dp), (2, .pointer (some ⟨gl, 0, none⟩))]) Tryz.func50 rfl Tryz.ntmps50 rfl rfl ?_
 intro Q hret hnorm hP a A
 refine wsk fun K1 hK1 => wrl (sda A λa A↦?_)
 refine qa (hK1 _ _ (wsk fun K2 hK2 => wrl (sdm A λa A↦?_)))
 refine sdo A (vx rfl) λa A↦?_
 refine sdo A (qm M TrA_is1_3 rfl 0 rfl rfl) λa A↦?_
 refine sdo (v := .int .i64 (left - 1)) A (qb rfl rfl (bin_sub (vq (by omega) (by omega)))) λa A↦?_
 refine sdo A (vx rfl) λa A↦?_
 refine js (us := [.int .i64 (left - 1)]) (L' := (.obj gl (.cells #[.int .i64 (left - 1)] 3) :: T)) A M rfl rfl (jh rfl rfl rfl (by kernel_rfl) M 0 rfl rfl rfl) 0 rfl rfl rfl ?_
 intro w3 M
 refine qa (hK2 _ _ (wsk fun K4 hK4 => wsk fun K5 hK5 => wrl (sdm A λa A↦?_)))
 refine sdo A (vx rfl) λa A↦?_
 refine sdo A (qm M TrA_is1_3 rfl 0 rfl rfl) λa A↦?_
 rcases tf (decide (left - 1 < 0)) with hb6 | hb6
 ·
  have hb6' := of_decide_eq_true hb6
  refine sdo (v := .bool true) A (qb rfl rfl (fun w => (zk w).trans (by rw [hb6]))) λa A↦?_
  refine sdm A λa A↦?_
  iterate 2 refine qk A rfl rfl rfl λa A↦?_
  refine sdk (v := .bool true) A λa A↦?_
  refine qa (hK5 _ _ (wp_cond_true (A.ev rfl) ?_))
  refine wsk fun K7 hK7 => wrl (sda A λa A↦?_)
  refine qa (hK7 _ _ (wp_ret (hret _ _ (en1 A rfl (qh rfl) ?_))))
  rw [fitT_no (by omega)]
  exact ⟨rfl, M⟩
 ·
  have hb6' := of_decide_eq_false hb6
  refine sdo (v := .bool false) A (qb rfl rfl (fun w => (zk w).trans (by rw [hb6]))) λa A↦?_
  iterate 2 refine sdm A λa A↦?_
  rcases tf (decide (200 < dp)) with hb8 | hb8
  ·
   have hb8' := of_decide_eq_true hb8
   refine sdo (v := .bool true) A (qb rfl rfl (fun w => (jd w).trans (by rw [hb8]))) λa A↦?_
   refine sdk (v := .bool true) A λa A↦?_
   refine qa (hK5 _ _ (wp_cond_true (A.ev rfl) ?_))
   refine wsk fun K9 hK9 => wrl (sda A λa A↦?_)
   refine qa (hK9 _ _ (wp_ret (hret _ _ (en1 A rfl (qh rfl) ?_))))
   rw [fitT_no (by omega)]
   exact ⟨rfl, M⟩
  ·
   have hb8' := of_decide_eq_false hb8
   refine sdo (v := .bool false) A (qb rfl rfl (fun w => (jd w).trans (by rw [hb8]))) λa A↦?_
   refine sdk (v := .bool false) A λa A↦?_
   refine qa (hK5 _ _ (wp_cond_false (A.ev rfl) ?_))
   refine wp_skip (hK4 _ _ (wsk fun K10 hK10 => wsk fun K11 hK11 => wrl (sdm A λa A↦?_)))
   refine sdo A (vx rfl) λa A↦?_
   refine sdo (v := .pointer (some ⟨b, o + 10, none⟩)) A (qe TrA_fld_30_5 rfl rfl) λa A↦?_
   refine sdo A (qci (j := 10) M hH TrA_is1_28 rfl rfl rfl) λa A↦?_
   refine sdo A (qt Tryz.underlying28 rfl) λa A↦?_
   refine sdm A λa A↦?_
   refine qa (hK11 _ _ (wp_block (jr (fun m_ a w1 => ∃ (i : Nat) (m : Int), m_ = 1 + (ts.length - i) ∧ (i ≤ ts.length ∧ ub dp (decide (d.k = 8)) 0 (left - 1) ((ts.map Dt.tr).drop 0) = ub dp (decide (d.k = 8)) i m ((ts.map Dt.tr).drop i) ∧ 0 ≤ m ∧ m ≤ 20000) ∧ Sl a 53 [(0, .pointer (some ⟨b, o, none⟩)), (1, .int .i64 dp), (2, .pointer (some ⟨gl, 0, none⟩)), (9, .pointer (some ⟨gl, 0, none⟩)), (10, .pointer (some ⟨gl, 0, none⟩)), (11, .int .i64 left), (12, .int .i64 (left - 1)), (13, .pointer (some ⟨gl, 0, none⟩)), (14, .pointer (some ⟨gl, 0, none⟩)), (15, .pointer (some ⟨gl, 0, none⟩)), (16, .int .i64 (left - 1)), (17, .bool false), (18, .bool false), (19, .int .i64 dp), (20, .bool false), (21, .bool false), (22, .pointer (some ⟨b, o, none⟩)), (23, .pointer (some ⟨b, o, none⟩)), (24, .pointer (some ⟨b, o + 10, none⟩)), (25, .slice d.lo ts.length d.lc), (26, .int .i64 (((ts.length : Nat) : Int))), (27, .int .i64 (((i : Nat) : Int)))] ∧ Mg w0 w1 (.obj gl (.cells #[.int .i64 m] 3) :: T)) _ ⟨0, left - 1, rfl, ⟨Nat.zero_le _, rfl, by omega, by omega⟩, A.keep _ ⟨rfl, rfl, rfl, rfl, rfl, rfl, rfl, rfl, rfl, rfl, rfl, rfl, rfl, rfl, rfl, rfl, rfl, rfl, rfl, rfl, rfl, rfl, trivial⟩, M⟩ ?_)))
   clear M A
   rintro m_ a w12 ⟨i, m, rfl, hinv14, A, M⟩ K13 hK13
   obtain ⟨hi0, hin9, hm0, hm1⟩ := hinv14
   refine wsk fun K15 hK15 => wrl ?_
   rcases tf (decide (((i : Nat) : Int) < ((ts.length : Nat) : Int))) with hb16 | hb16
   ·
    have hb16' := of_decide_eq_true hb16
    refine sdo (v := .bool true) A (qb rfl rfl (fun w => (zk w).trans (by rw [hb16]))) λa A↦?_
    refine qa (hK15 _ _ (wsk fun K17 hK17 => wp_cond_true (A.ev rfl) ?_))
    refine wp_skip (hK17 _ _ (wsk fun K18 hK18 => wp_block (wsk fun K19 hK19 => wrl (sdm A λa A↦?_))))
    refine sda A λa A↦?_
    refine qa (hK19 _ _ (wsk fun K20 hK20 => wrl (sdm A λa A↦?_)))
    refine sdo (v := .int .i64 (dp + 1)) A (qb rfl rfl (xj (vq (by omega) (by omega)))) λa A↦?_
    refine sda A λa A↦?_
    refine qa (hK20 _ _ (wsk fun K21 hK21 => wsk fun K22 hK22 => wrl (sdm A λa A↦?_)))
    refine sdo A (vx rfl) λa A↦?_
    refine sdo (v := .pointer (some ⟨b, o, none⟩)) A (qe TrA_fld_30_0 rfl rfl) λa A↦?_
    refine sdo A (qci (j := 0) M hH TrA_is1_3 rfl rfl rfl) λa A↦?_
    rcases tf ((d.k == 8)) with hb23 | hb23
    ·
     have hb23' := eq_of_beq hb23
     refine sdo (v := .bool true) A (qb rfl rfl (fun w => (ql w).trans (by rw [hb23]))) λa A↦?_
     iterate 2 refine sdm A λa A↦?_
     rcases tf ((((i : Nat) : Int) == 1)) with hb24 | hb24
     ·
      have hb24' := eq_of_beq hb24
      refine sdo (v := .bool true) A (qb rfl rfl (fun w => (ql w).trans (by rw [hb24]))) λa A↦?_
      refine sdk (v := .bool true) A λa A↦?_
      refine qa (hK22 _ _ (wp_cond_true (A.ev rfl) ?_))
      refine wrl (sdm A λa A↦?_)
      refine sda A λa A↦?_
      refine qa (hK21 _ _ (wsk fun K25 hK25 => ?_))
      obtain ⟨t1, b1, o1, hi1, hm1, hr1, hl1, hH1⟩ := kid hrd (i := i) (by omega)
      have hD : (if decide (d.k = 8) = true ∧ i = 1 then dp else dp + 1) = dp := if_pos ⟨decide_eq_true hb23', by omega⟩
      refine wrl (sdm A λa A↦?_)
      refine sdo A (vx rfl) λa A↦?_
      refine sdo (v := .pointer (some ⟨b, o + 10, none⟩)) A (qe TrA_fld_30_5 rfl rfl) λa A↦?_
      refine sdo A (qci (j := 10) M hH TrA_is1_28 rfl rfl rfl) λa A↦?_
      refine sdm A λa A↦?_
      refine sdo (v := .pointer (some ⟨b1, o1 + i * 11, none⟩)) A (zx (k := i) Tryz.underlying28 (by kernel_rfl) rfl rfl rfl hl1 (by omega)) λa A↦?_
      iterate 2 refine sdm A λa A↦?_
      refine qi A rfl rfl rfl (qf rfl rfl (fun w => by kernel_rfl)) (ih t1 hm1 hr1 hH1 M (by omega) (by omega) (by omega) (by omega)) ?_
      rintro _ w27 ⟨rfl, hM26⟩
      replace M : Mg w0 w27 (.obj gl (.cells #[.int .i64 ((jx (dp) m t1.tr).2)] 3) :: T) := hM26
      refine ⟨_, rfl, ?_⟩
      intro a A
      refine sdo (v := .bool (!((jx (dp) m t1.tr).1))) A (zl rfl zu) λa A↦?_
      refine qa (hK25 _ _ ?_)
      refine wp_cond_split (t := !((jx (dp) m t1.tr).1)) (A.ev rfl) (fun hc28 => ?_) (fun hc28 => ?_)
      ·
       refine wsk fun K29 hK29 => wrl (sda A λa A↦?_)
       refine qa (hK29 _ _ (wp_ret (hret _ _ (en1 A rfl (qh rfl) ?_))))
       have hr9 : (jx (dp) m t1.tr).1 = false := by simpa using hc28
       have e9 : jx dp left (Dt.mk d ts).tr = (false, (jx (dp) m t1.tr).2) := by rw [qgj (by omega) (by omega), hin9, qec hi1 hD hr9]
       rw [e9]
       exact ⟨rfl, M⟩
      ·
       refine wp_skip (hK18 _ _ (wrl (sdo (v := .int .i64 (((i + 1 : Nat) : Int))) A (qb rfl rfl (fun w => (xj (vq (by omega) (by omega)) w).trans (by rw [show (((i : Nat) : Int) + 1 : Int) = ((i + 1 : Nat) : Int) from by omega]))) λa A↦?_)))
       refine sdm A λa A↦?_
       refine qa ?_
       have hr9 : (jx (dp) m t1.tr).1 = true := by simpa using hc28
       have hp9 := qae t1.tr _ _ hr9
       have hl9 := fit_le t1.tr (dp) m
       refine hK13 _ _ _ (by omega) ⟨i + 1, (jx (dp) m t1.tr).2, rfl, ⟨by omega, by rw [hin9, fitL_go hi1 hD hr9], by omega, by omega⟩, A.keep _ ⟨rfl, rfl, rfl, rfl, rfl, rfl, rfl, rfl, rfl, rfl, rfl, rfl, rfl, rfl, rfl, rfl, rfl, rfl, rfl, rfl, rfl, rfl, trivial⟩, M⟩
     ·
      have hb24' := ne_of_beq_false hb24
      refine sdo (v := .bool false) A (qb rfl rfl (fun w => (ql w).trans (by rw [hb24]))) λa A↦?_
      refine sdk (v := .bool false) A λa A↦?_
      refine qa (hK22 _ _ (wp_cond_false (A.ev rfl) ?_))
      refine wp_skip (hK21 _ _ (wsk fun K30 hK30 => ?_))
      obtain ⟨t1, b1, o1, hi1, hm1, hr1, hl1, hH1⟩ := kid hrd (i := i) (by omega)
      have hD : (if decide (d.k = 8) = true ∧ i = 1 then dp else dp + 1) = dp + 1 := if_neg (fun e => by omega)
      refine wrl (sdm A λa A↦?_)
      refine sdo A (vx rfl) λa A↦?_
      refine sdo (v := .pointer (some ⟨b, o + 10, none⟩)) A (qe TrA_fld_30_5 rfl rfl) λa A↦?_
      refine sdo A (qci (j := 10) M hH TrA_is1_28 rfl rfl rfl) λa A↦?_
      refine sdm A λa A↦?_
      refine sdo (v := .pointer (some ⟨b1, o1 + i * 11, none⟩)) A (zx (k := i) Tryz.underlying28 (by kernel_rfl) rfl rfl rfl hl1 (by omega)) λa A↦?_
      iterate 2 refine sdm A λa A↦?_
      refine qi A rfl rfl rfl (qf rfl rfl (fun w => by kernel_rfl)) (ih t1 hm1 hr1 hH1 M (by omega) (by omega) (by omega) (by omega)) ?_
      rintro _ w32 ⟨rfl, hM31⟩
      replace M : Mg w0 w32 (.obj gl (.cells #[.int .i64 ((jx (dp + 1) m t1.tr).2)] 3) :: T) := hM31
      refine ⟨_, rfl, ?_⟩
      intro a A
      refine sdo (v := .bool (!((jx (dp + 1) m t1.tr).1))) A (zl rfl zu) λa A↦?_
      refine qa (hK30 _ _ ?_)
      refine wp_cond_split (t := !((jx (dp + 1) m t1.tr).1)) (A.ev rfl) (fun hc33 => ?_) (fun hc33 => ?_)
      ·
       refine wsk fun K34 hK34 => wrl (sda A λa A↦?_)
       refine qa (hK34 _ _ (wp_ret (hret _ _ (en1 A rfl (qh rfl) ?_))))
       have hr9 : (jx (dp + 1) m t1.tr).1 = false := by simpa using hc33
       have e9 : jx dp left (Dt.mk d ts).tr = (false, (jx (dp + 1) m t1.tr).2) := by rw [qgj (by omega) (by omega), hin9, qec hi1 hD hr9]
       rw [e9]
       exact ⟨rfl, M⟩
      ·
       refine wp_skip (hK18 _ _ (wrl (sdo (v := .int .i64 (((i + 1 : Nat) : Int))) A (qb rfl rfl (fun w => (xj (vq (by omega) (by omega)) w).trans (by rw [show (((i : Nat) : Int) + 1 : Int) = ((i + 1 : Nat) : Int) from by omega]))) λa A↦?_)))
       refine sdm A λa A↦?_
       refine qa ?_
       have hr9 : (jx (dp + 1) m t1.tr).1 = true := by simpa using hc33
       have hp9 := qae t1.tr _ _ hr9
       have hl9 := fit_le t1.tr (dp + 1) m
       refine hK13 _ _ _ (by omega) ⟨i + 1, (jx (dp + 1) m t1.tr).2, rfl, ⟨by omega, by rw [hin9, fitL_go hi1 hD hr9], by omega, by omega⟩, A.keep _ ⟨rfl, rfl, rfl, rfl, rfl, rfl, rfl, rfl, rfl, rfl, rfl, rfl, rfl, rfl, rfl, rfl, rfl, rfl, rfl, rfl, rfl, rfl, trivial⟩, M⟩
    ·
     have hb23' := ne_of_beq_false hb23
     refine sdo (v := .bool false) A (qb rfl rfl (fun w => (ql w).trans (by rw [hb23]))) λa A↦?_
     refine sdm A λa A↦?_
     iterate 2 refine qk A rfl rfl rfl λa A↦?_
     refine sdk (v := .bool false) A λa A↦?_
     refine qa (hK22 _ _ (wp_cond_false (A.ev rfl) ?_))
     refine wp_skip (hK21 _ _ (wsk fun K35 hK35 => ?_))
     obtain ⟨t1, b1, o1, hi1, hm1, hr1, hl1, hH1⟩ := kid hrd (i := i) (by omega)
     have hD : (if decide (d.k = 8) = true ∧ i = 1 then dp else dp + 1) = dp + 1 := if_neg (fun e => hb23' (of_decide_eq_true e.1))
     refine wrl (sdm A λa A↦?_)
     refine sdo A (vx rfl) λa A↦?_
     refine sdo (v := .pointer (some ⟨b, o + 10, none⟩)) A (qe TrA_fld_30_5 rfl rfl) λa A↦?_
     refine sdo A (qci (j := 10) M hH TrA_is1_28 rfl rfl rfl) λa A↦?_
     refine sdm A λa A↦?_
     refine sdo (v := .pointer (some ⟨b1, o1 + i * 11, none⟩)) A (zx (k := i) Tryz.underlying28 (by kernel_rfl) rfl rfl rfl hl1 (by omega)) λa A↦?_
     iterate 2 refine sdm A λa A↦?_
     refine qi A rfl rfl rfl (qf rfl rfl (fun w => by kernel_rfl)) (ih t1 hm1 hr1 hH1 M (by omega) (by omega) (by omega) (by omega)) ?_
     rintro _ w37 ⟨rfl, hM36⟩
     replace M : Mg w0 w37 (.obj gl (.cells #[.int .i64 ((jx (dp + 1) m t1.tr).2)] 3) :: T) := hM36
     refine ⟨_, rfl, ?_⟩
     intro a A
     refine sdo (v := .bool (!((jx (dp + 1) m t1.tr).1))) A (zl rfl zu) λa A↦?_
     refine qa (hK35 _ _ ?_)
     refine wp_cond_split (t := !((jx (dp + 1) m t1.tr).1)) (A.ev rfl) (fun hc38 => ?_) (fun hc38 => ?_)
     ·
      refine wsk fun K39 hK39 => wrl (sda A λa A↦?_)
      refine qa (hK39 _ _ (wp_ret (hret _ _ (en1 A rfl (qh rfl) ?_))))
      have hr9 : (jx (dp + 1) m t1.tr).1 = false := by simpa using hc38
      have e9 : jx dp left (Dt.mk d ts).tr = (false, (jx (dp + 1) m t1.tr).2) := by rw [qgj (by omega) (by omega), hin9, qec hi1 hD hr9]
      rw [e9]
      exact ⟨rfl, M⟩
     ·
      refine wp_skip (hK18 _ _ (wrl (sdo (v := .int .i64 (((i + 1 : Nat) : Int))) A (qb rfl rfl (fun w => (xj (vq (by omega) (by omega)) w).trans (by rw [show (((i : Nat) : Int) + 1 : Int) = ((i + 1 : Nat) : Int) from by omega]))) λa A↦?_)))
      refine sdm A λa A↦?_
      refine qa ?_
      have hr9 : (jx (dp + 1) m t1.tr).1 = true := by simpa using hc38
      have hp9 := qae t1.tr _ _ hr9
      have hl9 := fit_le t1.tr (dp + 1) m
      refine hK13 _ _ _ (by omega) ⟨i + 1, (jx (dp + 1) m t1.tr).2, rfl, ⟨by omega, by rw [hin9, fitL_go hi1 hD hr9], by omega, by omega⟩, A.keep _ ⟨rfl, rfl, rfl, rfl, rfl, rfl, rfl, rfl, rfl, rfl, rfl, rfl, rfl, rfl, rfl, rfl, rfl, rfl, rfl, rfl, rfl, rfl, trivial⟩, M⟩
   ·
    have hb16' := of_decide_eq_false hb16
    refine sdo (v := .bool false) A (qb rfl rfl (fun w => (zk w).trans (by rw [hb16]))) λa A↦?_
    refine qa (hK15 _ _ (wsk fun K40 hK40 => wp_cond_false (A.ev rfl) ?_))
    refine wp_exit (hK10 _ _ (wsk fun K41 hK41 => wrl (sda A λa A↦?_)))
    refine qa (hK41 _ _ (wp_ret (hret _ _ (en1 A rfl (qh rfl) ?_))))
    have e9 : jx dp left (Dt.mk d ts).tr = (true, m) := by rw [qgj (by omega) (by omega), hin9, ug (by omega), ub]
    rw [e9]
    exact ⟨rfl, M⟩
theorem TrB_is1_22 : Is1 Tryz.prog 22 := ⟨⟨_, Tryz.underlying22, rfl⟩, by kernel_rfl⟩
theorem TrB_is1_27 : Is1 Tryz.prog 27 := ⟨⟨_, Tryz.underlying27, rfl⟩, by kernel_rfl⟩
theorem TrB_is1_28 : Is1 Tryz.prog 28 := ⟨⟨_, Tryz.underlying28, rfl⟩, by kernel_rfl⟩
theorem TrB_is1_3 : Is1 Tryz.prog 3 := ⟨⟨_, Tryz.underlying3, rfl⟩, by kernel_rfl⟩
theorem TrB_is1_4 : Is1 Tryz.prog 4 := ⟨⟨_, Tryz.underlying4, rfl⟩, by kernel_rfl⟩
theorem TrB_is1_9 : Is1 Tryz.prog 9 := ⟨⟨_, Tryz.underlying9, rfl⟩, by kernel_rfl⟩
theorem TrB_fld_24_0 : FieldAt Tryz.prog 24 0 0 := ⟨_, _, Tryz.underlying24, rfl, rfl, by kernel_rfl⟩
theorem TrB_fld_24_1 : FieldAt Tryz.prog 24 1 1 := ⟨_, _, Tryz.underlying24, rfl, rfl, by kernel_rfl⟩
theorem TrB_fld_24_2 : FieldAt Tryz.prog 24 2 2 := ⟨_, _, Tryz.underlying24, rfl, rfl, by kernel_rfl⟩
theorem TrB_fld_26_0 : FieldAt Tryz.prog 26 0 0 := ⟨_, _, Tryz.underlying26, rfl, rfl, by kernel_rfl⟩
theorem TrB_fld_26_1 : FieldAt Tryz.prog 26 1 3 := ⟨_, _, Tryz.underlying26, rfl, rfl, by kernel_rfl⟩
theorem TrB_fld_30_0 : FieldAt Tryz.prog 30 0 0 := ⟨_, _, Tryz.underlying30, rfl, rfl, by kernel_rfl⟩
theorem TrB_fld_30_1 : FieldAt Tryz.prog 30 1 1 := ⟨_, _, Tryz.underlying30, rfl, rfl, by kernel_rfl⟩
theorem TrB_fld_30_2 : FieldAt Tryz.prog 30 2 2 := ⟨_, _, Tryz.underlying30, rfl, rfl, by kernel_rfl⟩
theorem TrB_fld_30_3 : FieldAt Tryz.prog 30 3 8 := ⟨_, _, Tryz.underlying30, rfl, rfl, by kernel_rfl⟩
theorem TrB_fld_30_4 : FieldAt Tryz.prog 30 4 9 := ⟨_, _, Tryz.underlying30, rfl, rfl, by kernel_rfl⟩
theorem TrB_fld_30_5 : FieldAt Tryz.prog 30 5 10 := ⟨_, _, Tryz.underlying30, rfl, rfl, by kernel_rfl⟩
theorem TrB_isS_24 : IsS Tryz.prog 24 3 := ⟨⟨_, Tryz.underlying24⟩, by kernel_rfl⟩
theorem TrB_isS_26 : IsS Tryz.prog 26 6 := ⟨⟨_, Tryz.underlying26⟩, by kernel_rfl⟩
theorem TrB_isS_30 : IsS Tryz.prog 30 11 := ⟨⟨_, Tryz.underlying30⟩, by kernel_rfl⟩
/-- The library's tables of characters are there. -/
def Tabs8 (w : World) : Prop := Lib.Utf8Tabs (Tryz.laysValid_ren.g 3) (Tryz.laysValid_ren.g 4) w
theorem Tabs8.below {w w' : World} (h : Tabs8 w) (hb : Below w.heap.size w w') : Tabs8 w' := Utf8Tabs_below h hb
theorem yl {w : World} {s : ByteArray} (hs : s.size ≤ 9223372036854775807) (hT : Tabs8 w) {b : Bool} (h : okS s = b) : Calls Tryz.prog 67 #[.string s] w fun e w' => e = .returned (.bool b) ∧ Below w.heap.size w w' := h ▸ Any.utf8_ValidString Tryz.laysValid s w hs hT
theorem vrune_any {w : World} {r : Int} : Calls Tryz.prog 83 #[.int .i32 r] w fun e w' => e = .returned (.bool (Lib.validRune r)) ∧ Below w.heap.size w w' := (Tryz.utf8_ValidRune r w).mono fun e w' ⟨h, e2⟩ => ⟨h, e2 ▸ Below.refl _ _⟩
theorem convert_rune {P : Program} {s d : TypeId} (hs : P.underlying s = some (.int .i64)) (hd : P.underlying d = some (.int .i32)) {n : Int} (h0 : 0 ≤ n) (h1 : n ≤ 1114111) : ∀ w, (convert s d (.int .i64 n)).run P w = .ok (.int .i32 n) w := fun w => by
 simp [go_sem, run_underlying hs, run_underlying hd, convert]
 exact in_i32 (by omega) (by omega)
theorem isCh_any {w : World} {n : Int} : Calls Tryz.prog 66 #[.int .i64 n] w fun e w' => e = .returned (.bool (ku n)) ∧ Below w.heap.size w w' := by
 have M : Mg w w ([]) := Mg.start w
 refine ze (l := [(0, .int .i64 n)]) Tryz.func66 rfl Tryz.ntmps66 rfl rfl ?_
 intro Q hret hnorm hP a A
 refine wsk fun K1 hK1 => wrl (sda A λa A↦?_)
 refine qa (hK1 _ _ (wsk fun K2 hK2 => wrl (sdm A λa A↦?_)))
 rcases tf (decide (0 ≤ n)) with hb3 | hb3
 ·
  have hb3' := of_decide_eq_true hb3
  refine sdo (v := .bool true) A (qb rfl rfl (fun w => (xi w).trans (by rw [hb3]))) λa A↦?_
  iterate 2 refine sdm A λa A↦?_
  rcases tf (decide (n ≤ 1114111)) with hb4 | hb4
  ·
   have hb4' := of_decide_eq_true hb4
   refine sdo (v := .bool true) A (qb rfl rfl (fun w => (jz w).trans (by rw [hb4]))) λa A↦?_
   refine sdk (v := .bool true) A λa A↦?_
   iterate 2 refine sdm A λa A↦?_
   refine sdo (v := .int .i32 n) A (zq rfl (convert_rune Tryz.underlying3 Tryz.underlying21 (by omega) (by omega))) λa A↦?_
   refine qi A rfl rfl rfl (qf rfl rfl (fun w => by kernel_rfl)) (vrune_any) ?_
   rintro _ w5 ⟨rfl, hbv⟩
   replace M := M.call hbv
   refine ⟨_, rfl, ?_⟩
   intro a A
   refine sdo (v := .bool (Lib.validRune n)) A (jk rfl rfl rfl rfl) λa A↦?_
   refine sda A λa A↦?_
   refine qa (hK2 _ _ (wp_ret (hret _ _ (en1 A rfl (qh rfl) ?_))))
   exact ⟨by rw [show ku n = Lib.validRune n from by unfold ku; unfold Lib.validRune; exact decide_eq_decide.2 (by omega)], M.bel⟩
  ·
   have hb4' := of_decide_eq_false hb4
   refine sdo (v := .bool false) A (qb rfl rfl (fun w => (jz w).trans (by rw [hb4]))) λa A↦?_
   refine sdk (v := .bool false) A λa A↦?_
   refine sdm A λa A↦?_
   iterate 3 refine qk A rfl rfl rfl λa A↦?_
   refine sdk (v := .bool false) A λa A↦?_
   refine sda A λa A↦?_
   refine qa (hK2 _ _ (wp_ret (hret _ _ (en1 A rfl (qh rfl) ?_))))
   exact ⟨by rw [show ku n = false from by unfold ku; apply decide_eq_false; omega], M.bel⟩
 ·
  have hb3' := of_decide_eq_false hb3
  refine sdo (v := .bool false) A (qb rfl rfl (fun w => (xi w).trans (by rw [hb3]))) λa A↦?_
  refine sdm A λa A↦?_
  iterate 2 refine qk A rfl rfl rfl λa A↦?_
  refine sdk (v := .bool false) A λa A↦?_
  refine sdm A λa A↦?_
  iterate 3 refine qk A rfl rfl rfl λa A↦?_
  refine sdk (v := .bool false) A λa A↦?_
  refine sda A λa A↦?_
  refine qa (hK2 _ _ (wp_ret (hret _ _ (en1 A rfl (qh rfl) ?_))))
  exact ⟨by rw [show ku n = false from by unfold ku; apply decide_eq_false; omega], M.bel⟩
theorem qje {m1 m2 : Nat} (h1 : m1 ≤ 9223372036854775807) (h2 : m2 ≤ 9223372036854775807) : (IntKind.i64.wrap (((m1 : Nat) : Int) + ((m2 : Nat) : Int)) == 0) = (decide (m1 = 0) && decide (m2 = 0)) := by
 rw [IntKind.wrap_i64]
 by_cases a1 : m1 = 0
 ·
  subst a1
  by_cases a2 : m2 = 0
  ·
   subst a2; rfl
  ·
   simp [a2]; omega
 ·
  simp [a1]; omega
theorem yf {w : World} {b : Bool} {o1 o2 : Option Addr} {m1 m2 c1 c2 : Nat} (h1 : m1 ≤ 9223372036854775807) (h2 : m2 ≤ 9223372036854775807) {r : Bool} (hr : kg b m1 m2 = r) : Calls Tryz.prog 85 #[.agg #[.bool b, .slice o1 m1 c1, .slice o2 m2 c2]] w fun e w' => e = .returned (.bool r) ∧ Below w.heap.size w w' := by
 have M : Mg w w ([]) := Mg.start w
 refine ze (l := [(0, .agg #[.bool b, .slice o1 m1 c1, .slice o2 m2 c2])]) Tryz.func85 rfl Tryz.ntmps85 rfl rfl ?_
 intro Q hret hnorm hP a A
 refine wsk fun K1 hK1 => wrl (xe (vs := [.bool b, .slice o1 m1 c1, .slice o2 m2 c2]) (t := 24) A M rfl rfl rfl pg (qx rfl rfl) (by decide) ?_)
 intro g2 w3 M a A
 refine sda A λa A↦?_
 refine qa (hK1 _ _ (wsk fun K4 hK4 => wrl (sdo (v := .pointer (some ⟨g2, 0, none⟩)) A (qe TrB_fld_24_0 rfl rfl) λa A↦?_)))
 refine sdo A (qm M TrB_is1_4 rfl 0 rfl rfl) λa A↦?_
 rcases b with _ | _
 ·
  refine sdo (v := .bool true) A (zl rfl zu) λa A↦?_
  refine sdm A λa A↦?_
  refine sdo (v := .pointer (some ⟨g2, 1, none⟩)) A (qe TrB_fld_24_1 rfl rfl) λa A↦?_
  refine sdo A (qm M TrB_is1_22 rfl 0 rfl rfl) λa A↦?_
  refine sdo A (qt Tryz.underlying22 rfl) λa A↦?_
  rcases tf ((((m1 : Nat) : Int) == 0)) with hb5 | hb5
  ·
   have hb5' := eq_of_beq hb5
   refine sdo (v := .bool true) A (qb rfl rfl (fun w => (ql w).trans (by rw [hb5]))) λa A↦?_
   refine sdk (v := .bool true) A λa A↦?_
   refine sdm A λa A↦?_
   refine sdo (v := .pointer (some ⟨g2, 2, none⟩)) A (qe TrB_fld_24_2 rfl rfl) λa A↦?_
   refine sdo A (qm M TrB_is1_22 rfl 0 rfl rfl) λa A↦?_
   refine sdo A (qt Tryz.underlying22 rfl) λa A↦?_
   rcases tf ((((m2 : Nat) : Int) == 0)) with hb6 | hb6
   ·
    have hb6' := eq_of_beq hb6
    refine sdo (v := .bool true) A (qb rfl rfl (fun w => (ql w).trans (by rw [hb6]))) λa A↦?_
    refine sdk (v := .bool true) A λa A↦?_
    refine sda A λa A↦?_
    refine qa (hK4 _ _ (wp_ret (hret _ _ (en1 A rfl (qh rfl) ?_))))
    subst hr
    exact ⟨by unfold kg; simp_all; try omega, M.bel⟩
   ·
    have hb6' := ne_of_beq_false hb6
    refine sdo (v := .bool false) A (qb rfl rfl (fun w => (ql w).trans (by rw [hb6]))) λa A↦?_
    refine sdk (v := .bool false) A λa A↦?_
    refine sda A λa A↦?_
    refine qa (hK4 _ _ (wp_ret (hret _ _ (en1 A rfl (qh rfl) ?_))))
    subst hr
    exact ⟨by unfold kg; simp_all; try omega, M.bel⟩
  ·
   have hb5' := ne_of_beq_false hb5
   refine sdo (v := .bool false) A (qb rfl rfl (fun w => (ql w).trans (by rw [hb5]))) λa A↦?_
   refine sdk (v := .bool false) A λa A↦?_
   refine sdm A λa A↦?_
   iterate 4 refine qk A rfl rfl rfl λa A↦?_
   refine sdk (v := .bool false) A λa A↦?_
   refine sda A λa A↦?_
   refine qa (hK4 _ _ (wp_ret (hret _ _ (en1 A rfl (qh rfl) ?_))))
   subst hr
   exact ⟨by unfold kg; simp_all; try omega, M.bel⟩
 ·
  refine sdo (v := .bool false) A (zl rfl zu) λa A↦?_
  refine sdm A λa A↦?_
  iterate 4 refine qk A rfl rfl rfl λa A↦?_
  refine sdk (v := .bool false) A λa A↦?_
  refine sdm A λa A↦?_
  iterate 4 refine qk A rfl rfl rfl λa A↦?_
  refine sdk (v := .bool false) A λa A↦?_
  refine sda A λa A↦?_
  refine qa (hK4 _ _ (wp_ret (hret _ _ (en1 A rfl (qh rfl) ?_))))
  subst hr
  exact ⟨by unfold kg; simp_all; try omega, M.bel⟩
theorem qbc {w : World} {b : Bool} {o1 o2 : Option Addr} {m1 m2 c1 c2 : Nat} (h1 : m1 ≤ 9223372036854775807) (h2 : m2 ≤ 9223372036854775807) {r : Bool} (hr : kg b m1 m2 = r) : Calls Tryz.prog 48 #[.agg #[.bool b, .slice o1 m1 c1, .slice o2 m2 c2]] w fun e w' => e = .returned (.bool r) ∧ Below w.heap.size w w' := by
 have M : Mg w w ([]) := Mg.start w
 refine ze (l := [(0, .agg #[.bool b, .slice o1 m1 c1, .slice o2 m2 c2])]) Tryz.func48 rfl Tryz.ntmps48 rfl rfl ?_
 intro Q hret hnorm hP a A
 refine wsk fun K1 hK1 => wrl (xe (vs := [.bool b, .slice o1 m1 c1, .slice o2 m2 c2]) (t := 24) A M rfl rfl rfl pg (qx rfl rfl) (by decide) ?_)
 intro g2 w3 M a A
 refine sda A λa A↦?_
 refine qa (hK1 _ _ (wsk fun K4 hK4 => wrl (sdo (v := .pointer (some ⟨g2, 0, none⟩)) A (qe TrB_fld_24_0 rfl rfl) λa A↦?_)))
 refine sdo A (qm M TrB_is1_4 rfl 0 rfl rfl) λa A↦?_
 rcases b with _ | _
 ·
  refine sdo (v := .bool true) A (zl rfl zu) λa A↦?_
  refine sdm A λa A↦?_
  refine sdo (v := .pointer (some ⟨g2, 1, none⟩)) A (qe TrB_fld_24_1 rfl rfl) λa A↦?_
  refine sdo A (qm M TrB_is1_22 rfl 0 rfl rfl) λa A↦?_
  refine sdo A (qt Tryz.underlying22 rfl) λa A↦?_
  refine sdo (v := .pointer (some ⟨g2, 2, none⟩)) A (qe TrB_fld_24_2 rfl rfl) λa A↦?_
  refine sdo A (qm M TrB_is1_22 rfl 0 rfl rfl) λa A↦?_
  refine sdo A (qt Tryz.underlying22 rfl) λa A↦?_
  refine sdo (v := .int .i64 (IntKind.i64.wrap (((m1 : Nat) : Int) + ((m2 : Nat) : Int)))) A (qb rfl rfl (ar_add rfl)) λa A↦?_
  rcases tf ((IntKind.i64.wrap (((m1 : Nat) : Int) + ((m2 : Nat) : Int)) == 0)) with hb5 | hb5
  ·
   have hb5' := eq_of_beq hb5
   refine sdo (v := .bool true) A (qb rfl rfl (fun w => (ql w).trans (by rw [hb5]))) λa A↦?_
   refine sdk (v := .bool true) A λa A↦?_
   refine sda A λa A↦?_
   refine qa (hK4 _ _ (wp_ret (hret _ _ (en1 A rfl (qh rfl) ?_))))
   subst hr
   have e9 := qje h1 h2
   try rw [e9] at hb5
   exact ⟨by unfold kg; simp_all; try omega, M.bel⟩
  ·
   have hb5' := ne_of_beq_false hb5
   refine sdo (v := .bool false) A (qb rfl rfl (fun w => (ql w).trans (by rw [hb5]))) λa A↦?_
   refine sdk (v := .bool false) A λa A↦?_
   refine sda A λa A↦?_
   refine qa (hK4 _ _ (wp_ret (hret _ _ (en1 A rfl (qh rfl) ?_))))
   subst hr
   have e9 := qje h1 h2
   try rw [e9] at hb5
   exact ⟨by unfold kg; simp_all; try omega, M.bel⟩
 ·
  refine sdo (v := .bool false) A (zl rfl zu) λa A↦?_
  refine sdm A λa A↦?_
  iterate 8 refine qk A rfl rfl rfl λa A↦?_
  refine sdk (v := .bool false) A λa A↦?_
  refine sda A λa A↦?_
  refine qa (hK4 _ _ (wp_ret (hret _ _ (en1 A rfl (qh rfl) ?_))))
  subst hr
  have e9 := qje h1 h2
  exact ⟨by unfold kg; simp_all; try omega, M.bel⟩
theorem vd {w : World} {k n : Int} {b1 b2 : Bool} {o1 o2 o3 o4 ro lo : Option Addr} {m1 m2 m3 m4 mr ml c1 c2 c3 c4 rc lc : Nat} {s : ByteArray} (h1 : m1 ≤ 9223372036854775807) (h2 : m2 ≤ 9223372036854775807) (h3 : m3 ≤ 9223372036854775807) (h4 : m4 ≤ 9223372036854775807) {r : Bool} (hr : jo n b1 m1 m2 b2 m3 m4 s mr ml = r) : Calls Tryz.prog 68 #[.agg #[.int .i64 k, .int .i64 n, .bool b1, .slice o1 m1 c1, .slice o2 m2 c2, .bool b2, .slice o3 m3 c3, .slice o4 m4 c4, .string s, .slice ro mr rc, .slice lo ml lc]] w fun e w' => e = .returned (.bool r) ∧ Below w.heap.size w w' := by
 have M : Mg w w ([]) := Mg.start w
 refine ze (l := [(0, .agg #[.int .i64 k, .int .i64 n, .bool b1, .slice o1 m1 c1, .slice o2 m2 c2, .bool b2, .slice o3 m3 c3, .slice o4 m4 c4, .string s, .slice ro mr rc, .slice lo ml lc])]) Tryz.func68 rfl Tryz.ntmps68 rfl rfl ?_
 intro Q hret hnorm hP a A
 refine wsk fun K1 hK1 => wrl (xe (vs := [.int .i64 k, .int .i64 n, .bool b1, .slice o1 m1 c1, .slice o2 m2 c2, .bool b2, .slice o3 m3 c3, .slice o4 m4 c4, .string s, .slice ro mr rc, .slice lo ml lc]) (t := 30) A M rfl rfl rfl pg (qx rfl rfl) (by decide) ?_)
 intro g2 w3 M a A
 refine sda A λa A↦?_
 refine qa (hK1 _ _ (wsk fun K4 hK4 => wrl (sdo (v := .pointer (some ⟨g2, 1, none⟩)) A (qe TrB_fld_30_1 rfl rfl) λa A↦?_)))
 refine sdo A (qm M TrB_is1_3 rfl 0 rfl rfl) λa A↦?_
 rcases tf ((n == 0)) with hb5 | hb5
 ·
  have hb5' := eq_of_beq hb5
  refine sdo (v := .bool true) A (qb rfl rfl (fun w => (ql w).trans (by rw [hb5]))) λa A↦?_
  refine sdm A λa A↦?_
  refine sdo (v := .pointer (some ⟨g2, 2, none⟩)) A (qe TrB_fld_30_2 rfl rfl) λa A↦?_
  refine sdo (v := .pointer (some ⟨g2, 2, none⟩)) A (qe TrB_fld_26_0 rfl rfl) λa A↦?_
  refine sdo A (zf M TrB_isS_24 rfl 0 rfl (cs := [.bool b1, .slice o1 m1 c1, .slice o2 m2 c2]) rfl rfl) λa A↦?_
  rcases tf (kg b1 m1 m2) with hb6 | hb6
  ·
   refine qi A rfl rfl rfl (qf rfl rfl (fun w => by kernel_rfl)) (yf h1 h2 hb6) ?_
   rintro _ w8 ⟨rfl, hb7⟩
   replace M := M.call hb7
   refine ⟨_, rfl, ?_⟩
   intro a A
   refine sdk (v := .bool true) A λa A↦?_
   refine sdm A λa A↦?_
   refine sdo (v := .pointer (some ⟨g2, 2, none⟩)) A (qe TrB_fld_30_2 rfl rfl) λa A↦?_
   refine sdo (v := .pointer (some ⟨g2, 5, none⟩)) A (qe TrB_fld_26_1 rfl rfl) λa A↦?_
   refine sdo A (zf M TrB_isS_24 rfl 0 rfl (cs := [.bool b2, .slice o3 m3 c3, .slice o4 m4 c4]) rfl rfl) λa A↦?_
   rcases tf (kg b2 m3 m4) with hb9 | hb9
   ·
    refine qi A rfl rfl rfl (qf rfl rfl (fun w => by kernel_rfl)) (yf h3 h4 hb9) ?_
    rintro _ w11 ⟨rfl, hb10⟩
    replace M := M.call hb10
    refine ⟨_, rfl, ?_⟩
    intro a A
    refine sdk (v := .bool true) A λa A↦?_
    refine sdm A λa A↦?_
    refine sdo (v := .pointer (some ⟨g2, 8, none⟩)) A (qe TrB_fld_30_3 rfl rfl) λa A↦?_
    refine sdo A (qm M TrB_is1_9 rfl 0 rfl rfl) λa A↦?_
    rcases tf (decide (s = ⟨#[]⟩)) with hb12 | hb12
    ·
     have hb12' := of_decide_eq_true hb12
     refine sdo (v := .bool true) A (qb rfl rfl (fun w => (qic Tryz.underlying9 w).trans (by rw [hb12] <;> rfl))) λa A↦?_
     refine sdk (v := .bool true) A λa A↦?_
     refine sdm A λa A↦?_
     refine sdo (v := .pointer (some ⟨g2, 9, none⟩)) A (qe TrB_fld_30_4 rfl rfl) λa A↦?_
     refine sdo A (qm M TrB_is1_27 rfl 0 rfl rfl) λa A↦?_
     refine sdo A (qt Tryz.underlying27 rfl) λa A↦?_
     rcases tf ((((mr : Nat) : Int) == 0)) with hb13 | hb13
     ·
      have hb13' := eq_of_beq hb13
      refine sdo (v := .bool true) A (qb rfl rfl (fun w => (ql w).trans (by rw [hb13]))) λa A↦?_
      refine sdk (v := .bool true) A λa A↦?_
      refine sdm A λa A↦?_
      refine sdo (v := .pointer (some ⟨g2, 10, none⟩)) A (qe TrB_fld_30_5 rfl rfl) λa A↦?_
      refine sdo A (qm M TrB_is1_28 rfl 0 rfl rfl) λa A↦?_
      refine sdo A (qt Tryz.underlying28 rfl) λa A↦?_
      rcases tf ((((ml : Nat) : Int) == 0)) with hb14 | hb14
      ·
       have hb14' := eq_of_beq hb14
       refine sdo (v := .bool true) A (qb rfl rfl (fun w => (ql w).trans (by rw [hb14]))) λa A↦?_
       refine sdk (v := .bool true) A λa A↦?_
       refine sda A λa A↦?_
       refine qa (hK4 _ _ (wp_ret (hret _ _ (en1 A rfl (qh rfl) ?_))))
       subst hr
       exact ⟨by unfold jo; simp_all, M.bel⟩
      ·
       have hb14' := ne_of_beq_false hb14
       refine sdo (v := .bool false) A (qb rfl rfl (fun w => (ql w).trans (by rw [hb14]))) λa A↦?_
       refine sdk (v := .bool false) A λa A↦?_
       refine sda A λa A↦?_
       refine qa (hK4 _ _ (wp_ret (hret _ _ (en1 A rfl (qh rfl) ?_))))
       subst hr
       exact ⟨by unfold jo; simp_all, M.bel⟩
     ·
      have hb13' := ne_of_beq_false hb13
      refine sdo (v := .bool false) A (qb rfl rfl (fun w => (ql w).trans (by rw [hb13]))) λa A↦?_
      refine sdk (v := .bool false) A λa A↦?_
      refine sdm A λa A↦?_
      iterate 4 refine qk A rfl rfl rfl λa A↦?_
      refine sdk (v := .bool false) A λa A↦?_
      refine sda A λa A↦?_
      refine qa (hK4 _ _ (wp_ret (hret _ _ (en1 A rfl (qh rfl) ?_))))
      subst hr
      exact ⟨by unfold jo; simp_all, M.bel⟩
    ·
     have hb12' := of_decide_eq_false hb12
     refine sdo (v := .bool false) A (qb rfl rfl (fun w => (qic Tryz.underlying9 w).trans (by rw [hb12] <;> rfl))) λa A↦?_
     refine sdk (v := .bool false) A λa A↦?_
     refine sdm A λa A↦?_
     iterate 4 refine qk A rfl rfl rfl λa A↦?_
     refine sdk (v := .bool false) A λa A↦?_
     refine sdm A λa A↦?_
     iterate 4 refine qk A rfl rfl rfl λa A↦?_
     refine sdk (v := .bool false) A λa A↦?_
     refine sda A λa A↦?_
     refine qa (hK4 _ _ (wp_ret (hret _ _ (en1 A rfl (qh rfl) ?_))))
     subst hr
     exact ⟨by unfold jo; simp_all, M.bel⟩
   ·
    refine qi A rfl rfl rfl (qf rfl rfl (fun w => by kernel_rfl)) (yf h3 h4 hb9) ?_
    rintro _ w16 ⟨rfl, hb15⟩
    replace M := M.call hb15
    refine ⟨_, rfl, ?_⟩
    intro a A
    refine sdk (v := .bool false) A λa A↦?_
    refine sdm A λa A↦?_
    iterate 3 refine qk A rfl rfl rfl λa A↦?_
    refine sdk (v := .bool false) A λa A↦?_
    refine sdm A λa A↦?_
    iterate 4 refine qk A rfl rfl rfl λa A↦?_
    refine sdk (v := .bool false) A λa A↦?_
    refine sdm A λa A↦?_
    iterate 4 refine qk A rfl rfl rfl λa A↦?_
    refine sdk (v := .bool false) A λa A↦?_
    refine sda A λa A↦?_
    refine qa (hK4 _ _ (wp_ret (hret _ _ (en1 A rfl (qh rfl) ?_))))
    subst hr
    exact ⟨by unfold jo; simp_all, M.bel⟩
  ·
   refine qi A rfl rfl rfl (qf rfl rfl (fun w => by kernel_rfl)) (yf h1 h2 hb6) ?_
   rintro _ w18 ⟨rfl, hb17⟩
   replace M := M.call hb17
   refine ⟨_, rfl, ?_⟩
   intro a A
   refine sdk (v := .bool false) A λa A↦?_
   refine sdm A λa A↦?_
   iterate 4 refine qk A rfl rfl rfl λa A↦?_
   refine sdk (v := .bool false) A λa A↦?_
   refine sdm A λa A↦?_
   iterate 3 refine qk A rfl rfl rfl λa A↦?_
   refine sdk (v := .bool false) A λa A↦?_
   refine sdm A λa A↦?_
   iterate 4 refine qk A rfl rfl rfl λa A↦?_
   refine sdk (v := .bool false) A λa A↦?_
   refine sdm A λa A↦?_
   iterate 4 refine qk A rfl rfl rfl λa A↦?_
   refine sdk (v := .bool false) A λa A↦?_
   refine sda A λa A↦?_
   refine qa (hK4 _ _ (wp_ret (hret _ _ (en1 A rfl (qh rfl) ?_))))
   subst hr
   exact ⟨by unfold jo; simp_all, M.bel⟩
 ·
  have hb5' := ne_of_beq_false hb5
  refine sdo (v := .bool false) A (qb rfl rfl (fun w => (ql w).trans (by rw [hb5]))) λa A↦?_
  refine sdm A λa A↦?_
  iterate 4 refine qk A rfl rfl rfl λa A↦?_
  refine sdk (v := .bool false) A λa A↦?_
  refine sdm A λa A↦?_
  iterate 4 refine qk A rfl rfl rfl λa A↦?_
  refine sdk (v := .bool false) A λa A↦?_
  refine sdm A λa A↦?_
  iterate 3 refine qk A rfl rfl rfl λa A↦?_
  refine sdk (v := .bool false) A λa A↦?_
  refine sdm A λa A↦?_
  iterate 4 refine qk A rfl rfl rfl λa A↦?_
  refine sdk (v := .bool false) A λa A↦?_
  refine sdm A λa A↦?_
  iterate 4 refine qk A rfl rfl rfl λa A↦?_
  refine sdk (v := .bool false) A λa A↦?_
  refine sda A λa A↦?_
  refine qa (hK4 _ _ (wp_ret (hret _ _ (en1 A rfl (qh rfl) ?_))))
  subst hr
  exact ⟨by unfold jo; simp_all, M.bel⟩
theorem qjf {w : World} {d : Nd} {ts : List Dt} (hok : NdOk w d) (hT : Tabs8 w) : Calls Tryz.prog 51 #[.agg (d.cells ts.length).toArray] w fun e w' => e = .returned (.bool (zd d.k d.n d.y.q d.s d.rl.length ts.length)) ∧ Below w.heap.size w w' := by
 have hq1 := hok.len.l1
 have hq2 := hok.len.l2
 have hq3 := hok.len.l3
 have hq4 := hok.len.l4
 have M : Mg w w ([]) := Mg.start w
 refine ze (l := [(0, .agg (d.cells ts.length).toArray)]) Tryz.func51 rfl Tryz.ntmps51 rfl rfl ?_
 intro Q hret hnorm hP a A
 refine wsk fun K1 hK1 => wrl (xe (vs := [.int .i64 d.k, .int .i64 d.n, .bool d.y.q.b1, .slice d.y.o1 d.y.q.t1.length d.y.c1, .slice d.y.o2 d.y.q.q1.length d.y.c2, .bool d.y.q.b2, .slice d.y.o3 d.y.q.t2.length d.y.c3, .slice d.y.o4 d.y.q.q2.length d.y.c4, .string d.s, .slice d.ro d.rl.length d.rc, .slice d.lo ts.length d.lc]) (t := 30) A M rfl rfl rfl pg (qx rfl rfl) (by decide) ?_)
 intro g2 w3 M a A
 refine sda A λa A↦?_
 refine qa (hK1 _ _ (wsk fun K4 hK4 => wrl (sda A λa A↦?_)))
 refine qa (hK4 _ _ (wsk fun K5 hK5 => wsk fun K6 hK6 => wrl (sdo (v := .pointer (some ⟨g2, 0, none⟩)) A (qe TrB_fld_30_0 rfl rfl) λa A↦?_)))
 refine sdo A (qm M TrB_is1_3 rfl 0 rfl rfl) λa A↦?_
 refine qa (hK6 _ _ (wp_block (wsk fun K7 hK7 => wsk fun K8 hK8 => wrl ?_)))
 rcases tf ((d.k == 1)) with hb9 | hb9
 ·
  have hb9' := eq_of_beq hb9
  refine sdo (v := .bool true) A (qb rfl rfl (fun w => (ql w).trans (by rw [hb9]))) λa A↦?_
  refine sda A λa A↦?_
  refine qa (hK8 _ _ (wp_cond_true (A.ev rfl) ?_))
  refine wp_skip (hK7 _ _ (wp_cond_true (A.ev rfl) ?_))
  refine wp_skip (hK5 _ _ (wsk fun K10 hK10 => wrl ?_))
  iterate 2 refine sdm A λa A↦?_
  refine sdo A (zf M TrB_isS_30 rfl 0 rfl (cs := [.int .i64 d.k, .int .i64 d.n, .bool d.y.q.b1, .slice d.y.o1 d.y.q.t1.length d.y.c1, .slice d.y.o2 d.y.q.q1.length d.y.c2, .bool d.y.q.b2, .slice d.y.o3 d.y.q.t2.length d.y.c3, .slice d.y.o4 d.y.q.q2.length d.y.c4, .string d.s, .slice d.ro d.rl.length d.rc, .slice d.lo ts.length d.lc]) rfl rfl) λa A↦?_
  refine qi A rfl rfl rfl (qf rfl rfl (fun w => by kernel_rfl)) (vd (by first | exact hq1 | omega) (by first | exact hq2 | omega) (by first | exact hq3 | omega) (by first | exact hq4 | omega) rfl) ?_
  rintro _ w12 ⟨rfl, hb11⟩
  replace M := M.call hb11
  refine ⟨_, rfl, ?_⟩
  intro a A
  refine sdo (v := .bool (jo d.n d.y.q.b1 d.y.q.t1.length d.y.q.q1.length d.y.q.b2 d.y.q.t2.length d.y.q.q2.length d.s d.rl.length ts.length)) A (jk rfl rfl rfl rfl) λa A↦?_
  refine sda A λa A↦?_
  refine qa (hK10 _ _ (wp_ret (hret _ _ (en1 A rfl (qh rfl) ?_))))
  exact ⟨by rw [show zd d.k d.n d.y.q d.s d.rl.length ts.length = jo d.n d.y.q.b1 d.y.q.t1.length d.y.q.q1.length d.y.q.b2 d.y.q.t2.length d.y.q.q2.length d.s d.rl.length ts.length from by
   unfold zd
   repeat (first | rw [if_pos (by omega)] | rw [if_neg (by omega)])
   try simp_all
   try omega], M.bel⟩
 ·
  have hb9' := ne_of_beq_false hb9
  refine sdo (v := .bool false) A (qb rfl rfl (fun w => (ql w).trans (by rw [hb9]))) λa A↦?_
  refine sda A λa A↦?_
  refine qa (hK8 _ _ (wp_cond_false (A.ev rfl) ?_))
  refine wrl ?_
  rcases tf ((d.k == 10)) with hb13 | hb13
  ·
   have hb13' := eq_of_beq hb13
   refine sdo (v := .bool true) A (qb rfl rfl (fun w => (ql w).trans (by rw [hb13]))) λa A↦?_
   refine sda A λa A↦?_
   refine qa (hK7 _ _ (wp_cond_true (A.ev rfl) ?_))
   refine wp_skip (hK5 _ _ (wsk fun K14 hK14 => wrl ?_))
   iterate 2 refine sdm A λa A↦?_
   refine sdo A (zf M TrB_isS_30 rfl 0 rfl (cs := [.int .i64 d.k, .int .i64 d.n, .bool d.y.q.b1, .slice d.y.o1 d.y.q.t1.length d.y.c1, .slice d.y.o2 d.y.q.q1.length d.y.c2, .bool d.y.q.b2, .slice d.y.o3 d.y.q.t2.length d.y.c3, .slice d.y.o4 d.y.q.q2.length d.y.c4, .string d.s, .slice d.ro d.rl.length d.rc, .slice d.lo ts.length d.lc]) rfl rfl) λa A↦?_
   refine qi A rfl rfl rfl (qf rfl rfl (fun w => by kernel_rfl)) (vd (by first | exact hq1 | omega) (by first | exact hq2 | omega) (by first | exact hq3 | omega) (by first | exact hq4 | omega) rfl) ?_
   rintro _ w16 ⟨rfl, hb15⟩
   replace M := M.call hb15
   refine ⟨_, rfl, ?_⟩
   intro a A
   refine sdo (v := .bool (jo d.n d.y.q.b1 d.y.q.t1.length d.y.q.q1.length d.y.q.b2 d.y.q.t2.length d.y.q.q2.length d.s d.rl.length ts.length)) A (jk rfl rfl rfl rfl) λa A↦?_
   refine sda A λa A↦?_
   refine qa (hK14 _ _ (wp_ret (hret _ _ (en1 A rfl (qh rfl) ?_))))
   exact ⟨by rw [show zd d.k d.n d.y.q d.s d.rl.length ts.length = jo d.n d.y.q.b1 d.y.q.t1.length d.y.q.q1.length d.y.q.b2 d.y.q.t2.length d.y.q.q2.length d.s d.rl.length ts.length from by
    unfold zd
    repeat (first | rw [if_pos (by omega)] | rw [if_neg (by omega)])
    try simp_all
    try omega], M.bel⟩
  ·
   have hb13' := ne_of_beq_false hb13
   refine sdo (v := .bool false) A (qb rfl rfl (fun w => (ql w).trans (by rw [hb13]))) λa A↦?_
   refine sda A λa A↦?_
   refine qa (hK7 _ _ (wp_cond_false (A.ev rfl) ?_))
   refine wsk fun K17 hK17 => wrl ?_
   rcases tf ((d.k == 2)) with hb18 | hb18
   ·
    have hb18' := eq_of_beq hb18
    refine sdo (v := .bool true) A (qb rfl rfl (fun w => (ql w).trans (by rw [hb18]))) λa A↦?_
    refine sda A λa A↦?_
    refine qa (hK17 _ _ (wp_cond_true (A.ev rfl) ?_))
    refine wrl (sdo (v := .pointer (some ⟨g2, 1, none⟩)) A (qe TrB_fld_30_1 rfl rfl) λa A↦?_)
    refine sdo A (qm M TrB_is1_3 rfl 0 rfl rfl) λa A↦?_
    rcases tf ((d.n == 0)) with hb19 | hb19
    ·
     have hb19' := eq_of_beq hb19
     refine sdo (v := .bool true) A (qb rfl rfl (fun w => (ql w).trans (by rw [hb19]))) λa A↦?_
     refine sdm A λa A↦?_
     iterate 3 refine qk A rfl rfl rfl λa A↦?_
     refine sdk (v := .bool true) A λa A↦?_
     refine sda A λa A↦?_
     refine sdo (v := .pointer (some ⟨g2, 1, none⟩)) A (qe TrB_fld_30_1 rfl rfl) λa A↦?_
     refine js (us := [.int .i64 d.k, .int .i64 0, .bool d.y.q.b1, .slice d.y.o1 d.y.q.t1.length d.y.c1, .slice d.y.o2 d.y.q.q1.length d.y.c2, .bool d.y.q.b2, .slice d.y.o3 d.y.q.t2.length d.y.c3, .slice d.y.o4 d.y.q.q2.length d.y.c4, .string d.s, .slice d.ro d.rl.length d.rc, .slice d.lo ts.length d.lc]) (L' := (.obj g2 (.cells #[.int .i64 d.k, .int .i64 0, .bool d.y.q.b1, .slice d.y.o1 d.y.q.t1.length d.y.c1, .slice d.y.o2 d.y.q.q1.length d.y.c2, .bool d.y.q.b2, .slice d.y.o3 d.y.q.t2.length d.y.c3, .slice d.y.o4 d.y.q.q2.length d.y.c4, .string d.s, .slice d.ro d.rl.length d.rc, .slice d.lo ts.length d.lc] 30) :: [])) A M rfl rfl (jh rfl rfl rfl (by kernel_rfl) M 0 rfl rfl rfl) 0 rfl rfl rfl ?_
     intro w20 M
     refine qa (hK5 _ _ (wsk fun K21 hK21 => wrl ?_))
     iterate 2 refine sdm A λa A↦?_
     refine sdo A (zf M TrB_isS_30 rfl 0 rfl (cs := [.int .i64 d.k, .int .i64 0, .bool d.y.q.b1, .slice d.y.o1 d.y.q.t1.length d.y.c1, .slice d.y.o2 d.y.q.q1.length d.y.c2, .bool d.y.q.b2, .slice d.y.o3 d.y.q.t2.length d.y.c3, .slice d.y.o4 d.y.q.q2.length d.y.c4, .string d.s, .slice d.ro d.rl.length d.rc, .slice d.lo ts.length d.lc]) rfl rfl) λa A↦?_
     refine qi A rfl rfl rfl (qf rfl rfl (fun w => by kernel_rfl)) (vd (by first | exact hq1 | omega) (by first | exact hq2 | omega) (by first | exact hq3 | omega) (by first | exact hq4 | omega) rfl) ?_
     rintro _ w23 ⟨rfl, hb22⟩
     replace M := M.call hb22
     refine ⟨_, rfl, ?_⟩
     intro a A
     refine sdo (v := .bool (jo 0 d.y.q.b1 d.y.q.t1.length d.y.q.q1.length d.y.q.b2 d.y.q.t2.length d.y.q.q2.length d.s d.rl.length ts.length)) A (jk rfl rfl rfl rfl) λa A↦?_
     refine sda A λa A↦?_
     refine qa (hK21 _ _ (wp_ret (hret _ _ (en1 A rfl (qh rfl) ?_))))
     exact ⟨by rw [show zd d.k d.n d.y.q d.s d.rl.length ts.length = jo 0 d.y.q.b1 d.y.q.t1.length d.y.q.q1.length d.y.q.b2 d.y.q.t2.length d.y.q.q2.length d.s d.rl.length ts.length from by
      unfold zd
      repeat (first | rw [if_pos (by omega)] | rw [if_neg (by omega)])
      try simp_all
      try omega], M.bel⟩
    ·
     have hb19' := ne_of_beq_false hb19
     refine sdo (v := .bool false) A (qb rfl rfl (fun w => (ql w).trans (by rw [hb19]))) λa A↦?_
     refine sdm A λa A↦?_
     refine sdo (v := .pointer (some ⟨g2, 1, none⟩)) A (qe TrB_fld_30_1 rfl rfl) λa A↦?_
     refine sdo A (qm M TrB_is1_3 rfl 0 rfl rfl) λa A↦?_
     rcases tf ((d.n == 1)) with hb24 | hb24
     ·
      have hb24' := eq_of_beq hb24
      refine sdo (v := .bool true) A (qb rfl rfl (fun w => (ql w).trans (by rw [hb24]))) λa A↦?_
      refine sdk (v := .bool true) A λa A↦?_
      refine sda A λa A↦?_
      refine sdo (v := .pointer (some ⟨g2, 1, none⟩)) A (qe TrB_fld_30_1 rfl rfl) λa A↦?_
      refine js (us := [.int .i64 d.k, .int .i64 0, .bool d.y.q.b1, .slice d.y.o1 d.y.q.t1.length d.y.c1, .slice d.y.o2 d.y.q.q1.length d.y.c2, .bool d.y.q.b2, .slice d.y.o3 d.y.q.t2.length d.y.c3, .slice d.y.o4 d.y.q.q2.length d.y.c4, .string d.s, .slice d.ro d.rl.length d.rc, .slice d.lo ts.length d.lc]) (L' := (.obj g2 (.cells #[.int .i64 d.k, .int .i64 0, .bool d.y.q.b1, .slice d.y.o1 d.y.q.t1.length d.y.c1, .slice d.y.o2 d.y.q.q1.length d.y.c2, .bool d.y.q.b2, .slice d.y.o3 d.y.q.t2.length d.y.c3, .slice d.y.o4 d.y.q.q2.length d.y.c4, .string d.s, .slice d.ro d.rl.length d.rc, .slice d.lo ts.length d.lc] 30) :: [])) A M rfl rfl (jh rfl rfl rfl (by kernel_rfl) M 0 rfl rfl rfl) 0 rfl rfl rfl ?_
      intro w25 M
      refine qa (hK5 _ _ (wsk fun K26 hK26 => wrl ?_))
      iterate 2 refine sdm A λa A↦?_
      refine sdo A (zf M TrB_isS_30 rfl 0 rfl (cs := [.int .i64 d.k, .int .i64 0, .bool d.y.q.b1, .slice d.y.o1 d.y.q.t1.length d.y.c1, .slice d.y.o2 d.y.q.q1.length d.y.c2, .bool d.y.q.b2, .slice d.y.o3 d.y.q.t2.length d.y.c3, .slice d.y.o4 d.y.q.q2.length d.y.c4, .string d.s, .slice d.ro d.rl.length d.rc, .slice d.lo ts.length d.lc]) rfl rfl) λa A↦?_
      refine qi A rfl rfl rfl (qf rfl rfl (fun w => by kernel_rfl)) (vd (by first | exact hq1 | omega) (by first | exact hq2 | omega) (by first | exact hq3 | omega) (by first | exact hq4 | omega) rfl) ?_
      rintro _ w28 ⟨rfl, hb27⟩
      replace M := M.call hb27
      refine ⟨_, rfl, ?_⟩
      intro a A
      refine sdo (v := .bool (jo 0 d.y.q.b1 d.y.q.t1.length d.y.q.q1.length d.y.q.b2 d.y.q.t2.length d.y.q.q2.length d.s d.rl.length ts.length)) A (jk rfl rfl rfl rfl) λa A↦?_
      refine sda A λa A↦?_
      refine qa (hK26 _ _ (wp_ret (hret _ _ (en1 A rfl (qh rfl) ?_))))
      exact ⟨by rw [show zd d.k d.n d.y.q d.s d.rl.length ts.length = jo 0 d.y.q.b1 d.y.q.t1.length d.y.q.q1.length d.y.q.b2 d.y.q.t2.length d.y.q.q2.length d.s d.rl.length ts.length from by
       unfold zd
       repeat (first | rw [if_pos (by omega)] | rw [if_neg (by omega)])
       try simp_all
       try omega], M.bel⟩
     ·
      have hb24' := ne_of_beq_false hb24
      refine sdo (v := .bool false) A (qb rfl rfl (fun w => (ql w).trans (by rw [hb24]))) λa A↦?_
      refine sdk (v := .bool false) A λa A↦?_
      refine sda A λa A↦?_
      refine sdo (v := .pointer (some ⟨g2, 1, none⟩)) A (qe TrB_fld_30_1 rfl rfl) λa A↦?_
      refine js (us := [.int .i64 d.k, .int .i64 0, .bool d.y.q.b1, .slice d.y.o1 d.y.q.t1.length d.y.c1, .slice d.y.o2 d.y.q.q1.length d.y.c2, .bool d.y.q.b2, .slice d.y.o3 d.y.q.t2.length d.y.c3, .slice d.y.o4 d.y.q.q2.length d.y.c4, .string d.s, .slice d.ro d.rl.length d.rc, .slice d.lo ts.length d.lc]) (L' := (.obj g2 (.cells #[.int .i64 d.k, .int .i64 0, .bool d.y.q.b1, .slice d.y.o1 d.y.q.t1.length d.y.c1, .slice d.y.o2 d.y.q.q1.length d.y.c2, .bool d.y.q.b2, .slice d.y.o3 d.y.q.t2.length d.y.c3, .slice d.y.o4 d.y.q.q2.length d.y.c4, .string d.s, .slice d.ro d.rl.length d.rc, .slice d.lo ts.length d.lc] 30) :: [])) A M rfl rfl (jh rfl rfl rfl (by kernel_rfl) M 0 rfl rfl rfl) 0 rfl rfl rfl ?_
      intro w29 M
      refine qa (hK5 _ _ (wsk fun K30 hK30 => wrl ?_))
      iterate 2 refine sdm A λa A↦?_
      iterate 2 refine qk A rfl rfl rfl λa A↦?_
      refine sdk (v := .bool false) A λa A↦?_
      refine sda A λa A↦?_
      refine qa (hK30 _ _ (wp_ret (hret _ _ (en1 A rfl (qh rfl) ?_))))
      exact ⟨by rw [show zd d.k d.n d.y.q d.s d.rl.length ts.length = false from by
       unfold zd
       repeat (first | rw [if_pos (by omega)] | rw [if_neg (by omega)])
       try simp_all
       try omega], M.bel⟩
   ·
    have hb18' := ne_of_beq_false hb18
    refine sdo (v := .bool false) A (qb rfl rfl (fun w => (ql w).trans (by rw [hb18]))) λa A↦?_
    refine sda A λa A↦?_
    refine qa (hK17 _ _ (wp_cond_false (A.ev rfl) ?_))
    refine wsk fun K31 hK31 => wrl ?_
    rcases tf ((d.k == 3)) with hb32 | hb32
    ·
     have hb32' := eq_of_beq hb32
     refine sdo (v := .bool true) A (qb rfl rfl (fun w => (ql w).trans (by rw [hb32]))) λa A↦?_
     refine sda A λa A↦?_
     refine qa (hK31 _ _ (wp_cond_true (A.ev rfl) ?_))
     refine wrl (sdo (v := .pointer (some ⟨g2, 2, none⟩)) A (qe TrB_fld_30_2 rfl rfl) λa A↦?_)
     refine sdo A (zf M TrB_isS_26 rfl 0 rfl (cs := [.bool d.y.q.b1, .slice d.y.o1 d.y.q.t1.length d.y.c1, .slice d.y.o2 d.y.q.q1.length d.y.c2, .bool d.y.q.b2, .slice d.y.o3 d.y.q.t2.length d.y.c3, .slice d.y.o4 d.y.q.q2.length d.y.c4]) rfl rfl) λa A↦?_
     rcases tf (jw d.y.q) with hb33 | hb33
     ·
      refine qi A rfl rfl rfl (qf rfl rfl (fun w => by kernel_rfl)) (ki (Nu.below hok.num M.bel) hok.len hb33) ?_
      rintro _ w35 ⟨rfl, hb34⟩
      replace M := M.call hb34
      refine ⟨_, rfl, ?_⟩
      intro a A
      refine sdo (v := .agg #[.bool false, .slice none 0 0, .slice none 0 0, .bool false, .slice none 0 0, .slice none 0 0]) A (zb rfl (fun w => by kernel_rfl)) λa A↦?_
      refine sda A λa A↦?_
      refine sdo (v := .pointer (some ⟨g2, 2, none⟩)) A (qe TrB_fld_30_2 rfl rfl) λa A↦?_
      refine js (us := [.int .i64 d.k, .int .i64 d.n, .bool false, .slice none 0 0, .slice none 0 0, .bool false, .slice none 0 0, .slice none 0 0, .string d.s, .slice d.ro d.rl.length d.rc, .slice d.lo ts.length d.lc]) (L' := (.obj g2 (.cells #[.int .i64 d.k, .int .i64 d.n, .bool false, .slice none 0 0, .slice none 0 0, .bool false, .slice none 0 0, .slice none 0 0, .string d.s, .slice d.ro d.rl.length d.rc, .slice d.lo ts.length d.lc] 30) :: [])) A M rfl rfl (jh rfl rfl rfl (by kernel_rfl) M 0 rfl rfl rfl) 0 rfl rfl rfl ?_
      intro w36 M
      refine qa (hK5 _ _ (wsk fun K37 hK37 => wrl ?_))
      iterate 2 refine sdm A λa A↦?_
      refine sdo A (zf M TrB_isS_30 rfl 0 rfl (cs := [.int .i64 d.k, .int .i64 d.n, .bool false, .slice none 0 0, .slice none 0 0, .bool false, .slice none 0 0, .slice none 0 0, .string d.s, .slice d.ro d.rl.length d.rc, .slice d.lo ts.length d.lc]) rfl rfl) λa A↦?_
      refine qi A rfl rfl rfl (qf rfl rfl (fun w => by kernel_rfl)) (vd (by first | exact hq1 | omega) (by first | exact hq2 | omega) (by first | exact hq3 | omega) (by first | exact hq4 | omega) rfl) ?_
      rintro _ w39 ⟨rfl, hb38⟩
      replace M := M.call hb38
      refine ⟨_, rfl, ?_⟩
      intro a A
      refine sdo (v := .bool (jo d.n false 0 0 false 0 0 d.s d.rl.length ts.length)) A (jk rfl rfl rfl rfl) λa A↦?_
      refine sda A λa A↦?_
      refine qa (hK37 _ _ (wp_ret (hret _ _ (en1 A rfl (qh rfl) ?_))))
      exact ⟨by rw [show zd d.k d.n d.y.q d.s d.rl.length ts.length = jo d.n false 0 0 false 0 0 d.s d.rl.length ts.length from by
       unfold zd
       repeat (first | rw [if_pos (by omega)] | rw [if_neg (by omega)])
       try simp_all
       try omega], M.bel⟩
     ·
      refine qi A rfl rfl rfl (qf rfl rfl (fun w => by kernel_rfl)) (ki (Nu.below hok.num M.bel) hok.len hb33) ?_
      rintro _ w41 ⟨rfl, hb40⟩
      replace M := M.call hb40
      refine ⟨_, rfl, ?_⟩
      intro a A
      refine sdo (v := .agg #[.bool false, .slice none 0 0, .slice none 0 0, .bool false, .slice none 0 0, .slice none 0 0]) A (zb rfl (fun w => by kernel_rfl)) λa A↦?_
      refine sda A λa A↦?_
      refine sdo (v := .pointer (some ⟨g2, 2, none⟩)) A (qe TrB_fld_30_2 rfl rfl) λa A↦?_
      refine js (us := [.int .i64 d.k, .int .i64 d.n, .bool false, .slice none 0 0, .slice none 0 0, .bool false, .slice none 0 0, .slice none 0 0, .string d.s, .slice d.ro d.rl.length d.rc, .slice d.lo ts.length d.lc]) (L' := (.obj g2 (.cells #[.int .i64 d.k, .int .i64 d.n, .bool false, .slice none 0 0, .slice none 0 0, .bool false, .slice none 0 0, .slice none 0 0, .string d.s, .slice d.ro d.rl.length d.rc, .slice d.lo ts.length d.lc] 30) :: [])) A M rfl rfl (jh rfl rfl rfl (by kernel_rfl) M 0 rfl rfl rfl) 0 rfl rfl rfl ?_
      intro w42 M
      refine qa (hK5 _ _ (wsk fun K43 hK43 => wrl ?_))
      iterate 2 refine sdm A λa A↦?_
      iterate 2 refine qk A rfl rfl rfl λa A↦?_
      refine sdk (v := .bool false) A λa A↦?_
      refine sda A λa A↦?_
      refine qa (hK43 _ _ (wp_ret (hret _ _ (en1 A rfl (qh rfl) ?_))))
      exact ⟨by rw [show zd d.k d.n d.y.q d.s d.rl.length ts.length = false from by
       unfold zd
       repeat (first | rw [if_pos (by omega)] | rw [if_neg (by omega)])
       try simp_all
       try omega], M.bel⟩
    ·
     have hb32' := ne_of_beq_false hb32
     refine sdo (v := .bool false) A (qb rfl rfl (fun w => (ql w).trans (by rw [hb32]))) λa A↦?_
     refine sda A λa A↦?_
     refine qa (hK31 _ _ (wp_cond_false (A.ev rfl) ?_))
     refine wsk fun K44 hK44 => wrl ?_
     rcases tf ((d.k == 4)) with hb45 | hb45
     ·
      have hb45' := eq_of_beq hb45
      refine sdo (v := .bool true) A (qb rfl rfl (fun w => (ql w).trans (by rw [hb45]))) λa A↦?_
      refine sda A λa A↦?_
      refine qa (hK44 _ _ (wp_cond_true (A.ev rfl) ?_))
      refine wrl (sdo (v := .pointer (some ⟨g2, 1, none⟩)) A (qe TrB_fld_30_1 rfl rfl) λa A↦?_)
      refine sdo A (qm M TrB_is1_3 rfl 0 rfl rfl) λa A↦?_
      rcases tf (ku d.n) with hb46 | hb46
      ·
       refine qi A rfl rfl rfl (qf rfl rfl (fun w => by kernel_rfl)) ((hb46 ▸ isCh_any)) ?_
       rintro _ w48 ⟨rfl, hb47⟩
       replace M := M.call hb47
       refine ⟨_, rfl, ?_⟩
       intro a A
       refine sda A λa A↦?_
       refine sdo (v := .pointer (some ⟨g2, 1, none⟩)) A (qe TrB_fld_30_1 rfl rfl) λa A↦?_
       refine js (us := [.int .i64 d.k, .int .i64 0, .bool d.y.q.b1, .slice d.y.o1 d.y.q.t1.length d.y.c1, .slice d.y.o2 d.y.q.q1.length d.y.c2, .bool d.y.q.b2, .slice d.y.o3 d.y.q.t2.length d.y.c3, .slice d.y.o4 d.y.q.q2.length d.y.c4, .string d.s, .slice d.ro d.rl.length d.rc, .slice d.lo ts.length d.lc]) (L' := (.obj g2 (.cells #[.int .i64 d.k, .int .i64 0, .bool d.y.q.b1, .slice d.y.o1 d.y.q.t1.length d.y.c1, .slice d.y.o2 d.y.q.q1.length d.y.c2, .bool d.y.q.b2, .slice d.y.o3 d.y.q.t2.length d.y.c3, .slice d.y.o4 d.y.q.q2.length d.y.c4, .string d.s, .slice d.ro d.rl.length d.rc, .slice d.lo ts.length d.lc] 30) :: [])) A M rfl rfl (jh rfl rfl rfl (by kernel_rfl) M 0 rfl rfl rfl) 0 rfl rfl rfl ?_
       intro w49 M
       refine qa (hK5 _ _ (wsk fun K50 hK50 => wrl ?_))
       iterate 2 refine sdm A λa A↦?_
       refine sdo A (zf M TrB_isS_30 rfl 0 rfl (cs := [.int .i64 d.k, .int .i64 0, .bool d.y.q.b1, .slice d.y.o1 d.y.q.t1.length d.y.c1, .slice d.y.o2 d.y.q.q1.length d.y.c2, .bool d.y.q.b2, .slice d.y.o3 d.y.q.t2.length d.y.c3, .slice d.y.o4 d.y.q.q2.length d.y.c4, .string d.s, .slice d.ro d.rl.length d.rc, .slice d.lo ts.length d.lc]) rfl rfl) λa A↦?_
       refine qi A rfl rfl rfl (qf rfl rfl (fun w => by kernel_rfl)) (vd (by first | exact hq1 | omega) (by first | exact hq2 | omega) (by first | exact hq3 | omega) (by first | exact hq4 | omega) rfl) ?_
       rintro _ w52 ⟨rfl, hb51⟩
       replace M := M.call hb51
       refine ⟨_, rfl, ?_⟩
       intro a A
       refine sdo (v := .bool (jo 0 d.y.q.b1 d.y.q.t1.length d.y.q.q1.length d.y.q.b2 d.y.q.t2.length d.y.q.q2.length d.s d.rl.length ts.length)) A (jk rfl rfl rfl rfl) λa A↦?_
       refine sda A λa A↦?_
       refine qa (hK50 _ _ (wp_ret (hret _ _ (en1 A rfl (qh rfl) ?_))))
       exact ⟨by rw [show zd d.k d.n d.y.q d.s d.rl.length ts.length = jo 0 d.y.q.b1 d.y.q.t1.length d.y.q.q1.length d.y.q.b2 d.y.q.t2.length d.y.q.q2.length d.s d.rl.length ts.length from by
        unfold zd
        repeat (first | rw [if_pos (by omega)] | rw [if_neg (by omega)])
        try simp_all
        try omega], M.bel⟩
      ·
       refine qi A rfl rfl rfl (qf rfl rfl (fun w => by kernel_rfl)) ((hb46 ▸ isCh_any)) ?_
       rintro _ w54 ⟨rfl, hb53⟩
       replace M := M.call hb53
       refine ⟨_, rfl, ?_⟩
       intro a A
       refine sda A λa A↦?_
       refine sdo (v := .pointer (some ⟨g2, 1, none⟩)) A (qe TrB_fld_30_1 rfl rfl) λa A↦?_
       refine js (us := [.int .i64 d.k, .int .i64 0, .bool d.y.q.b1, .slice d.y.o1 d.y.q.t1.length d.y.c1, .slice d.y.o2 d.y.q.q1.length d.y.c2, .bool d.y.q.b2, .slice d.y.o3 d.y.q.t2.length d.y.c3, .slice d.y.o4 d.y.q.q2.length d.y.c4, .string d.s, .slice d.ro d.rl.length d.rc, .slice d.lo ts.length d.lc]) (L' := (.obj g2 (.cells #[.int .i64 d.k, .int .i64 0, .bool d.y.q.b1, .slice d.y.o1 d.y.q.t1.length d.y.c1, .slice d.y.o2 d.y.q.q1.length d.y.c2, .bool d.y.q.b2, .slice d.y.o3 d.y.q.t2.length d.y.c3, .slice d.y.o4 d.y.q.q2.length d.y.c4, .string d.s, .slice d.ro d.rl.length d.rc, .slice d.lo ts.length d.lc] 30) :: [])) A M rfl rfl (jh rfl rfl rfl (by kernel_rfl) M 0 rfl rfl rfl) 0 rfl rfl rfl ?_
       intro w55 M
       refine qa (hK5 _ _ (wsk fun K56 hK56 => wrl ?_))
       iterate 2 refine sdm A λa A↦?_
       iterate 2 refine qk A rfl rfl rfl λa A↦?_
       refine sdk (v := .bool false) A λa A↦?_
       refine sda A λa A↦?_
       refine qa (hK56 _ _ (wp_ret (hret _ _ (en1 A rfl (qh rfl) ?_))))
       exact ⟨by rw [show zd d.k d.n d.y.q d.s d.rl.length ts.length = false from by
        unfold zd
        repeat (first | rw [if_pos (by omega)] | rw [if_neg (by omega)])
        try simp_all
        try omega], M.bel⟩
     ·
      have hb45' := ne_of_beq_false hb45
      refine sdo (v := .bool false) A (qb rfl rfl (fun w => (ql w).trans (by rw [hb45]))) λa A↦?_
      refine sda A λa A↦?_
      refine qa (hK44 _ _ (wp_cond_false (A.ev rfl) ?_))
      refine wsk fun K57 hK57 => wsk fun K58 hK58 => wrl ?_
      rcases tf ((d.k == 5)) with hb59 | hb59
      ·
       have hb59' := eq_of_beq hb59
       refine sdo (v := .bool true) A (qb rfl rfl (fun w => (ql w).trans (by rw [hb59]))) λa A↦?_
       refine sda A λa A↦?_
       refine qa (hK58 _ _ (wp_cond_true (A.ev rfl) ?_))
       refine wp_skip (hK57 _ _ (wp_cond_true (A.ev rfl) ?_))
       refine wrl (sdo (v := .pointer (some ⟨g2, 8, none⟩)) A (qe TrB_fld_30_3 rfl rfl) λa A↦?_)
       refine sdo A (qm M TrB_is1_9 rfl 0 rfl rfl) λa A↦?_
       rcases tf (okS d.s) with hb60 | hb60
       ·
        refine qi A rfl rfl rfl (qf rfl rfl (fun w => by kernel_rfl)) (yl hok.smax (hT.below M.bel) hb60) ?_
        rintro _ w62 ⟨rfl, hb61⟩
        replace M := M.call hb61
        refine ⟨_, rfl, ?_⟩
        intro a A
        refine sda A λa A↦?_
        refine sdo (v := .pointer (some ⟨g2, 8, none⟩)) A (qe TrB_fld_30_3 rfl rfl) λa A↦?_
        refine js (us := [.int .i64 d.k, .int .i64 d.n, .bool d.y.q.b1, .slice d.y.o1 d.y.q.t1.length d.y.c1, .slice d.y.o2 d.y.q.q1.length d.y.c2, .bool d.y.q.b2, .slice d.y.o3 d.y.q.t2.length d.y.c3, .slice d.y.o4 d.y.q.q2.length d.y.c4, .string (⟨#[]⟩), .slice d.ro d.rl.length d.rc, .slice d.lo ts.length d.lc]) (L' := (.obj g2 (.cells #[.int .i64 d.k, .int .i64 d.n, .bool d.y.q.b1, .slice d.y.o1 d.y.q.t1.length d.y.c1, .slice d.y.o2 d.y.q.q1.length d.y.c2, .bool d.y.q.b2, .slice d.y.o3 d.y.q.t2.length d.y.c3, .slice d.y.o4 d.y.q.q2.length d.y.c4, .string (⟨#[]⟩), .slice d.ro d.rl.length d.rc, .slice d.lo ts.length d.lc] 30) :: [])) A M rfl rfl (jh rfl rfl rfl (by kernel_rfl) M 0 rfl rfl rfl) 0 rfl rfl rfl ?_
        intro w63 M
        refine qa (hK5 _ _ (wsk fun K64 hK64 => wrl ?_))
        iterate 2 refine sdm A λa A↦?_
        refine sdo A (zf M TrB_isS_30 rfl 0 rfl (cs := [.int .i64 d.k, .int .i64 d.n, .bool d.y.q.b1, .slice d.y.o1 d.y.q.t1.length d.y.c1, .slice d.y.o2 d.y.q.q1.length d.y.c2, .bool d.y.q.b2, .slice d.y.o3 d.y.q.t2.length d.y.c3, .slice d.y.o4 d.y.q.q2.length d.y.c4, .string (⟨#[]⟩), .slice d.ro d.rl.length d.rc, .slice d.lo ts.length d.lc]) rfl rfl) λa A↦?_
        refine qi A rfl rfl rfl (qf rfl rfl (fun w => by kernel_rfl)) (vd (by first | exact hq1 | omega) (by first | exact hq2 | omega) (by first | exact hq3 | omega) (by first | exact hq4 | omega) rfl) ?_
        rintro _ w66 ⟨rfl, hb65⟩
        replace M := M.call hb65
        refine ⟨_, rfl, ?_⟩
        intro a A
        refine sdo (v := .bool (jo d.n d.y.q.b1 d.y.q.t1.length d.y.q.q1.length d.y.q.b2 d.y.q.t2.length d.y.q.q2.length (⟨#[]⟩) d.rl.length ts.length)) A (jk rfl rfl rfl rfl) λa A↦?_
        refine sda A λa A↦?_
        refine qa (hK64 _ _ (wp_ret (hret _ _ (en1 A rfl (qh rfl) ?_))))
        exact ⟨by rw [show zd d.k d.n d.y.q d.s d.rl.length ts.length = jo d.n d.y.q.b1 d.y.q.t1.length d.y.q.q1.length d.y.q.b2 d.y.q.t2.length d.y.q.q2.length (⟨#[]⟩) d.rl.length ts.length from by
         unfold zd
         repeat (first | rw [if_pos (by omega)] | rw [if_neg (by omega)])
         try simp_all
         try omega], M.bel⟩
       ·
        refine qi A rfl rfl rfl (qf rfl rfl (fun w => by kernel_rfl)) (yl hok.smax (hT.below M.bel) hb60) ?_
        rintro _ w68 ⟨rfl, hb67⟩
        replace M := M.call hb67
        refine ⟨_, rfl, ?_⟩
        intro a A
        refine sda A λa A↦?_
        refine sdo (v := .pointer (some ⟨g2, 8, none⟩)) A (qe TrB_fld_30_3 rfl rfl) λa A↦?_
        refine js (us := [.int .i64 d.k, .int .i64 d.n, .bool d.y.q.b1, .slice d.y.o1 d.y.q.t1.length d.y.c1, .slice d.y.o2 d.y.q.q1.length d.y.c2, .bool d.y.q.b2, .slice d.y.o3 d.y.q.t2.length d.y.c3, .slice d.y.o4 d.y.q.q2.length d.y.c4, .string (⟨#[]⟩), .slice d.ro d.rl.length d.rc, .slice d.lo ts.length d.lc]) (L' := (.obj g2 (.cells #[.int .i64 d.k, .int .i64 d.n, .bool d.y.q.b1, .slice d.y.o1 d.y.q.t1.length d.y.c1, .slice d.y.o2 d.y.q.q1.length d.y.c2, .bool d.y.q.b2, .slice d.y.o3 d.y.q.t2.length d.y.c3, .slice d.y.o4 d.y.q.q2.length d.y.c4, .string (⟨#[]⟩), .slice d.ro d.rl.length d.rc, .slice d.lo ts.length d.lc] 30) :: [])) A M rfl rfl (jh rfl rfl rfl (by kernel_rfl) M 0 rfl rfl rfl) 0 rfl rfl rfl ?_
        intro w69 M
        refine qa (hK5 _ _ (wsk fun K70 hK70 => wrl ?_))
        iterate 2 refine sdm A λa A↦?_
        iterate 2 refine qk A rfl rfl rfl λa A↦?_
        refine sdk (v := .bool false) A λa A↦?_
        refine sda A λa A↦?_
        refine qa (hK70 _ _ (wp_ret (hret _ _ (en1 A rfl (qh rfl) ?_))))
        exact ⟨by rw [show zd d.k d.n d.y.q d.s d.rl.length ts.length = false from by
         unfold zd
         repeat (first | rw [if_pos (by omega)] | rw [if_neg (by omega)])
         try simp_all
         try omega], M.bel⟩
      ·
       have hb59' := ne_of_beq_false hb59
       refine sdo (v := .bool false) A (qb rfl rfl (fun w => (ql w).trans (by rw [hb59]))) λa A↦?_
       refine sda A λa A↦?_
       refine qa (hK58 _ _ (wp_cond_false (A.ev rfl) ?_))
       refine wsk fun K71 hK71 => wrl ?_
       rcases tf ((d.k == 6)) with hb72 | hb72
       ·
        have hb72' := eq_of_beq hb72
        refine sdo (v := .bool true) A (qb rfl rfl (fun w => (ql w).trans (by rw [hb72]))) λa A↦?_
        refine sda A λa A↦?_
        refine qa (hK71 _ _ (wp_cond_true (A.ev rfl) ?_))
        refine wp_skip (hK57 _ _ (wp_cond_true (A.ev rfl) ?_))
        refine wrl (sdo (v := .pointer (some ⟨g2, 8, none⟩)) A (qe TrB_fld_30_3 rfl rfl) λa A↦?_)
        refine sdo A (qm M TrB_is1_9 rfl 0 rfl rfl) λa A↦?_
        rcases tf (okS d.s) with hb73 | hb73
        ·
         refine qi A rfl rfl rfl (qf rfl rfl (fun w => by kernel_rfl)) (yl hok.smax (hT.below M.bel) hb73) ?_
         rintro _ w75 ⟨rfl, hb74⟩
         replace M := M.call hb74
         refine ⟨_, rfl, ?_⟩
         intro a A
         refine sda A λa A↦?_
         refine sdo (v := .pointer (some ⟨g2, 8, none⟩)) A (qe TrB_fld_30_3 rfl rfl) λa A↦?_
         refine js (us := [.int .i64 d.k, .int .i64 d.n, .bool d.y.q.b1, .slice d.y.o1 d.y.q.t1.length d.y.c1, .slice d.y.o2 d.y.q.q1.length d.y.c2, .bool d.y.q.b2, .slice d.y.o3 d.y.q.t2.length d.y.c3, .slice d.y.o4 d.y.q.q2.length d.y.c4, .string (⟨#[]⟩), .slice d.ro d.rl.length d.rc, .slice d.lo ts.length d.lc]) (L' := (.obj g2 (.cells #[.int .i64 d.k, .int .i64 d.n, .bool d.y.q.b1, .slice d.y.o1 d.y.q.t1.length d.y.c1, .slice d.y.o2 d.y.q.q1.length d.y.c2, .bool d.y.q.b2, .slice d.y.o3 d.y.q.t2.length d.y.c3, .slice d.y.o4 d.y.q.q2.length d.y.c4, .string (⟨#[]⟩), .slice d.ro d.rl.length d.rc, .slice d.lo ts.length d.lc] 30) :: [])) A M rfl rfl (jh rfl rfl rfl (by kernel_rfl) M 0 rfl rfl rfl) 0 rfl rfl rfl ?_
         intro w76 M
         refine qa (hK5 _ _ (wsk fun K77 hK77 => wrl ?_))
         iterate 2 refine sdm A λa A↦?_
         refine sdo A (zf M TrB_isS_30 rfl 0 rfl (cs := [.int .i64 d.k, .int .i64 d.n, .bool d.y.q.b1, .slice d.y.o1 d.y.q.t1.length d.y.c1, .slice d.y.o2 d.y.q.q1.length d.y.c2, .bool d.y.q.b2, .slice d.y.o3 d.y.q.t2.length d.y.c3, .slice d.y.o4 d.y.q.q2.length d.y.c4, .string (⟨#[]⟩), .slice d.ro d.rl.length d.rc, .slice d.lo ts.length d.lc]) rfl rfl) λa A↦?_
         refine qi A rfl rfl rfl (qf rfl rfl (fun w => by kernel_rfl)) (vd (by first | exact hq1 | omega) (by first | exact hq2 | omega) (by first | exact hq3 | omega) (by first | exact hq4 | omega) rfl) ?_
         rintro _ w79 ⟨rfl, hb78⟩
         replace M := M.call hb78
         refine ⟨_, rfl, ?_⟩
         intro a A
         refine sdo (v := .bool (jo d.n d.y.q.b1 d.y.q.t1.length d.y.q.q1.length d.y.q.b2 d.y.q.t2.length d.y.q.q2.length (⟨#[]⟩) d.rl.length ts.length)) A (jk rfl rfl rfl rfl) λa A↦?_
         refine sda A λa A↦?_
         refine qa (hK77 _ _ (wp_ret (hret _ _ (en1 A rfl (qh rfl) ?_))))
         exact ⟨by rw [show zd d.k d.n d.y.q d.s d.rl.length ts.length = jo d.n d.y.q.b1 d.y.q.t1.length d.y.q.q1.length d.y.q.b2 d.y.q.t2.length d.y.q.q2.length (⟨#[]⟩) d.rl.length ts.length from by
          unfold zd
          repeat (first | rw [if_pos (by omega)] | rw [if_neg (by omega)])
          try simp_all
          try omega], M.bel⟩
        ·
         refine qi A rfl rfl rfl (qf rfl rfl (fun w => by kernel_rfl)) (yl hok.smax (hT.below M.bel) hb73) ?_
         rintro _ w81 ⟨rfl, hb80⟩
         replace M := M.call hb80
         refine ⟨_, rfl, ?_⟩
         intro a A
         refine sda A λa A↦?_
         refine sdo (v := .pointer (some ⟨g2, 8, none⟩)) A (qe TrB_fld_30_3 rfl rfl) λa A↦?_
         refine js (us := [.int .i64 d.k, .int .i64 d.n, .bool d.y.q.b1, .slice d.y.o1 d.y.q.t1.length d.y.c1, .slice d.y.o2 d.y.q.q1.length d.y.c2, .bool d.y.q.b2, .slice d.y.o3 d.y.q.t2.length d.y.c3, .slice d.y.o4 d.y.q.q2.length d.y.c4, .string (⟨#[]⟩), .slice d.ro d.rl.length d.rc, .slice d.lo ts.length d.lc]) (L' := (.obj g2 (.cells #[.int .i64 d.k, .int .i64 d.n, .bool d.y.q.b1, .slice d.y.o1 d.y.q.t1.length d.y.c1, .slice d.y.o2 d.y.q.q1.length d.y.c2, .bool d.y.q.b2, .slice d.y.o3 d.y.q.t2.length d.y.c3, .slice d.y.o4 d.y.q.q2.length d.y.c4, .string (⟨#[]⟩), .slice d.ro d.rl.length d.rc, .slice d.lo ts.length d.lc] 30) :: [])) A M rfl rfl (jh rfl rfl rfl (by kernel_rfl) M 0 rfl rfl rfl) 0 rfl rfl rfl ?_
         intro w82 M
         refine qa (hK5 _ _ (wsk fun K83 hK83 => wrl ?_))
         iterate 2 refine sdm A λa A↦?_
         iterate 2 refine qk A rfl rfl rfl λa A↦?_
         refine sdk (v := .bool false) A λa A↦?_
         refine sda A λa A↦?_
         refine qa (hK83 _ _ (wp_ret (hret _ _ (en1 A rfl (qh rfl) ?_))))
         exact ⟨by rw [show zd d.k d.n d.y.q d.s d.rl.length ts.length = false from by
          unfold zd
          repeat (first | rw [if_pos (by omega)] | rw [if_neg (by omega)])
          try simp_all
          try omega], M.bel⟩
       ·
        have hb72' := ne_of_beq_false hb72
        refine sdo (v := .bool false) A (qb rfl rfl (fun w => (ql w).trans (by rw [hb72]))) λa A↦?_
        refine sda A λa A↦?_
        refine qa (hK71 _ _ (wp_cond_false (A.ev rfl) ?_))
        refine wrl ?_
        rcases tf ((d.k == 11)) with hb84 | hb84
        ·
         have hb84' := eq_of_beq hb84
         refine sdo (v := .bool true) A (qb rfl rfl (fun w => (ql w).trans (by rw [hb84]))) λa A↦?_
         refine sda A λa A↦?_
         refine qa (hK57 _ _ (wp_cond_true (A.ev rfl) ?_))
         refine wrl (sdo (v := .pointer (some ⟨g2, 8, none⟩)) A (qe TrB_fld_30_3 rfl rfl) λa A↦?_)
         refine sdo A (qm M TrB_is1_9 rfl 0 rfl rfl) λa A↦?_
         rcases tf (okS d.s) with hb85 | hb85
         ·
          refine qi A rfl rfl rfl (qf rfl rfl (fun w => by kernel_rfl)) (yl hok.smax (hT.below M.bel) hb85) ?_
          rintro _ w87 ⟨rfl, hb86⟩
          replace M := M.call hb86
          refine ⟨_, rfl, ?_⟩
          intro a A
          refine sda A λa A↦?_
          refine sdo (v := .pointer (some ⟨g2, 8, none⟩)) A (qe TrB_fld_30_3 rfl rfl) λa A↦?_
          refine js (us := [.int .i64 d.k, .int .i64 d.n, .bool d.y.q.b1, .slice d.y.o1 d.y.q.t1.length d.y.c1, .slice d.y.o2 d.y.q.q1.length d.y.c2, .bool d.y.q.b2, .slice d.y.o3 d.y.q.t2.length d.y.c3, .slice d.y.o4 d.y.q.q2.length d.y.c4, .string (⟨#[]⟩), .slice d.ro d.rl.length d.rc, .slice d.lo ts.length d.lc]) (L' := (.obj g2 (.cells #[.int .i64 d.k, .int .i64 d.n, .bool d.y.q.b1, .slice d.y.o1 d.y.q.t1.length d.y.c1, .slice d.y.o2 d.y.q.q1.length d.y.c2, .bool d.y.q.b2, .slice d.y.o3 d.y.q.t2.length d.y.c3, .slice d.y.o4 d.y.q.q2.length d.y.c4, .string (⟨#[]⟩), .slice d.ro d.rl.length d.rc, .slice d.lo ts.length d.lc] 30) :: [])) A M rfl rfl (jh rfl rfl rfl (by kernel_rfl) M 0 rfl rfl rfl) 0 rfl rfl rfl ?_
          intro w88 M
          refine qa (hK5 _ _ (wsk fun K89 hK89 => wrl ?_))
          iterate 2 refine sdm A λa A↦?_
          refine sdo A (zf M TrB_isS_30 rfl 0 rfl (cs := [.int .i64 d.k, .int .i64 d.n, .bool d.y.q.b1, .slice d.y.o1 d.y.q.t1.length d.y.c1, .slice d.y.o2 d.y.q.q1.length d.y.c2, .bool d.y.q.b2, .slice d.y.o3 d.y.q.t2.length d.y.c3, .slice d.y.o4 d.y.q.q2.length d.y.c4, .string (⟨#[]⟩), .slice d.ro d.rl.length d.rc, .slice d.lo ts.length d.lc]) rfl rfl) λa A↦?_
          refine qi A rfl rfl rfl (qf rfl rfl (fun w => by kernel_rfl)) (vd (by first | exact hq1 | omega) (by first | exact hq2 | omega) (by first | exact hq3 | omega) (by first | exact hq4 | omega) rfl) ?_
          rintro _ w91 ⟨rfl, hb90⟩
          replace M := M.call hb90
          refine ⟨_, rfl, ?_⟩
          intro a A
          refine sdo (v := .bool (jo d.n d.y.q.b1 d.y.q.t1.length d.y.q.q1.length d.y.q.b2 d.y.q.t2.length d.y.q.q2.length (⟨#[]⟩) d.rl.length ts.length)) A (jk rfl rfl rfl rfl) λa A↦?_
          refine sda A λa A↦?_
          refine qa (hK89 _ _ (wp_ret (hret _ _ (en1 A rfl (qh rfl) ?_))))
          exact ⟨by rw [show zd d.k d.n d.y.q d.s d.rl.length ts.length = jo d.n d.y.q.b1 d.y.q.t1.length d.y.q.q1.length d.y.q.b2 d.y.q.t2.length d.y.q.q2.length (⟨#[]⟩) d.rl.length ts.length from by
           unfold zd
           repeat (first | rw [if_pos (by omega)] | rw [if_neg (by omega)])
           try simp_all
           try omega], M.bel⟩
         ·
          refine qi A rfl rfl rfl (qf rfl rfl (fun w => by kernel_rfl)) (yl hok.smax (hT.below M.bel) hb85) ?_
          rintro _ w93 ⟨rfl, hb92⟩
          replace M := M.call hb92
          refine ⟨_, rfl, ?_⟩
          intro a A
          refine sda A λa A↦?_
          refine sdo (v := .pointer (some ⟨g2, 8, none⟩)) A (qe TrB_fld_30_3 rfl rfl) λa A↦?_
          refine js (us := [.int .i64 d.k, .int .i64 d.n, .bool d.y.q.b1, .slice d.y.o1 d.y.q.t1.length d.y.c1, .slice d.y.o2 d.y.q.q1.length d.y.c2, .bool d.y.q.b2, .slice d.y.o3 d.y.q.t2.length d.y.c3, .slice d.y.o4 d.y.q.q2.length d.y.c4, .string (⟨#[]⟩), .slice d.ro d.rl.length d.rc, .slice d.lo ts.length d.lc]) (L' := (.obj g2 (.cells #[.int .i64 d.k, .int .i64 d.n, .bool d.y.q.b1, .slice d.y.o1 d.y.q.t1.length d.y.c1, .slice d.y.o2 d.y.q.q1.length d.y.c2, .bool d.y.q.b2, .slice d.y.o3 d.y.q.t2.length d.y.c3, .slice d.y.o4 d.y.q.q2.length d.y.c4, .string (⟨#[]⟩), .slice d.ro d.rl.length d.rc, .slice d.lo ts.length d.lc] 30) :: [])) A M rfl rfl (jh rfl rfl rfl (by kernel_rfl) M 0 rfl rfl rfl) 0 rfl rfl rfl ?_
          intro w94 M
          refine qa (hK5 _ _ (wsk fun K95 hK95 => wrl ?_))
          iterate 2 refine sdm A λa A↦?_
          iterate 2 refine qk A rfl rfl rfl λa A↦?_
          refine sdk (v := .bool false) A λa A↦?_
          refine sda A λa A↦?_
          refine qa (hK95 _ _ (wp_ret (hret _ _ (en1 A rfl (qh rfl) ?_))))
          exact ⟨by rw [show zd d.k d.n d.y.q d.s d.rl.length ts.length = false from by
           unfold zd
           repeat (first | rw [if_pos (by omega)] | rw [if_neg (by omega)])
           try simp_all
           try omega], M.bel⟩
        ·
         have hb84' := ne_of_beq_false hb84
         refine sdo (v := .bool false) A (qb rfl rfl (fun w => (ql w).trans (by rw [hb84]))) λa A↦?_
         refine sda A λa A↦?_
         refine qa (hK57 _ _ (wp_cond_false (A.ev rfl) ?_))
         refine wsk fun K96 hK96 => wrl ?_
         rcases tf ((d.k == 7)) with hb97 | hb97
         ·
          have hb97' := eq_of_beq hb97
          refine sdo (v := .bool true) A (qb rfl rfl (fun w => (ql w).trans (by rw [hb97]))) λa A↦?_
          refine sda A λa A↦?_
          refine qa (hK96 _ _ (wp_cond_true (A.ev rfl) ?_))
          refine wrl (sdo (v := .pointer (some ⟨g2, 9, none⟩)) A (qe TrB_fld_30_4 rfl rfl) λa A↦?_)
          refine js (us := [.int .i64 d.k, .int .i64 d.n, .bool d.y.q.b1, .slice d.y.o1 d.y.q.t1.length d.y.c1, .slice d.y.o2 d.y.q.q1.length d.y.c2, .bool d.y.q.b2, .slice d.y.o3 d.y.q.t2.length d.y.c3, .slice d.y.o4 d.y.q.q2.length d.y.c4, .string d.s, .slice none 0 0, .slice d.lo ts.length d.lc]) (L' := (.obj g2 (.cells #[.int .i64 d.k, .int .i64 d.n, .bool d.y.q.b1, .slice d.y.o1 d.y.q.t1.length d.y.c1, .slice d.y.o2 d.y.q.q1.length d.y.c2, .bool d.y.q.b2, .slice d.y.o3 d.y.q.t2.length d.y.c3, .slice d.y.o4 d.y.q.q2.length d.y.c4, .string d.s, .slice none 0 0, .slice d.lo ts.length d.lc] 30) :: [])) A M rfl rfl (jh rfl rfl rfl (by kernel_rfl) M 0 rfl rfl rfl) 0 rfl rfl rfl ?_
          intro w98 M
          refine qa (hK5 _ _ (wsk fun K99 hK99 => wrl ?_))
          iterate 2 refine sdm A λa A↦?_
          refine sdo A (zf M TrB_isS_30 rfl 0 rfl (cs := [.int .i64 d.k, .int .i64 d.n, .bool d.y.q.b1, .slice d.y.o1 d.y.q.t1.length d.y.c1, .slice d.y.o2 d.y.q.q1.length d.y.c2, .bool d.y.q.b2, .slice d.y.o3 d.y.q.t2.length d.y.c3, .slice d.y.o4 d.y.q.q2.length d.y.c4, .string d.s, .slice none 0 0, .slice d.lo ts.length d.lc]) rfl rfl) λa A↦?_
          refine qi A rfl rfl rfl (qf rfl rfl (fun w => by kernel_rfl)) (vd (by first | exact hq1 | omega) (by first | exact hq2 | omega) (by first | exact hq3 | omega) (by first | exact hq4 | omega) rfl) ?_
          rintro _ w101 ⟨rfl, hb100⟩
          replace M := M.call hb100
          refine ⟨_, rfl, ?_⟩
          intro a A
          refine sdo (v := .bool (jo d.n d.y.q.b1 d.y.q.t1.length d.y.q.q1.length d.y.q.b2 d.y.q.t2.length d.y.q.q2.length d.s 0 ts.length)) A (jk rfl rfl rfl rfl) λa A↦?_
          refine sda A λa A↦?_
          refine qa (hK99 _ _ (wp_ret (hret _ _ (en1 A rfl (qh rfl) ?_))))
          exact ⟨by rw [show zd d.k d.n d.y.q d.s d.rl.length ts.length = jo d.n d.y.q.b1 d.y.q.t1.length d.y.q.q1.length d.y.q.b2 d.y.q.t2.length d.y.q.q2.length d.s 0 ts.length from by
           unfold zd
           repeat (first | rw [if_pos (by omega)] | rw [if_neg (by omega)])
           try simp_all
           try omega], M.bel⟩
         ·
          have hb97' := ne_of_beq_false hb97
          refine sdo (v := .bool false) A (qb rfl rfl (fun w => (ql w).trans (by rw [hb97]))) λa A↦?_
          refine sda A λa A↦?_
          refine qa (hK96 _ _ (wp_cond_false (A.ev rfl) ?_))
          refine wsk fun K102 hK102 => wrl ?_
          rcases tf ((d.k == 8)) with hb103 | hb103
          ·
           have hb103' := eq_of_beq hb103
           refine sdo (v := .bool true) A (qb rfl rfl (fun w => (ql w).trans (by rw [hb103]))) λa A↦?_
           refine sda A λa A↦?_
           refine qa (hK102 _ _ (wp_cond_true (A.ev rfl) ?_))
           refine wrl (sdo (v := .pointer (some ⟨g2, 10, none⟩)) A (qe TrB_fld_30_5 rfl rfl) λa A↦?_)
           refine sdo A (qm M TrB_is1_28 rfl 0 rfl rfl) λa A↦?_
           refine sdo A (qt Tryz.underlying28 rfl) λa A↦?_
           rcases tf ((((ts.length : Nat) : Int) == 2)) with hb104 | hb104
           ·
            have hb104' := eq_of_beq hb104
            refine sdo (v := .bool true) A (qb rfl rfl (fun w => (ql w).trans (by rw [hb104]))) λa A↦?_
            refine sda A λa A↦?_
            refine sdo (v := .pointer (some ⟨g2, 10, none⟩)) A (qe TrB_fld_30_5 rfl rfl) λa A↦?_
            refine js (us := [.int .i64 d.k, .int .i64 d.n, .bool d.y.q.b1, .slice d.y.o1 d.y.q.t1.length d.y.c1, .slice d.y.o2 d.y.q.q1.length d.y.c2, .bool d.y.q.b2, .slice d.y.o3 d.y.q.t2.length d.y.c3, .slice d.y.o4 d.y.q.q2.length d.y.c4, .string d.s, .slice d.ro d.rl.length d.rc, .slice none 0 0]) (L' := (.obj g2 (.cells #[.int .i64 d.k, .int .i64 d.n, .bool d.y.q.b1, .slice d.y.o1 d.y.q.t1.length d.y.c1, .slice d.y.o2 d.y.q.q1.length d.y.c2, .bool d.y.q.b2, .slice d.y.o3 d.y.q.t2.length d.y.c3, .slice d.y.o4 d.y.q.q2.length d.y.c4, .string d.s, .slice d.ro d.rl.length d.rc, .slice none 0 0] 30) :: [])) A M rfl rfl (jh rfl rfl rfl (by kernel_rfl) M 0 rfl rfl rfl) 0 rfl rfl rfl ?_
            intro w105 M
            refine qa (hK5 _ _ (wsk fun K106 hK106 => wrl ?_))
            iterate 2 refine sdm A λa A↦?_
            refine sdo A (zf M TrB_isS_30 rfl 0 rfl (cs := [.int .i64 d.k, .int .i64 d.n, .bool d.y.q.b1, .slice d.y.o1 d.y.q.t1.length d.y.c1, .slice d.y.o2 d.y.q.q1.length d.y.c2, .bool d.y.q.b2, .slice d.y.o3 d.y.q.t2.length d.y.c3, .slice d.y.o4 d.y.q.q2.length d.y.c4, .string d.s, .slice d.ro d.rl.length d.rc, .slice none 0 0]) rfl rfl) λa A↦?_
            refine qi A rfl rfl rfl (qf rfl rfl (fun w => by kernel_rfl)) (vd (by first | exact hq1 | omega) (by first | exact hq2 | omega) (by first | exact hq3 | omega) (by first | exact hq4 | omega) rfl) ?_
            rintro _ w108 ⟨rfl, hb107⟩
            replace M := M.call hb107
            refine ⟨_, rfl, ?_⟩
            intro a A
            refine sdo (v := .bool (jo d.n d.y.q.b1 d.y.q.t1.length d.y.q.q1.length d.y.q.b2 d.y.q.t2.length d.y.q.q2.length d.s d.rl.length 0)) A (jk rfl rfl rfl rfl) λa A↦?_
            refine sda A λa A↦?_
            refine qa (hK106 _ _ (wp_ret (hret _ _ (en1 A rfl (qh rfl) ?_))))
            exact ⟨by rw [show zd d.k d.n d.y.q d.s d.rl.length ts.length = jo d.n d.y.q.b1 d.y.q.t1.length d.y.q.q1.length d.y.q.b2 d.y.q.t2.length d.y.q.q2.length d.s d.rl.length 0 from by
             unfold zd
             repeat (first | rw [if_pos (by omega)] | rw [if_neg (by omega)])
             try simp_all
             try omega], M.bel⟩
           ·
            have hb104' := ne_of_beq_false hb104
            refine sdo (v := .bool false) A (qb rfl rfl (fun w => (ql w).trans (by rw [hb104]))) λa A↦?_
            refine sda A λa A↦?_
            refine sdo (v := .pointer (some ⟨g2, 10, none⟩)) A (qe TrB_fld_30_5 rfl rfl) λa A↦?_
            refine js (us := [.int .i64 d.k, .int .i64 d.n, .bool d.y.q.b1, .slice d.y.o1 d.y.q.t1.length d.y.c1, .slice d.y.o2 d.y.q.q1.length d.y.c2, .bool d.y.q.b2, .slice d.y.o3 d.y.q.t2.length d.y.c3, .slice d.y.o4 d.y.q.q2.length d.y.c4, .string d.s, .slice d.ro d.rl.length d.rc, .slice none 0 0]) (L' := (.obj g2 (.cells #[.int .i64 d.k, .int .i64 d.n, .bool d.y.q.b1, .slice d.y.o1 d.y.q.t1.length d.y.c1, .slice d.y.o2 d.y.q.q1.length d.y.c2, .bool d.y.q.b2, .slice d.y.o3 d.y.q.t2.length d.y.c3, .slice d.y.o4 d.y.q.q2.length d.y.c4, .string d.s, .slice d.ro d.rl.length d.rc, .slice none 0 0] 30) :: [])) A M rfl rfl (jh rfl rfl rfl (by kernel_rfl) M 0 rfl rfl rfl) 0 rfl rfl rfl ?_
            intro w109 M
            refine qa (hK5 _ _ (wsk fun K110 hK110 => wrl ?_))
            iterate 2 refine sdm A λa A↦?_
            iterate 2 refine qk A rfl rfl rfl λa A↦?_
            refine sdk (v := .bool false) A λa A↦?_
            refine sda A λa A↦?_
            refine qa (hK110 _ _ (wp_ret (hret _ _ (en1 A rfl (qh rfl) ?_))))
            exact ⟨by rw [show zd d.k d.n d.y.q d.s d.rl.length ts.length = false from by
             unfold zd
             repeat (first | rw [if_pos (by omega)] | rw [if_neg (by omega)])
             try simp_all
             try omega], M.bel⟩
          ·
           have hb103' := ne_of_beq_false hb103
           refine sdo (v := .bool false) A (qb rfl rfl (fun w => (ql w).trans (by rw [hb103]))) λa A↦?_
           refine sda A λa A↦?_
           refine qa (hK102 _ _ (wp_cond_false (A.ev rfl) ?_))
           refine wsk fun K111 hK111 => wrl ?_
           rcases tf ((d.k == 9)) with hb112 | hb112
           ·
            have hb112' := eq_of_beq hb112
            refine sdo (v := .bool true) A (qb rfl rfl (fun w => (ql w).trans (by rw [hb112]))) λa A↦?_
            refine sda A λa A↦?_
            refine qa (hK111 _ _ (wp_cond_true (A.ev rfl) ?_))
            refine wrl (sdo (v := .pointer (some ⟨g2, 10, none⟩)) A (qe TrB_fld_30_5 rfl rfl) λa A↦?_)
            refine js (us := [.int .i64 d.k, .int .i64 d.n, .bool d.y.q.b1, .slice d.y.o1 d.y.q.t1.length d.y.c1, .slice d.y.o2 d.y.q.q1.length d.y.c2, .bool d.y.q.b2, .slice d.y.o3 d.y.q.t2.length d.y.c3, .slice d.y.o4 d.y.q.q2.length d.y.c4, .string d.s, .slice d.ro d.rl.length d.rc, .slice none 0 0]) (L' := (.obj g2 (.cells #[.int .i64 d.k, .int .i64 d.n, .bool d.y.q.b1, .slice d.y.o1 d.y.q.t1.length d.y.c1, .slice d.y.o2 d.y.q.q1.length d.y.c2, .bool d.y.q.b2, .slice d.y.o3 d.y.q.t2.length d.y.c3, .slice d.y.o4 d.y.q.q2.length d.y.c4, .string d.s, .slice d.ro d.rl.length d.rc, .slice none 0 0] 30) :: [])) A M rfl rfl (jh rfl rfl rfl (by kernel_rfl) M 0 rfl rfl rfl) 0 rfl rfl rfl ?_
            intro w113 M
            refine qa (hK5 _ _ (wsk fun K114 hK114 => wrl ?_))
            iterate 2 refine sdm A λa A↦?_
            refine sdo A (zf M TrB_isS_30 rfl 0 rfl (cs := [.int .i64 d.k, .int .i64 d.n, .bool d.y.q.b1, .slice d.y.o1 d.y.q.t1.length d.y.c1, .slice d.y.o2 d.y.q.q1.length d.y.c2, .bool d.y.q.b2, .slice d.y.o3 d.y.q.t2.length d.y.c3, .slice d.y.o4 d.y.q.q2.length d.y.c4, .string d.s, .slice d.ro d.rl.length d.rc, .slice none 0 0]) rfl rfl) λa A↦?_
            refine qi A rfl rfl rfl (qf rfl rfl (fun w => by kernel_rfl)) (vd (by first | exact hq1 | omega) (by first | exact hq2 | omega) (by first | exact hq3 | omega) (by first | exact hq4 | omega) rfl) ?_
            rintro _ w116 ⟨rfl, hb115⟩
            replace M := M.call hb115
            refine ⟨_, rfl, ?_⟩
            intro a A
            refine sdo (v := .bool (jo d.n d.y.q.b1 d.y.q.t1.length d.y.q.q1.length d.y.q.b2 d.y.q.t2.length d.y.q.q2.length d.s d.rl.length 0)) A (jk rfl rfl rfl rfl) λa A↦?_
            refine sda A λa A↦?_
            refine qa (hK114 _ _ (wp_ret (hret _ _ (en1 A rfl (qh rfl) ?_))))
            exact ⟨by rw [show zd d.k d.n d.y.q d.s d.rl.length ts.length = jo d.n d.y.q.b1 d.y.q.t1.length d.y.q.q1.length d.y.q.b2 d.y.q.t2.length d.y.q.q2.length d.s d.rl.length 0 from by
             unfold zd
             repeat (first | rw [if_pos (by omega)] | rw [if_neg (by omega)])
             try simp_all
             try omega], M.bel⟩
           ·
            have hb112' := ne_of_beq_false hb112
            refine sdo (v := .bool false) A (qb rfl rfl (fun w => (ql w).trans (by rw [hb112]))) λa A↦?_
            refine sda A λa A↦?_
            refine qa (hK111 _ _ (wp_cond_false (A.ev rfl) ?_))
            refine wrl (sda A λa A↦?_)
            refine qa (hK5 _ _ (wsk fun K117 hK117 => wrl ?_))
            iterate 2 refine sdm A λa A↦?_
            iterate 2 refine qk A rfl rfl rfl λa A↦?_
            refine sdk (v := .bool false) A λa A↦?_
            refine sda A λa A↦?_
            refine qa (hK117 _ _ (wp_ret (hret _ _ (en1 A rfl (qh rfl) ?_))))
            exact ⟨by rw [show zd d.k d.n d.y.q d.s d.rl.length ts.length = false from by
             unfold zd
             repeat (first | rw [if_pos (by omega)] | rw [if_neg (by omega)])
             try simp_all
             try omega], M.bel⟩
end Go.Proofs.YtabjlejolmmeeaaGreatDoor.G
