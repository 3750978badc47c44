/- A number as it lies in a row of cells. Data as trees: as they lie in memory, and as they are. Steps over data: what is read of a node, and of a list of them. How much a datum holds. The order of data, told on trees: it is one, and 0 for the same trees alone. Where data lie, and rows of data. Steps over rows of any kind, and steps that tell what they keep. Rows of words and of bytes that are new. Lists of data as they are: linked, taken apart, found. Data that stand by pieces of memory which nothing changes; rows of structs of any width. Maps of the call's own whose keys are words of 64 bits, as pieces of memory: what each kind of step does to them. Tables: entries and buckets, as they lie in memory. Walks of the size of data. The library's contracts, as theorems of this program. Walks of what makes a node sound. Walks of sound data. The library's contracts, as theorems of this program. Walks of copies of lists and numbers. Walks of copies of data. Walks of what is found in a slice of data, and of lists that are taken apart. Bytes compared by the library. The walk of the document's utf8. Units of a text as rows; when a text has no bad byte. Walks of the document's Sound. The walk of the document's Sound. Walks of the order of numbers. Walks of small comparisons, and of the hash of lists. -/
import Derived.Test.YtjlpecapebhgjaaGreatDoorPtablel9c
import Derived.Test.YtjlpecapebhgjaaGreatDoorPtablel9d
import Derived.Test.YtjlpecapebhgjaaGreatDoorPtablel9e
import Derived.Lib.ValidU
import Derived.Lib.Bytealg
import Derived.Maps.RangeRun
import Derived.Test.YtjlpecapebhgjaaGreatDoorProg
import Derived.Shelf.Strings.Builder1
import Derived.Shelf.Small.Utf8
import Derived.Shelf.Small.Bits
import Derived.Shelf.Small.Strs
import Derived.Shelf.Strings.BuilderF
import Derived.Shelf.Strings.BuilderK
import Derived.Shelf.Strings.BuilderRune
import Derived.Shelf.Utf8.AppendRunePlain
import Derived.Shelf.Strconv.Itoa0
import Derived.Shelf.LaysM
import Derived.Shelf.Strconv.Clone
import Derived.Shelf.Unicode.ValidAny
import Derived.Test.YtjlpecapebhgjaaGreatDoorShelf
import Derived.WalkKit
import Derived.WalkSpells
import Derived.Lib.ConvBytes
namespace Go.Proofs.YtjlpecapebhgjaaGreatDoor.G
open Go.RowKit
set_option linter.unusedVariables false
set_option linter.unusedSimpArgs false

/-- A number as it lies in a row of cells. -/
structure Nu where
  q : Q6
  o1 : Option Addr
  c1 : Nat
  o2 : Option Addr
  c2 : Nat
  o3 : Option Addr
  c3 : Nat
  o4 : Option Addr
  c4 : Nat
def Nu.nm (w : World) (y : Nu) : Prop := Nm w y.q y.o1 y.c1 y.o2 y.c2 y.o3 y.c3 y.o4 y.c4
theorem Nu.below {w w' : World} {y : Nu} (h : y.nm w) (hb : Below w.heap.size w w') : y.nm w' := ⟨h.s1.below hb, h.s2.below hb, h.s3.below hb, h.s4.below hb⟩
def Nu.val (y : Nu) : Value := qgh y.q y.o1 y.c1 y.o2 y.c2 y.o3 y.c3 y.o4 y.c4
theorem zf {P : Program} {w : World} {l : List (Nat × Value)} {dst : Option Tmp} {ty : TypeId} {pos : String} {after : Array Edge} {guard : Option (Nat × Bool)} {x : Operand} {a : Addr} (hx : ev l x = some (.pointer (some a))) : Does P l ⟨dst, .nilCheck x, ty, pos, after, guard⟩ w (.pointer (some a)) w := fun ρ h => by
  simp only [execOp, h x _ hx, Sem.run_pure]
/-- A node, but for what is below it. -/
structure Nd where
  k : Int
  n : Int
  y : Nu
  s : ByteArray
  ro : Option Addr
  rc : Nat
  rl : List UInt8
  lo : Option Addr
  lc : Nat
/-- A datum as it lies in memory. -/
inductive Dt where
  | mk (d : Nd) (ts : List Dt)
def Dt.d : Dt → Nd
  | .mk d _ => d
def Dt.ts : Dt → List Dt
  | .mk _ ts => ts
def Nd.cells (d : Nd) (m : Nat) : List Value := [.int .i64 d.k, .int .i64 d.n, .bool d.y.q.b1, .slice d.y.o1 d.y.q.t1.length d.y.c1, .slice d.y.o2 d.y.q.q1.length d.y.c2, .bool d.y.q.b2, .slice d.y.o3 d.y.q.t2.length d.y.c3, .slice d.y.o4 d.y.q.q2.length d.y.c4, .string d.s, .slice d.ro d.rl.length d.rc, .slice d.lo m d.lc]
def Dt.cells (t : Dt) : List Value := t.d.cells t.ts.length
/-- A datum as it is. -/
inductive Tr where
  | mk (k n : Int) (q : Q6) (s : ByteArray) (rl : List UInt8) (ts : List Tr)
def Tr.k : Tr → Int
  | .mk k _ _ _ _ _ => k
def Tr.n : Tr → Int
  | .mk _ n _ _ _ _ => n
def Tr.q : Tr → Q6
  | .mk _ _ q _ _ _ => q
def Tr.s : Tr → ByteArray
  | .mk _ _ _ s _ _ => s
def Tr.rl : Tr → List UInt8
  | .mk _ _ _ _ r _ => r
def Tr.ts : Tr → List Tr
  | .mk _ _ _ _ _ ts => ts
mutual
def Dt.tr : Dt → Tr
  | .mk d ts => .mk d.k d.n d.y.q d.s d.rl (Dt.trs ts)
def Dt.trs : List Dt → List Tr
  | [] => []
  | t :: ts => t.tr :: Dt.trs ts
end
theorem Dt.trs_map : ∀ ts : List Dt, Dt.trs ts = ts.map Dt.tr
  | [] => by simp [Dt.trs]
  | t :: ts => by simp [Dt.trs, Dt.trs_map ts]
mutual
theorem Dt.indT {P : Dt → Prop} (h : ∀ d ts, (∀ t ∈ ts, P t) → P (.mk d ts)) : ∀ t, P t
  | .mk d ts => h d ts (Dt.indL h ts)
theorem Dt.indL {P : Dt → Prop} (h : ∀ d ts, (∀ t ∈ ts, P t) → P (.mk d ts)) : ∀ ts : List Dt, ∀ t ∈ ts, P t
  | [], t, ht => by cases ht
  | u :: us, t, ht => by
    rcases List.mem_cons.1 ht with e | e
    · rw [e]; exact Dt.indT h u
    · exact Dt.indL h us t e
end
mutual
theorem Tr.indT {P : Tr → Prop} (h : ∀ k n q s rl ts, (∀ t ∈ ts, P t) → P (.mk k n q s rl ts)) : ∀ t, P t
  | .mk k n q s rl ts => h k n q s rl ts (Tr.indL h ts)
theorem Tr.indL {P : Tr → Prop} (h : ∀ k n q s rl ts, (∀ t ∈ ts, P t) → P (.mk k n q s rl ts)) : ∀ ts : List Tr, ∀ t ∈ ts, P t
  | [], t, ht => by cases ht
  | u :: us, t, ht => by
    rcases List.mem_cons.1 ht with e | e
    · rw [e]; exact Tr.indT h u
    · exact Tr.indL h us t e
end
/-- These cells stand there. -/
def Here (w : World) (b o : Nat) (cs : List Value) : Prop := b < w.heap.size ∧ ∀ j v, cs[j]? = some v → w.cell? ⟨b, o + j, none⟩ = some v
theorem Here.below {w w' : World} {b o : Nat} {cs : List Value} (h : Here w b o cs) (hb : Below w.heap.size w w') : Here w' b o cs := ⟨Nat.lt_of_lt_of_le h.1 hb.size, fun j v hj => (hb.cell h.1).trans (h.2 j v hj)⟩
/-- A slice reads as these data, one behind the other. -/
def Rt (w : World) (lo : Option Addr) (ts : List Dt) : Prop := ts ≠ [] → ∃ b o, lo = some ⟨b, o, none⟩ ∧ ∀ i t, ts[i]? = some t → Here w b (o + i * 11) t.cells
theorem Rt.below {w w' : World} {lo : Option Addr} {ts : List Dt} (h : Rt w lo ts) (hb : Below w.heap.size w w') : Rt w' lo ts := fun hne => by
  obtain ⟨b, o, e, h2⟩ := h hne
  exact ⟨b, o, e, fun i t hi => (h2 i t hi).below hb⟩
structure NdOk (w : World) (d : Nd) : Prop where
  num : d.y.nm w
  len : LenQ d.y.q
  raw : Rb w d.ro d.rl
  rcap : d.rl.length ≤ d.rc
  rmax : d.rc ≤ 9223372036854775807
  k0 : -9223372036854775808 ≤ d.k
  k1 : d.k ≤ 9223372036854775807
  n0 : -9223372036854775808 ≤ d.n
  n1 : d.n ≤ 9223372036854775807
  smax : d.s.size ≤ 9223372036854775807
theorem NdOk.below {w w' : World} {d : Nd} (h : NdOk w d) (hb : Below w.heap.size w w') : NdOk w' d := { h with num := Nu.below h.num hb, raw := h.raw.below hb }
mutual
/-- A datum reads so. -/
def Dt.rd (w : World) : Dt → Prop
  | .mk d ts => NdOk w d ∧ ts.length ≤ d.lc ∧ d.lc ≤ 9223372036854775807 ∧ Rt w d.lo ts ∧ Dt.rds w ts
def Dt.rds (w : World) : List Dt → Prop
  | [] => True
  | t :: ts => t.rd w ∧ Dt.rds w ts
end
theorem Dt.rds_iff {w : World} : ∀ {ts : List Dt}, Dt.rds w ts ↔ ∀ t ∈ ts, t.rd w
  | [] => by simp [Dt.rds]
  | t :: ts => by simp [Dt.rds, Dt.rds_iff (ts := ts)]
theorem Dt.rd_iff {w : World} {d : Nd} {ts : List Dt} : (Dt.mk d ts).rd w ↔ NdOk w d ∧ ts.length ≤ d.lc ∧ d.lc ≤ 9223372036854775807 ∧ Rt w d.lo ts ∧ ∀ t ∈ ts, t.rd w := by
  rw [← Dt.rds_iff]; unfold Dt.rd; exact Iff.rfl
theorem Dt.keep {w w' : World} (hb : Below w.heap.size w w') : ∀ t : Dt, t.rd w → t.rd w' :=
  Dt.indT fun d ts ih h => by
    rw [Dt.rd_iff] at h ⊢
    exact ⟨h.1.below hb, h.2.1, h.2.2.1, h.2.2.2.1.below hb, fun t ht => ih t ht (h.2.2.2.2 t ht)⟩
theorem Dt.tr_mk (d : Nd) (ts : List Dt) : (Dt.mk d ts).tr = .mk d.k d.n d.y.q d.s d.rl (ts.map Dt.tr) := by rw [Dt.tr, Dt.trs_map]
/-! ### Sound data -/
mutual
/-- How many nodes are left, and whether it was within the limits. -/
def jy (dp left : Int) : Tr → Bool × Int
  | .mk k _ _ _ _ ts => if left - 1 < 0 ∨ 200 < dp then (false, left - 1) else qad dp (decide (k = 8)) 0 (left - 1) ts
def qad (dp : Int) (pr : Bool) (i : Nat) (left : Int) : List Tr → Bool × Int
  | [] => (true, left)
  | t :: ts => if (jy (if pr = true ∧ i = 1 then dp else dp + 1) left t).1 = true then qad dp pr (i + 1) (jy (if pr = true ∧ i = 1 then dp else dp + 1) left t).2 ts else (false, (jy (if pr = true ∧ i = 1 then dp else dp + 1) left t).2)
end
mutual
/-- Is each node so? -/
def uu (p : Tr → Bool) : Tr → Bool
  | .mk k n q s rl ts => p (.mk k n q s rl ts) && qgj p ts
def qgj (p : Tr → Bool) : List Tr → Bool
  | [] => true
  | t :: ts => uu p t && qgj p ts
end
theorem qqi : ∀ t : Tr, ∀ dp left : Int, (jy dp left t).1 = true → 0 ≤ (jy dp left t).2 := by
  refine Tr.indT fun k n q s rl ts ih dp left h => ?_
  rw [jy] at h ⊢
  by_cases hc : left - 1 < 0 ∨ 200 < dp
  · rw [if_pos hc] at h; cases h
  · rw [if_neg hc] at h ⊢
    have hl : 0 ≤ left - 1 := by omega
    generalize left - 1 = m at h hl ⊢
    generalize decide (k = 8) = pr at h ⊢
    have key : ∀ (us : List Tr), (∀ t ∈ us, ∀ dp left : Int, (jy dp left t).1 = true → 0 ≤ (jy dp left t).2) → ∀ (i : Nat) (m : Int), 0 ≤ m → (qad dp pr i m us).1 = true → 0 ≤ (qad dp pr i m us).2 := by
      intro us
      induction us with
      | nil => intro _ i m hm _; exact hm
      | cons t us ih2 =>
        intro hu i m hm h
        rw [qad] at h ⊢
        by_cases ht : (jy (if pr = true ∧ i = 1 then dp else dp + 1) m t).1 = true
        · rw [if_pos ht] at h ⊢
          exact ih2 (fun x hx => hu x (List.mem_cons_of_mem _ hx)) _ _ (hu t List.mem_cons_self _ _ ht) h
        · rw [if_neg ht] at h; cases h
    exact key ts ih 0 m hl h
/-- Within the limits, and sound at each node. -/
def qz (p : Tr → Bool) (t : Tr) : Bool := (jy 1 20000 t).1 && uu p t
section
variable {P : Program} {w0 w : World} {L : List Ck} {l : List (Nat × Value)} {dst : Option Tmp} {ty : TypeId} {pos : String} {after : Array Edge} {guard : Option (Nat × Bool)} {v : Value}
theorem ub (hM : Mg w0 w L) {b o o' j : Nat} {cs : List Value} (hH : Here w0 b o cs) {t : TypeId} (ht : Is1 P t) {x : Operand} (hx : ev l x = some (.pointer (some ⟨b, o', none⟩))) (ho : o' = o + j) (hv : cs[j]? = some v) : Does P l ⟨dst, .load t x, ty, pos, after, guard⟩ w v w := by
  subst ho
  exact xd hx (vp ht ((hM.bel.cell hH.1).trans (hH.2 j v hv)))
theorem jv (hM : Mg w0 w L) {b o n : Nat} {cs : List Value} (hH : Here w0 b o cs) {t : TypeId} (ht : IsS P t n) {x : Operand} (hx : ev l x = some (.pointer (some ⟨b, o, none⟩))) (hl : cs.length = n) : Does P l ⟨dst, .load t x, ty, pos, after, guard⟩ w (.agg cs.toArray) w :=
  xd hx (vn ht cs hl (fun j v hj => (hM.bel.cell hH.1).trans (hH.2 j v hj)))
theorem zu {t e : TypeId} {sz : Nat} (hu : P.underlying t = some (.slice e)) (he : (P.info? e).map (·.size) = some sz) {x i : Operand} {so : Option Addr} {g off n c k : Nat} {z : Int} (hx : ev l x = some (.slice so n c)) (hi : ev l i = some (.int .i64 z)) (hz : z = (k : Nat)) (hso : so = some ⟨g, off, none⟩) (hk : k < n) :
    Does P l ⟨dst, .indexAddr t x i, ty, pos, after, guard⟩ w (.pointer (some ⟨g, off + k * sz, none⟩)) w := by
  subst hz hso
  exact xg (l := l) (dst := dst) (ty := ty) (pos := pos) (after := after) (guard := guard) (w := w) hx hi (qld hu he hk)
end
/-- A child of a node. -/
theorem kid {w : World} {d : Nd} {ts : List Dt} (h : (Dt.mk d ts).rd w) {i : Nat} (hi : i < ts.length) : ∃ t b o, ts[i]? = some t ∧ t ∈ ts ∧ t.rd w ∧ d.lo = some ⟨b, o, none⟩ ∧ Here w b (o + i * 11) t.cells := by
  rw [Dt.rd_iff] at h
  have hne : ts ≠ [] := fun e => by subst e; simp at hi
  obtain ⟨b, o, e, h2⟩ := h.2.2.2.1 hne
  have ht := List.getElem?_eq_getElem hi
  exact ⟨ts[i], b, o, ht, List.getElem_mem hi, h.2.2.2.2 _ (List.getElem_mem hi), e, h2 i _ ht⟩
theorem uk {ts : List Dt} {i : Nat} {t : Dt} (h : ts[i]? = some t) : (ts.map Dt.tr).drop i = t.tr :: (ts.map Dt.tr).drop (i + 1) := by
  obtain ⟨hi, rfl⟩ := List.getElem?_eq_some_iff.1 h
  rw [List.drop_eq_getElem_cons (by simpa using hi)]
  simp
theorem qbi {ts : List Dt} {i : Nat} (h : ¬ i < ts.length) : (ts.map Dt.tr).drop i = [] := List.drop_of_length_le (by simp; omega)
theorem qyf : ∀ t : Tr, ∀ dp left : Int, (jy dp left t).2 ≤ left := by
  refine Tr.indT fun k n q s rl ts ih dp left => ?_
  rw [jy]
  split
  · show left - 1 ≤ left; omega
  · have key : ∀ (us : List Tr), (∀ t ∈ us, ∀ dp left : Int, (jy dp left t).2 ≤ left) → ∀ (i : Nat) (m : Int), (qad dp (decide (k = 8)) i m us).2 ≤ m := by
      intro us
      induction us with
      | nil => intro _ i m; exact Int.le_refl _
      | cons t us ih2 =>
        intro hu i m
        rw [qad]
        generalize (if decide (k = 8) = true ∧ i = 1 then dp else dp + 1) = D
        have h1 := hu t List.mem_cons_self D m
        split
        · exact Int.le_trans (ih2 (fun x hx => hu x (List.mem_cons_of_mem _ hx)) _ _) h1
        · exact h1
    have := key ts ih 0 (left - 1)
    omega
theorem qrb {dp m D : Int} {pr : Bool} {i : Nat} {ts : List Dt} {t : Dt} (hi : ts[i]? = some t) (hD : (if pr = true ∧ i = 1 then dp else dp + 1) = D) (h : (jy D m t.tr).1 = true) : qad dp pr i m ((ts.map Dt.tr).drop i) = qad dp pr (i + 1) (jy D m t.tr).2 ((ts.map Dt.tr).drop (i + 1)) := by
  rw [uk hi, qad, hD, if_pos h]
theorem qha {dp m D : Int} {pr : Bool} {i : Nat} {ts : List Dt} {t : Dt} (hi : ts[i]? = some t) (hD : (if pr = true ∧ i = 1 then dp else dp + 1) = D) (h : (jy D m t.tr).1 = false) : qad dp pr i m ((ts.map Dt.tr).drop i) = (false, (jy D m t.tr).2) := by
  rw [uk hi, qad, hD, if_neg (by rw [h]; decide)]
theorem qjh {dp left : Int} {d : Nd} {ts : List Dt} (h1 : ¬ left - 1 < 0) (h2 : ¬ 200 < dp) : jy dp left (Dt.mk d ts).tr = qad dp (decide (d.k = 8)) 0 (left - 1) ((ts.map Dt.tr).drop 0) := by
  rw [Dt.tr_mk, jy, if_neg (by omega), List.drop_zero]
theorem zbe {dp left : Int} {d : Nd} {ts : List Dt} (h : left - 1 < 0 ∨ 200 < dp) : jy dp left (Dt.mk d ts).tr = (false, left - 1) := by
  rw [Dt.tr_mk, jy, if_pos h]
theorem qji {p : Tr → Bool} {d : Nd} {ts : List Dt} : uu p (Dt.mk d ts).tr = (p (Dt.mk d ts).tr && qgj p ((ts.map Dt.tr).drop 0)) := by
  rw [Dt.tr_mk, uu, List.drop_zero]
theorem zbf {p : Tr → Bool} {i : Nat} {ts : List Dt} {t : Dt} (hi : ts[i]? = some t) : qgj p ((ts.map Dt.tr).drop i) = (uu p t.tr && qgj p ((ts.map Dt.tr).drop (i + 1))) := by
  rw [uk hi, qgj]
/-- A fraction without words. -/
def qhb (b : Bool) (m m' : Nat) : Bool := !b && (decide (m = 0) && decide (m' = 0))
/-- Nothing beside the kind. -/
def vi (n : Int) (b1 : Bool) (m1 m2 : Nat) (b2 : Bool) (m3 m4 : Nat) (s : ByteArray) (mr ml : Nat) : Bool := decide (n = 0) && (qhb b1 m1 m2 && (qhb b2 m3 m4 && (decide (s = ⟨#[]⟩) && (decide (mr = 0) && decide (ml = 0)))))
def qdd (n : Int) : Bool := decide (0 ≤ n ∧ n ≤ 1114111 ∧ (n < 55296 ∨ 57343 < n))
/-- A text of characters. -/
def okS (s : ByteArray) : Bool := Lib.validD s.data.toList
/-- Sound by its kind. -/
def js (k n : Int) (q : Q6) (s : ByteArray) (mr ml : Nat) : Bool :=
  if k = 1 ∨ k = 10 then vi n q.b1 q.t1.length q.q1.length q.b2 q.t2.length q.q2.length s mr ml
  else if k = 2 then decide (n = 0 ∨ n = 1) && vi 0 q.b1 q.t1.length q.q1.length q.b2 q.t2.length q.q2.length s mr ml
  else if k = 3 then xy q && vi n false 0 0 false 0 0 s mr ml
  else if k = 4 then qdd n && vi 0 q.b1 q.t1.length q.q1.length q.b2 q.t2.length q.q2.length s mr ml
  else if k = 5 ∨ k = 6 ∨ k = 11 then okS s && vi n q.b1 q.t1.length q.q1.length q.b2 q.t2.length q.q2.length ⟨#[]⟩ mr ml
  else if k = 7 then vi n q.b1 q.t1.length q.q1.length q.b2 q.t2.length q.q2.length s 0 ml
  else if k = 8 then decide (ml = 2) && vi n q.b1 q.t1.length q.q1.length q.b2 q.t2.length q.q2.length s mr 0
  else if k = 9 then vi n q.b1 q.t1.length q.q1.length q.b2 q.t2.length q.q2.length s mr 0
  else false
def qx : Tr → Bool
  | .mk k n q s rl ts => js k n q s rl.length ts.length
theorem qbj {d : Nd} {ts : List Dt} : qx (Dt.mk d ts).tr = js d.k d.n d.y.q d.s d.rl.length ts.length := by
  rw [Dt.tr_mk, qx, List.length_map]
mutual
/-- How much a datum holds. -/
def Tr.bulk : Tr → Nat
  | .mk _ _ q s rl ts => s.size + rl.length + (q.t1.length + q.q1.length + (q.t2.length + q.q2.length)) + 1 + Tr.bulks ts
def Tr.bulks : List Tr → Nat
  | [] => 0
  | t :: ts => t.bulk + Tr.bulks ts
end
theorem km {k n : Int} {q : Q6} {s : ByteArray} {rl : List UInt8} {ts : List Tr} : (Tr.mk k n q s rl ts).bulk = s.size + rl.length + (q.t1.length + q.q1.length + (q.t2.length + q.q2.length)) + 1 + Tr.bulks ts := by rw [Tr.bulk]
theorem qhc : ∀ {ts : List Tr} {t : Tr}, t ∈ ts → t.bulk ≤ Tr.bulks ts
  | u :: us, t, h => by
    rw [Tr.bulks]
    rcases List.mem_cons.1 h with e | e
    · subst e; omega
    · have := qhc e; omega
theorem zij {d : Nd} {ts : List Dt} {t : Dt} (h : t ∈ ts) : t.tr.bulk + d.s.size + 1 ≤ (Dt.mk d ts).tr.bulk := by
  rw [Dt.tr_mk, km]
  have := qhc (List.mem_map_of_mem (f := Dt.tr) h)
  omega
open Go.RowKit Go.Lib
def yg (a b : Int) : Int := if a < b then -1 else if b < a then 1 else 0
/-- The first that is not 0. -/
def lex (x y : Int) : Int := if x = 0 then y else x
def zjg (p q : Q6) : Int := lex (yf (reQ p) (reQ q)) (yf (imQ p) (imQ q))
/-- Of two nodes of one kind, but for their lists. -/
def qua (k n m : Int) (p q : Q6) (s t : ByteArray) (rl rm : List UInt8) : Int := if k = 3 then zjg p q else if k = 5 ∨ k = 6 ∨ k = 11 then compareBytes s.data.toList t.data.toList else if k = 7 then compareBytes rl rm else yg n m
mutual
def kh : Tr → Tr → Int
  | .mk k n q s rl ts, u => lex (yg k u.k) (if k = 8 ∨ k = 9 then lex (yg (ts.length : Int) (u.ts.length : Int)) (yt ts u.ts) else qua k n u.n q u.q s u.s rl u.rl)
def yt : List Tr → List Tr → Int
  | [], _ => 0
  | _ :: _, [] => 0
  | t :: ts, u :: us => lex (kh t u) (yt ts us)
end
/-- What goes through a third one. -/
def J3 (x y z : Int) : Prop := (x ≤ 0 → y ≤ 0 → z ≤ 0) ∧ (x < 0 → y ≤ 0 → z < 0) ∧ (x ≤ 0 → y < 0 → z < 0) ∧ (x = 0 → y = 0 → z = 0)
theorem J3.lex {x1 y1 z1 x2 y2 z2 : Int} (h : J3 x1 y1 z1) (k : x1 = 0 → y1 = 0 → J3 x2 y2 z2) : J3 (lex x1 x2) (lex y1 y2) (lex z1 z2) := by
  unfold G.lex
  obtain ⟨a, b, c, d⟩ := h
  by_cases hx : x1 = 0
  · by_cases hy : y1 = 0
    · have hz := d hx hy
      rw [if_pos hx, if_pos hy, if_pos hz]
      exact k hx hy
    · rw [if_pos hx, if_neg hy]
      by_cases hz : z1 = 0
      · have h1 : 0 < y1 := by
          apply Classical.byContradiction
          intro h
          have := c (by omega) (by omega)
          omega
        exact ⟨fun _ _ => by omega, fun _ _ => by omega, fun _ _ => by omega, fun _ _ => by omega⟩
      · rw [if_neg hz]
        exact ⟨fun _ _ => a (by omega) (by omega), fun _ _ => c (by omega) (by omega), fun _ _ => c (by omega) (by omega), fun _ _ => by omega⟩
  · rw [if_neg hx]
    by_cases hy : y1 = 0
    · rw [if_pos hy]
      by_cases hz : z1 = 0
      · have h1 : 0 < x1 := by
          apply Classical.byContradiction
          intro h
          have := b (by omega) (by omega)
          omega
        exact ⟨fun _ _ => by omega, fun _ _ => by omega, fun _ _ => by omega, fun _ _ => by omega⟩
      · rw [if_neg hz]
        exact ⟨fun _ _ => a (by omega) (by omega), fun _ _ => b (by omega) (by omega), fun _ _ => b (by omega) (by omega), fun _ _ => by omega⟩
    · rw [if_neg hy]
      by_cases hz : z1 = 0
      · rw [if_pos hz]
        exact ⟨fun _ _ => by have := b (by omega) (by omega); omega, fun _ _ => by have := b (by omega) (by omega); omega, fun _ _ => by have := b (by omega) (by omega); omega, fun _ _ => by omega⟩
      · rw [if_neg hz]; exact ⟨a, b, c, fun _ _ => by omega⟩
theorem qca (a b : Int) : yg b a = -yg a b := by unfold yg; repeat' split <;> omega
theorem yn {a b : Int} (h : yg a b = 0) : a = b := by
  unfold yg at h
  split at h
  · exact absurd h (by decide)
  · split at h
    · exact absurd h (by decide)
    · omega
theorem qfa {x y x' y' : Int} (h : x' = -x) (k : y' = -y) : lex x' y' = -lex x y := by
  unfold lex
  subst h k
  by_cases hx : x = 0
  · rw [if_pos hx, if_pos (by omega)]
  · rw [if_neg hx, if_neg (by omega)]
theorem qfb {x y : Int} (h : lex x y = 0) : x = 0 ∧ y = 0 := by
  unfold lex at h
  by_cases hx : x = 0
  · rw [if_pos hx] at h; exact ⟨hx, h⟩
  · rw [if_neg hx] at h; exact absurd h hx
theorem qog {x y : Rat} (h : yf x y = 0) : x = y := by
  unfold yf at h
  split at h
  · exact absurd h (by decide)
  · split at h
    · assumption
    · exact absurd h (by decide)
theorem qoh (a b : Rat) : yf b a = -yf a b := zef b a
theorem qdf : ∀ a b : List UInt8, compareBytes b a = -compareBytes a b
  | [], [] => rfl
  | [], _ :: _ => rfl
  | _ :: _, [] => rfl
  | x :: a, y :: b => by
    show (if y < x then (-1 : Int) else if x < y then 1 else compareBytes b a) = -(if x < y then (-1 : Int) else if y < x then 1 else compareBytes a b)
    have ih := qdf a b
    simp only [UInt8.lt_iff_toNat_lt]
    by_cases h1 : x.toNat < y.toNat
    · rw [if_pos h1, if_neg (by omega), if_pos h1]; rfl
    · by_cases h2 : y.toNat < x.toNat
      · rw [if_pos h2, if_neg h1, if_pos h2]
      · rw [if_neg h2, if_neg h1, if_neg h1, if_neg h2, ih]
theorem qdg : ∀ {a b : List UInt8}, compareBytes a b = 0 → a = b
  | [], [], _ => rfl
  | [], _ :: _, h => by simp [compareBytes] at h
  | _ :: _, [], h => by simp [compareBytes] at h
  | x :: a, y :: b, h => by
    have h' : (if x < y then (-1 : Int) else if y < x then 1 else compareBytes a b) = 0 := h
    simp only [UInt8.lt_iff_toNat_lt] at h'
    by_cases h1 : x.toNat < y.toNat
    · rw [if_pos h1] at h'; exact absurd h' (by decide)
    · rw [if_neg h1] at h'
      by_cases h2 : y.toNat < x.toNat
      · rw [if_pos h2] at h'; exact absurd h' (by decide)
      · rw [if_neg h2] at h'
        rw [qdg h', UInt8.toNat_inj.1 (show x.toNat = y.toNat by omega)]
theorem zeg (k n m : Int) (p q : Q6) (s t : ByteArray) (rl rm : List UInt8) : qua k m n q p t s rm rl = -qua k n m p q s t rl rm := by
  unfold qua
  split
  · exact qfa (qoh _ _) (qoh _ _)
  · split
    · exact qdf _ _
    · split
      · exact qdf _ _
      · exact qca _ _
/-! ### The order of trees -/
theorem qfc (k n : Int) (q : Q6) (s : ByteArray) (rl : List UInt8) (ts : List Tr) (k' n' : Int) (q' : Q6) (s' : ByteArray) (rl' : List UInt8) (ts' : List Tr) :
    kh (.mk k n q s rl ts) (.mk k' n' q' s' rl' ts') = lex (yg k k') (if k = 8 ∨ k = 9 then lex (yg (ts.length : Int) (ts'.length : Int)) (yt ts ts') else qua k n n' q q' s s' rl rl') := by
  rw [kh]; rfl
theorem zeh {ts : List Tr} (h : ∀ t ∈ ts, ∀ u, kh u t = -kh t u) : ∀ us, yt us ts = -yt ts us := by
  induction ts with
  | nil => intro us; cases us <;> simp [yt]
  | cons t ts ih =>
    intro us
    cases us with
    | nil => simp [yt]
    | cons u us =>
      rw [yt, yt]
      exact qfa (h t List.mem_cons_self u) (ih (fun x hx => h x (List.mem_cons_of_mem _ hx)) us)
theorem zei : ∀ t u : Tr, kh u t = -kh t u := by
  refine Tr.indT fun k n q s rl ts ih u => ?_
  obtain ⟨k', n', q', s', rl', ts'⟩ := u
  rw [qfc, qfc]
  by_cases hk : k = k'
  · subst hk
    refine qfa (qca _ _) ?_
    split
    · exact qfa (qca _ _) (zeh ih ts')
    · exact zeg _ _ _ _ _ _ _ _ _
  · have h1 := qca k k'
    have h2 : yg k k' ≠ 0 := fun e => hk (yn e)
    unfold lex
    rw [if_neg h2, if_neg (by omega), h1]
theorem zej (t : Tr) : kh t t = 0 := by have := zei t t; omega
/-! ### The same trees -/
def Q6.none : Q6 := ⟨false, [], [], false, [], []⟩
def qyh (q : Q6) : Prop := ∃ u v, q = Q6.rat u v ∧ xm u ∧ xm v
theorem qub {b : Bool} {t u : List Nat} (h : qhb b t.length u.length = true) : b = false ∧ t = [] ∧ u = [] := by
  unfold qhb at h
  cases b <;> simp at h
  exact ⟨rfl, h.1, h.2⟩
theorem vt {n : Int} {q : Q6} {s : ByteArray} {mr ml : Nat} (h : vi n q.b1 q.t1.length q.q1.length q.b2 q.t2.length q.q2.length s mr ml = true) : n = 0 ∧ q = Q6.none ∧ s = ⟨#[]⟩ ∧ mr = 0 ∧ ml = 0 := by
  unfold vi at h
  simp only [Bool.and_eq_true, decide_eq_true_eq] at h
  obtain ⟨h1, h2, h3, h4, h5, h6⟩ := h
  obtain ⟨a1, a2, a3⟩ := qub h2
  obtain ⟨b1, b2, b3⟩ := qub h3
  refine ⟨h1, ?_, h4, h5, h6⟩
  cases q
  simp only at a1 a2 a3 b1 b2 b3
  subst a1 a2 a3 b1 b2 b3
  rfl
/-- What is not named by the kind is nothing. -/
structure Bare (k n : Int) (q : Q6) (s : ByteArray) (mr ml : Nat) : Prop where
  hn : k ≠ 2 → k ≠ 4 → n = 0
  hq : k ≠ 3 → q = Q6.none
  hs : k ≠ 5 → k ≠ 6 → k ≠ 11 → s = ⟨#[]⟩
  hr : k ≠ 7 → mr = 0
  hl : k ≠ 8 → k ≠ 9 → ml = 0
  h8 : k = 8 → ml = 2
  h3 : k = 3 → xy q = true
  h0 : 1 ≤ k
  h1 : k ≤ 11
  h2 : k = 2 → n = 0 ∨ n = 1
  h4 : k = 4 → qdd n = true
  h5 : k = 5 ∨ k = 6 ∨ k = 11 → okS s = true
theorem ux {k n : Int} {q : Q6} {s : ByteArray} {mr ml : Nat} (h : js k n q s mr ml = true) : Bare k n q s mr ml := by
  unfold js at h
  split at h
  · rename_i hk
    obtain ⟨a, b, c, d, e⟩ := vt h
    exact ⟨fun _ _ => a, fun _ => b, fun _ _ _ => c, fun _ => d, fun _ _ => e, fun _ => by omega, fun _ => by omega, by omega, by omega, fun _ => by omega, fun _ => by omega, fun _ => by omega⟩
  · split at h
    · rename_i hk
      simp only [Bool.and_eq_true, decide_eq_true_eq] at h
      obtain ⟨a, b, c, d, e⟩ := vt h.2
      exact ⟨fun _ _ => by omega, fun _ => b, fun _ _ _ => c, fun _ => d, fun _ _ => e, fun _ => by omega, fun _ => by omega, by omega, by omega, fun _ => h.1, fun _ => by omega, fun _ => by omega⟩
    · split at h
      · rename_i hk
        simp only [Bool.and_eq_true] at h
        obtain ⟨a, b, c, d, e⟩ := vt (q := Q6.none) h.2
        exact ⟨fun _ _ => a, fun _ => by omega, fun _ _ _ => c, fun _ => d, fun _ _ => e, fun _ => by omega, fun _ => h.1, by omega, by omega, fun _ => by omega, fun _ => by omega, fun _ => by omega⟩
      · split at h
        · rename_i hk
          simp only [Bool.and_eq_true] at h
          obtain ⟨a, b, c, d, e⟩ := vt h.2
          exact ⟨fun _ _ => by omega, fun _ => b, fun _ _ _ => c, fun _ => d, fun _ _ => e, fun _ => by omega, fun _ => by omega, by omega, by omega, fun _ => by omega, fun _ => h.1, fun _ => by omega⟩
        · split at h
          · rename_i hk
            simp only [Bool.and_eq_true] at h
            obtain ⟨a, b, c, d, e⟩ := vt h.2
            exact ⟨fun _ _ => a, fun _ => b, fun _ _ _ => by omega, fun _ => d, fun _ _ => e, fun _ => by omega, fun _ => by omega, by omega, by omega, fun _ => by omega, fun _ => by omega, fun _ => h.1⟩
          · split at h
            · rename_i hk
              obtain ⟨a, b, c, d, e⟩ := vt h
              exact ⟨fun _ _ => a, fun _ => b, fun _ _ _ => c, fun _ => by omega, fun _ _ => e, fun _ => by omega, fun _ => by omega, by omega, by omega, fun _ => by omega, fun _ => by omega, fun _ => by omega⟩
            · split at h
              · rename_i hk
                simp only [Bool.and_eq_true, decide_eq_true_eq] at h
                obtain ⟨a, b, c, d, e⟩ := vt h.2
                exact ⟨fun _ _ => a, fun _ => b, fun _ _ _ => c, fun _ => d, fun _ _ => by omega, fun _ => h.1, fun _ => by omega, by omega, by omega, fun _ => by omega, fun _ => by omega, fun _ => by omega⟩
              · split at h
                · rename_i hk
                  obtain ⟨a, b, c, d, e⟩ := vt h
                  exact ⟨fun _ _ => a, fun _ => b, fun _ _ _ => c, fun _ => d, fun _ _ => by omega, fun _ => by omega, fun _ => by omega, by omega, by omega, fun _ => by omega, fun _ => by omega, fun _ => by omega⟩
                · cases h
mutual
/-- Sound at each node, and its numbers are fractions in lowest terms. -/
def Tr.good : Tr → Prop
  | .mk k n q s rl ts => Bare k n q s rl.length ts.length ∧ (k = 3 → qyh q) ∧ Tr.goods ts
def Tr.goods : List Tr → Prop
  | [] => True
  | t :: ts => t.good ∧ Tr.goods ts
end
theorem qoi : ∀ {ts : List Tr}, Tr.goods ts ↔ ∀ t ∈ ts, t.good
  | [] => by simp [Tr.goods]
  | t :: ts => by simp [Tr.goods, qoi (ts := ts)]
theorem qcb {k n : Int} {q : Q6} {s : ByteArray} {rl : List UInt8} {ts : List Tr} : (Tr.mk k n q s rl ts).good ↔ Bare k n q s rl.length ts.length ∧ (k = 3 → qyh q) ∧ ∀ t ∈ ts, t.good := by
  rw [← qoi]; unfold Tr.good; exact Iff.rfl
theorem quc {p : Tr → Bool} : ∀ {ts : List Tr}, qgj p ts = true → ∀ t ∈ ts, uu p t = true
  | [], _, t, ht => by cases ht
  | u :: us, h, t, ht => by
    rw [qgj, Bool.and_eq_true] at h
    rcases List.mem_cons.1 ht with e | e
    · subst e; exact h.1
    · exact quc h.2 t e
theorem Dt.good {w : World} : ∀ t : Dt, t.rd w → uu qx t.tr = true → t.tr.good := by
  refine Dt.indT fun d ts ih hrd ha => ?_
  rw [qji, qbj, Bool.and_eq_true] at ha
  have hok := Dt.rd_iff.1 hrd
  rw [Dt.tr_mk, qcb]
  have hb := ux ha.1
  refine ⟨by rw [List.length_map]; exact hb, fun hk => ?_, fun t ht => ?_⟩
  · rcases qtj hok.1.num with h | h
    · rw [hb.h3 hk] at h; cases h
    · exact h
  · obtain ⟨u, hu, rfl⟩ := List.mem_map.1 ht
    refine ih u hu (hok.2.2.2.2 u hu) ?_
    exact quc (ts := ts.map Dt.tr) (by simpa using ha.2) _ ht
theorem zfa {p q : Q6} (hp : qyh p) (hq : qyh q) (h : zjg p q = 0) : p = q := by
  obtain ⟨u, v, rfl, _, _⟩ := hp
  obtain ⟨x, y, rfl, _, _⟩ := hq
  have h2 := qfb h
  rw [ud, ud, qkb, qkb] at h2
  rw [qog h2.1, qog h2.2]
theorem zfb {ts : List Tr} (h : ∀ t ∈ ts, ∀ u : Tr, u.good → kh t u = 0 → t = u) : ∀ us : List Tr, (∀ u ∈ us, u.good) → ts.length = us.length → yt ts us = 0 → ts = us := by
  induction ts with
  | nil =>
    intro us _ hl _
    cases us with
    | nil => rfl
    | cons u us => simp at hl
  | cons t ts ih =>
    intro us hg hl h0
    cases us with
    | nil => simp at hl
    | cons u us =>
      rw [yt] at h0
      have h1 := qfb h0
      rw [h t List.mem_cons_self u (hg u List.mem_cons_self) h1.1, ih (fun x hx => h x (List.mem_cons_of_mem _ hx)) us (fun x hx => hg x (List.mem_cons_of_mem _ hx)) (by simpa using hl) h1.2]
theorem zfc : ∀ t : Tr, t.good → ∀ u : Tr, u.good → kh t u = 0 → t = u := by
  refine Tr.indT fun k n q s rl ts ih hg u hu h0 => ?_
  obtain ⟨k', n', q', s', rl', ts'⟩ := u
  rw [qfc] at h0
  rw [qcb] at hg hu
  have h1 := qfb h0
  have hk := yn h1.1
  subst hk
  obtain ⟨b, hr, hts⟩ := hg
  obtain ⟨b', hr', hts'⟩ := hu
  have h2 := h1.2
  have en : k ≠ 2 → k ≠ 4 → n = n' := fun h h' => by rw [b.hn h h', b'.hn h h']
  have eq : k ≠ 3 → q = q' := fun h => by rw [b.hq h, b'.hq h]
  have es : k ≠ 5 → k ≠ 6 → k ≠ 11 → s = s' := fun h h' h2 => by rw [b.hs h h' h2, b'.hs h h' h2]
  have er : k ≠ 7 → rl = rl' := fun h => by rw [List.eq_nil_of_length_eq_zero (b.hr h), List.eq_nil_of_length_eq_zero (b'.hr h)]
  have el : k ≠ 8 → k ≠ 9 → ts = ts' := fun h h' => by rw [List.eq_nil_of_length_eq_zero (b.hl h h'), List.eq_nil_of_length_eq_zero (b'.hl h h')]
  by_cases h89 : k = 8 ∨ k = 9
  · rw [if_pos h89] at h2
    have h3 := qfb h2
    rw [en (by omega) (by omega), eq (by omega), es (by omega) (by omega) (by omega), er (by omega), zfb (fun t ht u hu => ih t ht (hts t ht) u hu) ts' hts' (by have := yn h3.1; omega) h3.2]
  · rw [if_neg h89] at h2
    unfold qua at h2
    by_cases h3 : k = 3
    · rw [if_pos h3] at h2
      rw [en (by omega) (by omega), es (by omega) (by omega) (by omega), er (by omega), el (by omega) (by omega), zfa (hr h3) (hr' h3) h2]
    · rw [if_neg h3] at h2
      by_cases h5 : k = 5 ∨ k = 6 ∨ k = 11
      · rw [if_pos h5] at h2
        have e : s = s' := by
          cases s with
          | mk s => cases s' with
            | mk s' => congr 1; exact Array.ext' (qdg h2)
        rw [en (by omega) (by omega), eq h3, er (by omega), el (by omega) (by omega), e]
      · rw [if_neg h5] at h2
        by_cases h7 : k = 7
        · rw [if_pos h7] at h2
          rw [en (by omega) (by omega), eq h3, es (by omega) (by omega) (by omega), el (by omega) (by omega), qdg h2]
        · rw [if_neg h7] at h2
          rw [yn h2, eq h3, es (by omega) (by omega) (by omega), er h7, el (by omega) (by omega)]
/-! ### Trees as they lie in memory -/
theorem Dt.eta (t : Dt) : Dt.mk t.d t.ts = t := by cases t; rfl
theorem Dt.tr_eta (t : Dt) : t.tr = .mk t.d.k t.d.n t.d.y.q t.d.s t.d.rl (t.ts.map Dt.tr) := by rw [← Dt.tr_mk, Dt.eta]
theorem qnj {w : World} {t : Dt} (h : t.rd w) {i : Nat} (hi : i < t.ts.length) : ∃ t1 b o, t.ts[i]? = some t1 ∧ t1 ∈ t.ts ∧ t1.rd w ∧ t.d.lo = some ⟨b, o, none⟩ ∧ Here w b (o + i * 11) (t1.d.cells t1.ts.length) := kid (d := t.d) (by rw [Dt.eta]; exact h) hi
theorem Dt.okT {w : World} {t : Dt} (h : t.rd w) : NdOk w t.d ∧ t.ts.length ≤ 9223372036854775807 := by
  rw [← Dt.eta t, Dt.rd_iff] at h
  exact ⟨h.1, Nat.le_trans h.2.1 h.2.2.1⟩
theorem xa {t : Dt} (h : t.tr.good) : Bare t.d.k t.d.n t.d.y.q t.d.s t.d.rl.length t.ts.length ∧ (t.d.k = 3 → qyh t.d.y.q) ∧ ∀ c ∈ t.ts, c.tr.good := by
  rw [Dt.tr_eta, qcb, List.length_map] at h
  exact ⟨h.1, h.2.1, fun c hc => h.2.2 _ (List.mem_map_of_mem hc)⟩
theorem qij {t c : Dt} (h : c ∈ t.ts) : c.tr.bulk + t.d.s.size + 1 ≤ t.tr.bulk := by
  have := zij (d := t.d) h
  rwa [Dt.eta] at this
theorem qyi {α : Type} {l : List α} (h : l.length = 2) {a b : α} (h0 : l[0]? = some a) (h1 : l[1]? = some b) : l = [a, b] := by
  match l, h with
  | [x, y], _ => simp at h0 h1; rw [h0, h1]
theorem qud {p r : Dt} (h : p.d.k ≠ r.d.k) : kh p.tr r.tr = yg p.d.k r.d.k := by
  rw [Dt.tr_eta p, Dt.tr_eta r, qfc]
  unfold lex
  rw [if_neg (fun e => h (yn e))]
theorem qhf (a : Int) : yg a a = 0 := by unfold yg; rw [if_neg (by omega), if_neg (by omega)]
theorem que {p r : Dt} (h : p.d.k = r.d.k) : kh p.tr r.tr = if p.d.k = 8 ∨ p.d.k = 9 then lex (yg (p.ts.length : Int) (r.ts.length : Int)) (yt (p.ts.map Dt.tr) (r.ts.map Dt.tr)) else qua p.d.k p.d.n r.d.n p.d.y.q r.d.y.q p.d.s r.d.s p.d.rl r.d.rl := by
  rw [Dt.tr_eta p, Dt.tr_eta r, qfc, ← h, qhf, List.length_map, List.length_map]
  rfl
theorem zjh {p r p0 p1 r0 r1 : Dt} (h1 : p.d.k = 8) (h2 : r.d.k = 8) (l1 : p.ts.length = 2) (l2 : r.ts.length = 2) (a0 : p.ts[0]? = some p0) (a1 : p.ts[1]? = some p1) (b0 : r.ts[0]? = some r0) (b1 : r.ts[1]? = some r1) : kh p.tr r.tr = lex (kh p0.tr r0.tr) (kh p1.tr r1.tr) := by
  rw [que (by omega), if_pos (.inl h1), l1, l2, qyi l1 a0 a1, qyi l2 b0 b1]
  simp only [List.map_cons, List.map_nil, yt, qhf]
  show lex _ (lex _ 0) = _
  generalize kh p1.tr r1.tr = z
  have : lex z 0 = z := by unfold lex; split <;> omega
  rw [this]
theorem zji (y : Int) : lex 0 y = y := rfl
theorem zjj {x y : Int} (h : x ≠ 0) : lex x y = x := if_neg h
theorem zbi {ts us : List Dt} {i : Nat} {t u : Dt} (hi : ts[i]? = some t) (hj : us[i]? = some u) : yt ((ts.map Dt.tr).drop i) ((us.map Dt.tr).drop i) = lex (kh t.tr u.tr) (yt ((ts.map Dt.tr).drop (i + 1)) ((us.map Dt.tr).drop (i + 1))) := by
  rw [uk hi, uk hj, yt]
theorem zka {ts us : List Dt} {i : Nat} (h : ¬ i < ts.length) : yt ((ts.map Dt.tr).drop i) ((us.map Dt.tr).drop i) = 0 := by
  rw [qbi h, yt]
/-- What the program's order of two nodes of one kind that are no pairs comes to. -/
theorem yi {p r : Dt} (hp : p.tr.good) (hr : r.tr.good) (h : p.d.k = r.d.k) (h8 : p.d.k ≠ 8) : kh p.tr r.tr = if p.d.k = 2 ∨ p.d.k = 4 then yg p.d.n r.d.n else if p.d.k = 3 then zjg p.d.y.q r.d.y.q else if p.d.k = 5 ∨ p.d.k = 6 ∨ p.d.k = 11 then compareBytes p.d.s.data.toList r.d.s.data.toList else if p.d.k = 7 then compareBytes p.d.rl r.d.rl else if p.d.k = 9 then lex (yg (p.ts.length : Int) (r.ts.length : Int)) (yt (p.ts.map Dt.tr) (r.ts.map Dt.tr)) else 0 := by
  rw [que h]
  by_cases h9 : p.d.k = 9
  · rw [if_pos (.inr h9), if_neg (by omega), if_neg (by omega), if_neg (by omega), if_neg (by omega), if_pos h9]
  · rw [if_neg (by omega)]
    unfold qua
    by_cases h3 : p.d.k = 3
    · rw [if_pos h3, if_neg (by omega), if_pos h3]
    · rw [if_neg h3]
      by_cases h5 : p.d.k = 5 ∨ p.d.k = 6 ∨ p.d.k = 11
      · rw [if_pos h5, if_neg (by omega), if_neg h3, if_pos h5]
      · rw [if_neg h5]
        by_cases h7 : p.d.k = 7
        · rw [if_pos h7, if_neg (by omega), if_neg h3, if_neg h5, if_pos h7]
        · rw [if_neg h7]
          by_cases h2 : p.d.k = 2 ∨ p.d.k = 4
          · rw [if_pos h2]
          · rw [if_neg h2, if_neg h3, if_neg h5, if_neg h7, if_neg h9, (xa hp).1.hn (by omega) (by omega), (xa hr).1.hn (by omega) (by omega)]
            rfl
/-! ### The law -/
def ki (t u : Tr) : Bool := (qz qx t && qz qx u) && decide (kh t u = 0)
/-! ### The hash -/
/-- One more number in a hash. -/
def hw (h n : Int) : Int := bits .xor .u64 (IntKind.u64.wrap (bits .xor .u64 h n * 1099511628211)) (IntKind.u64.wrap (bits .xor .u64 h n * 1099511628211) / 2 ^ 32)
def hwL (h : Int) (l : List Nat) : Int := l.foldl (fun h (n : Nat) => hw h (n : Int)) h
def hwB (h : Int) (l : List UInt8) : Int := l.foldl (fun h n => hw h (n.toNat : Int)) h
def hwN (h : Int) (l : List Nat) : Int := hwL (hw h (l.length : Int)) l
def hwS (h : Int) (l : List UInt8) : Int := hwB (hw h (l.length : Int)) l
def hwF (h : Int) (b : Bool) (t q : List Nat) : Int := hwN (hwN (hw h (if b = true then 1 else 0)) t) q
def hwQ (h : Int) (q : Q6) : Int := hwF (hwF h q.b1 q.t1 q.q1) q.b2 q.t2 q.q2
mutual
def ue (h : Int) : Tr → Int
  | .mk k n q s rl ts => if k = 8 then uf (hw h 8) ts else if k = 9 then uf (hw (hw h k) (ts.length : Int)) ts else if k = 2 ∨ k = 4 then hw (hw h k) n else if k = 3 then hwQ (hw h k) q else if k = 5 ∨ k = 6 ∨ k = 11 then hwS (hw h k) s.data.toList else if k = 7 then hwS (hw h k) rl else hw h k
def uf (h : Int) : List Tr → Int
  | [] => h
  | t :: ts => uf (ue h t) ts
end
theorem zwd {h : Int} {l : List Nat} {i : Nat} (hi : i < l.length) : hwL h (l.drop i) = hwL (hw h ((l.getD i 0 : Nat) : Int)) (l.drop (i + 1)) := by
  rw [List.drop_eq_getElem_cons hi, show l.getD i 0 = l[i] from by simp [List.getD, List.getElem?_eq_getElem hi]]; rfl
theorem zqj {h : Int} {l : List Nat} {i : Nat} (hi : ¬ i < l.length) : hwL h (l.drop i) = h := by rw [List.drop_of_length_le (by omega)]; rfl
theorem zwe {h : Int} {l : List UInt8} {i : Nat} (hi : i < l.length) : hwB h (l.drop i) = hwB (hw h (((l.getD i 0).toNat : Nat) : Int)) (l.drop (i + 1)) := by
  rw [List.drop_eq_getElem_cons hi, show l.getD i 0 = l[i] from by simp [List.getD, List.getElem?_eq_getElem hi]]; rfl
theorem zra {h : Int} {l : List UInt8} {i : Nat} (hi : ¬ i < l.length) : hwB h (l.drop i) = h := by rw [List.drop_of_length_le (by omega)]; rfl
theorem kq (h : Int) (p : Dt) : ue h p.tr = if p.d.k = 8 then uf (hw h 8) (p.ts.map Dt.tr) else if p.d.k = 9 then uf (hw (hw h p.d.k) (p.ts.length : Int)) (p.ts.map Dt.tr) else if p.d.k = 2 ∨ p.d.k = 4 then hw (hw h p.d.k) p.d.n else if p.d.k = 3 then hwQ (hw h p.d.k) p.d.y.q else if p.d.k = 5 ∨ p.d.k = 6 ∨ p.d.k = 11 then hwS (hw h p.d.k) p.d.s.data.toList else if p.d.k = 7 then hwS (hw h p.d.k) p.d.rl else hw h p.d.k := by
  rw [Dt.tr_eta p, ue, List.length_map]
theorem zfd {h : Int} {p p0 p1 : Dt} (h1 : p.d.k = 8) (l1 : p.ts.length = 2) (a0 : p.ts[0]? = some p0) (a1 : p.ts[1]? = some p1) : ue h p.tr = ue (ue (hw h 8) p0.tr) p1.tr := by
  rw [kq, if_pos h1, qyi l1 a0 a1]
  simp only [List.map_cons, List.map_nil, uf]
theorem zkb {h : Int} {ts : List Dt} {i : Nat} {t : Dt} (hi : ts[i]? = some t) : uf h ((ts.map Dt.tr).drop i) = uf (ue h t.tr) ((ts.map Dt.tr).drop (i + 1)) := by
  rw [uk hi, uf]
theorem zfe {h : Int} {ts : List Dt} {i : Nat} (hi : ¬ i < ts.length) : uf h ((ts.map Dt.tr).drop i) = h := by rw [qbi hi, uf]
theorem zyi {k n : Int} {q : Q6} {s : ByteArray} {mr ml : Nat} (b : Bare k n q s mr ml) : 0 ≤ n ∧ n ≤ 1114111 := by
  by_cases h2 : k = 2
  · have := b.h2 h2; omega
  · by_cases h4 : k = 4
    · have := b.h4 h4
      unfold qdd at this
      have := of_decide_eq_true this
      omega
    · have := b.hn h2 h4; omega
theorem qre {w : World} {t : Dt} (ht : t.rd w) (h : qz qx t.tr = true) : t.tr.good := by
  unfold qz at h
  rw [Bool.and_eq_true] at h
  exact Dt.good t ht h.2
theorem zbj {a b : Bool} (h : (a && b) = true) : a = true ∧ b = true := by cases a <;> cases b <;> simp_all
/-- What Hash answers. -/
def zm (t : Tr) : Int := if qz qx t = true then ue 14695981039346656037 t else 0
theorem zwf {t : Tr} (h : qz qx t = false) : zm t = 0 := if_neg (by rw [h]; decide)
theorem zwg {t : Tr} (h : qz qx t = true) : zm t = ue 14695981039346656037 t := if_pos h
/-- A slice that has something lies in a block of p. -/
def In {α : Type} (p : Nat → Prop) (so : Option Addr) (l : List α) : Prop := l ≠ [] → ∀ b o, so = some ⟨b, o, none⟩ → p b
theorem In.mono {α : Type} {p q : Nat → Prop} {so : Option Addr} {l : List α} (h : In p so l) (hp : ∀ b, p b → q b) : In q so l := fun hne b o e => hp b (h hne b o e)
structure Nd.at_ (p : Nat → Prop) (d : Nd) : Prop where
  i1 : In p d.y.o1 d.y.q.t1
  i2 : In p d.y.o2 d.y.q.q1
  i3 : In p d.y.o3 d.y.q.t2
  i4 : In p d.y.o4 d.y.q.q2
  i5 : In p d.ro d.rl
mutual
/-- All memory of a datum lies in blocks of p. -/
def Dt.at_ (p : Nat → Prop) : Dt → Prop
  | .mk d ts => d.at_ p ∧ In p d.lo ts ∧ Dt.ats p ts
def Dt.ats (p : Nat → Prop) : List Dt → Prop
  | [] => True
  | t :: ts => t.at_ p ∧ Dt.ats p ts
end
theorem Dt.ats_iff {p : Nat → Prop} : ∀ {ts : List Dt}, Dt.ats p ts ↔ ∀ t ∈ ts, t.at_ p
  | [] => by simp [Dt.ats]
  | t :: ts => by simp [Dt.ats, Dt.ats_iff (ts := ts)]
theorem Dt.at_iff {p : Nat → Prop} {d : Nd} {ts : List Dt} : (Dt.mk d ts).at_ p ↔ d.at_ p ∧ In p d.lo ts ∧ ∀ t ∈ ts, t.at_ p := by
  rw [← Dt.ats_iff]; unfold Dt.at_; exact Iff.rfl
theorem Nd.at_mono {p q : Nat → Prop} {d : Nd} (h : d.at_ p) (hp : ∀ b, p b → q b) : d.at_ q := ⟨h.i1.mono hp, h.i2.mono hp, h.i3.mono hp, h.i4.mono hp, h.i5.mono hp⟩
theorem Dt.at_mono {p q : Nat → Prop} (hp : ∀ b, p b → q b) : ∀ t : Dt, t.at_ p → t.at_ q :=
  Dt.indT fun d ts ih h => by
    rw [Dt.at_iff] at h ⊢
    exact ⟨Nd.at_mono h.1 hp, h.2.1.mono hp, fun t ht => ih t ht (h.2.2 t ht)⟩
/-- The cells of these blocks are kept. -/
def Kept (p : Nat → Prop) (w w' : World) : Prop := w.heap.size ≤ w'.heap.size ∧ ∀ b i v, p b → w.cell? ⟨b, i, none⟩ = some v → w'.cell? ⟨b, i, none⟩ = some v
theorem zrb {p : Nat → Prop} {w w' : World} {so : Option Addr} {l : List Nat} (h : Rd w so l) (hi : In p so l) (hk : Kept p w w') : Rd w' so l := by
  refine ⟨h.dig, fun hne => ?_⟩
  obtain ⟨b, off, h1, h2, h3⟩ := h.pos hne
  exact ⟨b, off, h1, Nat.lt_of_lt_of_le h2 hk.1, fun j hj => hk.2 _ _ _ (hi hne _ _ h1) (h3 j hj)⟩
theorem zca {p : Nat → Prop} {w w' : World} {so : Option Addr} {l : List UInt8} (h : Rb w so l) (hi : In p so l) (hk : Kept p w w') : Rb w' so l := by
  refine ⟨fun hne => ?_⟩
  obtain ⟨b, off, h1, h2, h3⟩ := h.pos hne
  exact ⟨b, off, h1, Nat.lt_of_lt_of_le h2 hk.1, fun j hj => hk.2 _ _ _ (hi hne _ _ h1) (h3 j hj)⟩
theorem kr {p : Nat → Prop} {w w' : World} {so : Option Addr} {c : Nat} {l : List Nat} (h : Sc w so c l) (hi : In p so l) (hk : Kept p w w') : Sc w' so c l := ⟨zrb h.rd hi hk, h.nil, h.cap⟩
theorem NdOk.kept {p : Nat → Prop} {w w' : World} {d : Nd} (h : NdOk w d) (hi : d.at_ p) (hk : Kept p w w') : NdOk w' d := { h with num := ⟨kr h.num.s1 hi.i1 hk, kr h.num.s2 hi.i2 hk, kr h.num.s3 hi.i3 hk, kr h.num.s4 hi.i4 hk⟩, raw := zca h.raw hi.i5 hk }
theorem Rt.kept {p : Nat → Prop} {w w' : World} {lo : Option Addr} {ts : List Dt} (h : Rt w lo ts) (hi : In p lo ts) (hk : Kept p w w') : Rt w' lo ts := fun hne => by
  obtain ⟨b, o, e, h2⟩ := h hne
  exact ⟨b, o, e, fun i t hi' => ⟨Nat.lt_of_lt_of_le (h2 i t hi').1 hk.1, fun j v hj => hk.2 _ _ _ (hi hne _ _ e) ((h2 i t hi').2 j v hj)⟩⟩
/-- Where all its memory is kept, a datum uj. -/
theorem Dt.kept {p : Nat → Prop} {w w' : World} (hk : Kept p w w') : ∀ t : Dt, t.rd w → t.at_ p → t.rd w' :=
  Dt.indT fun d ts ih h hi => by
    rw [Dt.rd_iff] at h ⊢
    rw [Dt.at_iff] at hi
    exact ⟨h.1.kept hi.1 hk, h.2.1, h.2.2.1, h.2.2.2.1.kept hi.2.1 hk, fun t ht => ih t ht (h.2.2.2.2 t ht) (hi.2.2 t ht)⟩
theorem qcc {w : World} {so : Option Addr} {l : List Nat} (h : Rd w so l) : In (· < w.heap.size) so l := fun hne b o e => by
  obtain ⟨b', off, h1, h2, _⟩ := h.pos hne
  rw [h1] at e; cases e; exact h2
theorem qyj {w : World} {so : Option Addr} {l : List UInt8} (h : Rb w so l) : In (· < w.heap.size) so l := fun hne b o e => by
  obtain ⟨b', off, h1, h2, _⟩ := h.pos hne
  rw [h1] at e; cases e; exact h2
theorem zff {w : World} {lo : Option Addr} {ts : List Dt} (h : Rt w lo ts) : In (· < w.heap.size) lo ts := fun hne b o e => by
  obtain ⟨b', o', h1, h2⟩ := h hne
  rw [h1] at e; cases e
  cases ts with
  | nil => exact absurd rfl hne
  | cons t ts => exact (h2 0 t rfl).1
/-- What is there lies in what there is. -/
theorem Dt.at_lt {w : World} : ∀ t : Dt, t.rd w → t.at_ (· < w.heap.size) :=
  Dt.indT fun d ts ih h => by
    rw [Dt.rd_iff] at h
    rw [Dt.at_iff]
    exact ⟨⟨qcc h.1.num.s1.rd, qcc h.1.num.s2.rd, qcc h.1.num.s3.rd, qcc h.1.num.s4.rd, qyj h.1.raw⟩, zff h.2.2.2.1, fun t ht => ih t ht (h.2.2.2.2 t ht)⟩
theorem Kept.trans {p : Nat → Prop} {w w' w'' : World} (h : Kept p w w') (k : Kept p w' w'') : Kept p w w'' := ⟨Nat.le_trans h.1 k.1, fun b i v hb hc => k.2 b i v hb (h.2 b i v hb hc)⟩
theorem Kept.mono {p q : Nat → Prop} {w w' : World} (h : Kept p w w') (hq : ∀ b, q b → p b) : Kept q w w' := ⟨h.1, fun b i v hb hc => h.2 b i v (hq b hb) hc⟩
theorem qlg (w : World) (g o : Nat) (cs : List Value) : Kept (· ≠ g) w (w.setCells g o cs) := by
  induction cs generalizing w o with
  | nil => exact ⟨Nat.le_refl _, fun _ _ _ _ h => h⟩
  | cons c cs ih =>
    refine Kept.trans ⟨by simp, fun b i v hb hc => ?_⟩ (ih (w.setCell ⟨g, o, none⟩ c) (o + 1))
    have : (w.setCell ⟨g, o, none⟩ c).cell? ⟨b, i, none⟩ = w.cell? ⟨b, i, none⟩ := by
      unfold World.cell?
      rw [Below.heap_setCell w ⟨g, o, none⟩ c b hb]
    rw [this]; exact hc
/-! ### Rows of data -/
def cellsOf (ts : List Dt) : List Value := ts.flatMap Dt.cells
theorem kn (t : Dt) : t.cells.length = 11 := rfl
theorem vu : ∀ ts : List Dt, (cellsOf ts).length = ts.length * 11
  | [] => rfl
  | t :: ts => by
    have := vu ts
    unfold cellsOf at this ⊢
    rw [List.flatMap_cons, List.length_append, kn, this, List.length_cons]; omega
theorem qba (a b : List Dt) : cellsOf (a ++ b) = cellsOf a ++ cellsOf b := List.flatMap_append
theorem quf (t : Dt) : cellsOf [t] = t.cells := by unfold cellsOf; rw [List.flatMap_singleton]
theorem uy : ∀ (ts : List Dt) (i : Nat), (cellsOf ts).drop (i * 11) = cellsOf (ts.drop i)
  | ts, 0 => by rw [Nat.zero_mul]; rfl
  | [], i + 1 => by simp [cellsOf]
  | t :: ts, i + 1 => by
    have := uy ts i
    rw [List.drop_succ_cons, ← this]
    unfold cellsOf
    rw [List.flatMap_cons, show (i + 1) * 11 = t.cells.length + i * 11 by rw [kn]; omega, List.drop_append, List.drop_of_length_le (by omega), Nat.add_sub_cancel_left, List.nil_append]
theorem qfd : ∀ (ts : List Dt) (i : Nat), (cellsOf ts).take (i * 11) = cellsOf (ts.take i)
  | ts, 0 => by rw [Nat.zero_mul]; rfl
  | [], i + 1 => by simp [cellsOf]
  | t :: ts, i + 1 => by
    have := qfd ts i
    rw [List.take_succ_cons]
    unfold cellsOf at this ⊢
    rw [List.flatMap_cons, List.flatMap_cons, show (i + 1) * 11 = t.cells.length + i * 11 by rw [kn]; omega, List.take_length_add_append, this]
theorem uz {ts : List Dt} {i : Nat} {t : Dt} (h : ts[i]? = some t) : ((cellsOf ts).drop (i * 11)).take 11 = t.cells := by
  obtain ⟨hi, rfl⟩ := List.getElem?_eq_some_iff.1 h
  rw [uy, List.drop_eq_getElem_cons hi]
  unfold cellsOf
  rw [List.flatMap_cons, show 11 = (ts[i]).cells.length from rfl, List.take_left]
theorem qrf {ts : List Dt} {i j : Nat} {t : Dt} {v : Value} (h : ts[i]? = some t) (hj : t.cells[j]? = some v) : (cellsOf ts)[i * 11 + j]? = some v := by
  have hlt : j < 11 := by have := (List.getElem?_eq_some_iff.1 hj).1; rwa [kn] at this
  rw [← uz h, List.getElem?_take, if_pos hlt, List.getElem?_drop] at hj
  exact hj
theorem qug {ts : List Dt} {i : Nat} (t : Dt) (h : i < ts.length) : over (cellsOf ts) (i * 11) t.cells = cellsOf (ts.set i t) := by
  rw [qqj (by rw [vu, kn]; omega), kn, show i * 11 + 11 = (i + 1) * 11 by omega, uy, qfd, List.set_eq_take_append_cons_drop, if_pos h, qba]
  rw [show t :: ts.drop (i + 1) = [t] ++ ts.drop (i + 1) from rfl, qba, quf, List.append_assoc]
theorem qdh {w : World} {B : Nat} {e : TypeId} {so : Option Addr} {n cap : Nat} {ts : List Dt} (h : w.ownsRow B e 11 (.slice so n cap) n (cellsOf ts)) : Rt w so ts ∧ n = ts.length ∧ n ≤ cap ∧ cap ≤ 9223372036854775807 := by
  have hn : n = ts.length := by have := h.1; rw [vu] at this; omega
  refine ⟨fun hne => ?_, hn, ?_⟩
  · rcases h.2 with ⟨e1, e2⟩ | ⟨g, cap', cur, e1, hg, hc, h1, h2, h3, h4⟩
    · subst e2; exact absurd (List.length_eq_zero_iff.1 hn.symm) hne
    · cases e1
      refine ⟨g, 0, rfl, fun i t hi => ⟨(Array.getElem?_eq_some_iff.1 hc).1, fun j v hj => ?_⟩⟩
      have hlt : j < 11 := by have := (List.getElem?_eq_some_iff.1 hj).1; rwa [kn] at this
      have hil := (List.getElem?_eq_some_iff.1 hi).1
      have h5 := qrf hi hj
      rw [← h4, List.getElem?_take, if_pos (by omega)] at h5
      rw [show (⟨g, 0 + i * 11 + j, none⟩ : Addr) = ⟨g, i * 11 + j, none⟩ by rw [Nat.zero_add], cell_of_row w g _ cur e (0, 0) hc]
      simpa using h5
  · rcases h.2 with ⟨e1, e2⟩ | ⟨g, cap', cur, e1, hg, hc, h1, h2, h3, h4⟩
    · cases e1; exact ⟨Nat.le_refl _, by omega⟩
    · cases e1; refine ⟨h1, Nat.le_trans h2 ?_⟩; decide
section
variable {P : Program} {w0 w : World} {L : List Ck} {l : List (Nat × Value)} {dst : Option Tmp} {ty : TypeId} {pos : String} {after : Array Edge} {guard : Option (Nat × Bool)} {v : Value}
/-- A slice reads as these cells, so many elements. -/
def Rc (w : World) (so : Option Addr) (cs : List Value) : Prop := cs ≠ [] → ∃ b off, so = some ⟨b, off, none⟩ ∧ ∀ p u, cs[p]? = some u → w.cell? ⟨b, off + p, none⟩ = some u
theorem Rc.below {w w' : World} {so : Option Addr} {cs : List Value} (h : Rc w so cs) (hb : Below w.heap.size w w') : Rc w' so cs := fun hne => by
  obtain ⟨b, off, e, h2⟩ := h hne
  exact ⟨b, off, e, fun p u hp => (hb.cell (cell_lt (h2 p u hp))).trans (h2 p u hp)⟩
theorem zyj {w : World} {so : Option Addr} {ts : List Dt} (h : Rt w so ts) : Rc w so (cellsOf ts) := fun hne => by
  obtain ⟨b, o, e, h2⟩ := h (fun k => hne (by rw [k]; rfl))
  refine ⟨b, o, e, fun p u hp => ?_⟩
  have hlt : p < ts.length * 11 := by have := (List.getElem?_eq_some_iff.1 hp).1; rwa [vu] at this
  have hi : p / 11 < ts.length := by omega
  have ht := List.getElem?_eq_getElem hi
  have hp2 : p = p / 11 * 11 + p % 11 := by omega
  have h3 := (h2 (p / 11) _ ht).2 (p % 11) u (by
    have h4 := uz ht
    rw [← h4, List.getElem?_take, if_pos (by omega), List.getElem?_drop, ← hp2]; exact hp)
  rw [show o + p = o + p / 11 * 11 + p % 11 by omega]; exact h3
theorem ka {w : World} {B : Nat} {e : TypeId} {sz n cap : Nat} {so : Option Addr} {xs : List Value} (h : w.ownsRow B e sz (.slice so n cap) n xs) : Rc w so xs := fun hne => by
  rcases h.2 with ⟨e1, e2⟩ | ⟨g, cap', cur, e1, hg, hc, h1, h2, h3, h4⟩
  · subst e2; exact absurd (List.length_eq_zero_iff.1 (by rw [h.1]; simp)) hne
  · cases e1
    exact ⟨g, 0, rfl, fun p u hp => by rw [Nat.zero_add, World.ownsRow.cellAt h p (by have := (List.getElem?_eq_some_iff.1 hp).1; rw [h.1] at this; exact this)]; exact hp⟩
theorem vl {e t : TypeId} {sz by_ : Nat} {z : Value} {x y : Operand} (ht : P.underlying t = some (.slice e)) (hinfo : (P.info? e).map (fun i => (i.zero, i.size, i.bytes)) = some (some z, sz, by_)) (hzc : z.cells.size = sz) (hsz : Nat.ble 1 sz = true) (hby : Nat.ble by_ 1000 = true) (hM : Mg w0 w L) (k : Nat) {q : Nat} {xs : List Value} (hk : L[k]? = some (.row e sz v q xs)) (hx : ev l x = some v) {so : Option Addr} {m c2 : Nat} {news : List Value} (hy : ev l y = some (.slice so m c2)) (hnl : news.length = m * sz) (hr : Rc w so news) (h1 : ∀ u ∈ news, u.oneCell' = true) (hlen : q + m ≤ 1000000000) :
    ∃ v' w', Does P l ⟨dst, .call ⟨.builtin .append, #[x, y], #[t, t]⟩, ty, pos, after, guard⟩ w v' w' ∧ Mg w0 w' (L.set k (.row e sz v' (q + m) (xs ++ news))) := by
  obtain ⟨i, hi, hzz⟩ := Option.map_eq_some_iff.1 hinfo
  simp only [Prod.mk.injEq] at hzz
  obtain ⟨hz, hs, hb⟩ := hzz
  have hrow := hM.has k hk
  by_cases hm : m = 0
  · subst hm
    have h0 : news = [] := List.length_eq_zero_iff.1 (by rw [hnl]; simp)
    subst h0
    obtain ⟨so1, cap, hle, rfl⟩ : ∃ so1 cap, q ≤ cap ∧ v = .slice so1 q cap := by
      rcases hrow.2 with ⟨rfl, rfl⟩ | ⟨g, cap, cur, rfl, _, _, h, _⟩
      · exact ⟨none, 0, Nat.le_refl _, rfl⟩
      · exact ⟨_, cap, h, rfl⟩
    have h2 : (sizeOf e).run P w = .ok sz w := by simp [sizeOf, typeInfo, hi, hs]
    refine ⟨.slice so1 q cap, w, ?_, ?_⟩
    · intro ρ h
      cases so <;> cases so1 <;> simp [execOp, resolve, invoke, builtin, h x _ hx, h y _ hy, Builtin.append_, run_underlying ht, h2, Builtin.lenOf, Builtin.firstCells, loadCells, loadCellsFrom, storeCells, hle]
    · rw [show L.set k (.row e sz (.slice so1 q cap) (q + 0) (xs ++ [])) = L from by rw [List.append_nil]; exact qlc hk]
      exact hM
  · have hne : news ≠ [] := fun e0 => by
      rw [e0] at hnl
      have h5 := Nat.le_of_ble_eq_true hsz
      have : 0 < m * sz := Nat.mul_pos (by omega) h5
      simp at hnl; omega
    obtain ⟨b, off, rfl, hcell⟩ := hr hne
    have hbig : (q + m) * by_ ≤ 140737488355328 := Nat.le_trans (Nat.mul_le_mul hlen (Nat.le_of_ble_eq_true hby)) (by decide)
    obtain ⟨g, cap, w', hr, hown, hgr, hat, hlt⟩ := run_append_lies (P := P) w t ty w0.heap.size e i z sz by_ ht hi hz hs hb hzc (Nat.le_of_ble_eq_true hsz) v q xs hrow ⟨b, off, none⟩ m c2 news hnl (fun p u hp => by
        rw [xf]
        exact hcell p u hp) h1 (by omega) (by unfold maxLen; omega) hbig hM.bel.size w.heap.size rfl
    refine ⟨.slice (some ⟨g, 0, none⟩) (q + m) cap, w', fun ρ h => ?_, hM.turn k hk (by simp) hgr hown (fun d hd ha => ?_)⟩
    · simp [execOp, resolve, invoke, builtin, h x _ hx, h y _ hy, hr]
    · have hl := Ck.lt (hM.all d hd)
      have key : ∀ z, d.at_ = some z → v.ownBlock ≠ some z → g ≠ z := fun z hz hne e => by
        subst e
        rcases hat with h | h
        · exact hne h
        · have := (hl g hz).2; omega
      cases d with
      | obj g' o' => exact fun e => key g' rfl ha (by simpa [Value.ownBlock] using e)
      | row e' sz' v' n' xs' =>
        right
        intro e
        have e2 : v'.ownBlock = some g := e.symm
        rcases ha with ha | ha
        · exact key g e2 (by rw [ha]; simp) rfl
        · exact key g e2 (fun h => ha (h.trans e2.symm)) rfl
      | bld b' bs' => exact ⟨ha.1, fun e => key b' rfl ha.2 (by simpa [Value.ownBlock] using e)⟩
theorem zkc (hM : Mg w0 w L) (k : Nat) {e : TypeId} {sz g n c o m : Nat} {so : Option Addr} {xs cs : List Value} (hk : L[k]? = some (.row e sz (.slice so n c) n xs)) (hso : so = some ⟨g, 0, none⟩) {t : TypeId} (ht : IsS P t m) (hcs : (xs.drop o).take m = cs) (hl : cs.length = m) {x : Operand} (hx : ev l x = some (.pointer (some ⟨g, 0 + o, none⟩))) : Does P l ⟨dst, .load t x, ty, pos, after, guard⟩ w (.agg cs.toArray) w := by
  subst hso
  rw [Nat.zero_add] at hx
  exact qtf hM k hk ht hcs hl hx
/-- A row of nothing. -/
theorem Mg.nilRow (h : Mg w0 w L) (hb : jk L) (e : TypeId) (sz : Nat) : Mg w0 w (.row e sz (.slice none 0 0) 0 [] :: L) := by
  refine h.add (Below.refl _ _) ⟨by simp, .inl ⟨rfl, rfl⟩⟩ (fun k hk => by cases hk) (.inr (.inl ⟨_, _, _, _, _, rfl, .inr hb⟩))
theorem qza {w : World} {B : Nat} {e : TypeId} {sz n cap : Nat} {so : Option Addr} {xs : List Value} (h : w.ownsRow B e sz (.slice so n cap) n xs) {α : Type} (l : List α) : In (B ≤ ·) so l := fun _ b o e1 => by
  rcases h.2 with ⟨e2, _⟩ | ⟨g, cap', cur, e2, hg, _⟩
  · cases e2; cases e1
  · cases e2; cases e1; exact hg
theorem qoj (t : Dt) : ∀ u ∈ t.cells, u.oneCell' = true := by
  intro u hu
  unfold Dt.cells Nd.cells at hu
  simp only [List.mem_cons, List.not_mem_nil, or_false] at hu
  rcases hu with h | h | h | h | h | h | h | h | h | h | h <;> subst h <;> rfl
theorem qrg (ts : List Dt) : ∀ u ∈ cellsOf ts, u.oneCell' = true := by
  intro u hu
  unfold cellsOf at hu
  obtain ⟨t, _, ht⟩ := List.mem_flatMap.1 hu
  exact qoj t u ht
section
variable {ops : List Oper} {Q : Exit → Act → World → Prop} {a : Act} {n : Nat} {o : Oper} {rest : List Oper} {d : Nat}
/-- A new block: all that was there is kept. -/
theorem zwh (hA : Sl a n l) (hM : Mg w0 w L) (hg : zn l ops o = true) (hdst : o.dst = some d) (hd : Nat.blt d n = true) {vs : List Value} {t : TypeId} (val : Nat → Value) (he : Does P l o w (val w.heap.size) (w.alloc (.cells vs.toArray t))) (ht : t ≠ BY)
    (hk : ∀ g w', Mg w0 w' (.obj g (.cells vs.toArray t) :: L) → w.heap.size ≤ g → Below w.heap.size w w' → ∀ a', Sl a' n ((d, val g) :: l) → wpList P ops.toArray Q rest a' w') : wpList P ops.toArray Q (o :: rest) a w :=
  vw hA hg hdst hd he (hk _ _ (hM.addObj _ (ua ht)) (Nat.le_refl _) ((Below.refl _ w).alloc (Nat.le_refl _) _))
/-- A store into a block: the others are kept. -/
theorem zkd (hA : Sl a n l) (hM : Mg w0 w L) (hg : zn l ops o = true) (hdst : o.dst = none) {g q : Nat} {cs vs us : List Value} {e : TypeId} (he : Sets P l o w (w.setCells g q cs)) (k : Nat) (hk0 : L[k]? = some (.obj g (.cells vs.toArray e))) (hus : over vs q cs = us) {L' : List Ck} (hL : L.set k (.obj g (.cells us.toArray e)) = L')
    (hk : ∀ w', Mg w0 w' L' → Kept (· ≠ g) w w' → wpList P ops.toArray Q rest a w') : wpList P ops.toArray Q (o :: rest) a w :=
  qbg hA hg hdst he (hk _ (by subst hus hL; exact Mg.puts cs w L vs q hM k hk0) (qlg _ _ _ _))
/-- .. into a row. -/
theorem zfg (hA : Sl a n l) (hM : Mg w0 w L) (hg : zn l ops o = true) (hdst : o.dst = none) {g q m cap : Nat} {cs xs us : List Value} {e : TypeId} {sz : Nat} (he : Sets P l o w (w.setCells g q cs)) (k : Nat) (hk0 : L[k]? = some (.row e sz (.slice (some ⟨g, 0, none⟩) m cap) m xs)) (hus : over xs q cs = us) {L' : List Ck} (hL : L.set k (.row e sz (.slice (some ⟨g, 0, none⟩) m cap) m us) = L')
    (hk : ∀ w', Mg w0 w' L' → Kept (· ≠ g) w w' → wpList P ops.toArray Q rest a w') : wpList P ops.toArray Q (o :: rest) a w :=
  qbg hA hg hdst he (hk _ (by subst hus hL; exact Mg.rowPuts cs w L xs q hM k hk0) (qlg _ _ _ _))
end
section
variable {ops : List Oper} {Q : Exit → Act → World → Prop} {a : Act} {n : Nat} {o : Oper} {S : World → Prop} {md : Region.Mode} {fuel : Nat} {listed : Array Bool}
theorem ul (hA : Sl a n l) (hM : Mg w0 w L) (i : Nat) (hi : ops[i]? = some o) (hg : zn l ops o = true) (hdst : o.dst = none) {g q : Nat} {cs vs us : List Value} {e : TypeId} (he : Sets P l o w (w.setCells g q cs)) (k : Nat) (hk0 : L[k]? = some (.obj g (.cells vs.toArray e))) (hus : over vs q cs = us) {L' : List Ck} (hL : L.set k (.obj g (.cells us.toArray e)) = L')
    (hk : ∀ w', Mg w0 w' L' → Kept (· ≠ g) w w' → S w' ∧ wpAnyH P md ops.toArray Q S fuel (listed.setIfInBounds i true) a w') : wpOp P ops.toArray Q i (fun a' w' => S w' ∧ wpAnyH P md ops.toArray Q S fuel (listed.setIfInBounds i true) a' w') a w := by
  have h := hk _ (by subst hus hL; exact Mg.puts cs w L vs q hM k hk0) (qlg _ _ _ _)
  exact qgg hA i hi hg hdst he h.1 h.2
end
end
def xn (l : List Nat) : List Value := l.map fun n => .int .u32 ((n : Nat) : Int)
theorem zcb (l : List Nat) : (xn l).length = l.length * 1 := by unfold xn; simp
theorem vq (l : List Nat) : ∀ u ∈ xn l, u.oneCell' = true := by
  intro u hu
  unfold xn at hu
  obtain ⟨n, _, rfl⟩ := List.mem_map.1 hu
  rfl
theorem zcc (l : List UInt8) : (Lib.byteCells l).length = l.length * 1 := by unfold Lib.byteCells; simp
theorem zfh (l : List UInt8) : ∀ u ∈ Lib.byteCells l, u.oneCell' = true := by
  intro u hu
  unfold Lib.byteCells at hu
  obtain ⟨n, _, rfl⟩ := List.mem_map.1 hu
  rfl
theorem zke {w : World} {so : Option Addr} {l : List UInt8} (h : Rb w so l) : Rc w so (Lib.byteCells l) := fun hne => by
  obtain ⟨b, off, h1, h2, h3⟩ := h.pos (fun k => hne (by rw [k]; rfl))
  refine ⟨b, off, h1, fun p u hp => ?_⟩
  have hlt : p < l.length := by have := (List.getElem?_eq_some_iff.1 hp).1; rw [zcc] at this; omega
  rw [h3 p hlt, ← hp]
  simp [Lib.byteCells, List.getD_eq_getElem?_getD, hlt]
theorem zkf {w : World} {so : Option Addr} {l : List Nat} (h : Rd w so l) : Rc w so (xn l) := fun hne => by
  obtain ⟨b, off, h1, h2, h3⟩ := h.pos (fun k => hne (by rw [k]; rfl))
  refine ⟨b, off, h1, fun p u hp => ?_⟩
  have hlt : p < l.length := by have := (List.getElem?_eq_some_iff.1 hp).1; rw [zcb] at this; omega
  rw [h3 p hlt, ← hp]
  simp [xn, List.getD_eq_getElem?_getD, hlt]
theorem qrh {w : World} {B : Nat} {e : TypeId} {sz n cap : Nat} {so : Option Addr} {xs : List Value} (h : w.ownsRow B e sz (.slice so n cap) n xs) : n ≤ cap := by
  rcases h.2 with ⟨e1, e2⟩ | ⟨g, cap', cur, e1, hg, hc, h1, _⟩
  · cases e1; exact Nat.le_refl _
  · cases e1; exact h1
theorem zrc {w : World} {B : Nat} {e : TypeId} {sz n cap : Nat} {so : Option Addr} {xs : List Value} (h : w.ownsRow B e sz (.slice so n cap) n xs) : cap ≤ 9223372036854775807 := by
  rcases h.2 with ⟨e1, e2⟩ | ⟨g, cap', cur, e1, hg, hc, h1, h2, _⟩
  · cases e1; decide
  · cases e1; refine Nat.le_trans h2 ?_; decide
theorem zwi {w : World} {B : Nat} {e : TypeId} {cap : Nat} {so : Option Addr} {l : List Nat} (hd : Dig l) (h : w.ownsRow B e 1 (.slice so l.length cap) l.length (xn l)) : Sc w so cap l := by
  refine ⟨⟨hd, fun hne => ?_⟩, fun e0 => ?_, qrh h⟩
  · rcases h.2 with ⟨e1, e2⟩ | ⟨g, cap', cur, e1, hg, hc, h1, _⟩
    · exact absurd (List.length_eq_zero_iff.1 e2) hne
    · cases e1
      refine ⟨g, 0, rfl, (Array.getElem?_eq_some_iff.1 hc).1, fun j hj => ?_⟩
      rw [Nat.zero_add, World.ownsRow.cellAt h j (by omega)]
      simp [xn, List.getD_eq_getElem?_getD, hj]
  · rcases h.2 with ⟨e1, e2⟩ | ⟨g, cap', cur, e1, _⟩
    · simp only [Value.slice.injEq] at e1; exact e1.2.2
    · cases e1; cases e0
theorem xj {w : World} {B : Nat} {e : TypeId} {sz : Nat} {v : Value} {n : Nat} {xs : List Value} (h : w.ownsRow B e sz v n xs) : ∃ so cap, v = .slice so n cap := by
  rcases h.2 with ⟨rfl, rfl⟩ | ⟨g, cap, cur, rfl, _⟩
  · exact ⟨none, 0, rfl⟩
  · exact ⟨_, cap, rfl⟩
theorem zkg {w : World} {B : Nat} {e : TypeId} {sz : Nat} {v : Value} {n : Nat} {xs : List Value} (h : w.ownsRow B e sz v n xs) (hn : n ≠ 0) : ∃ g cap, v = .slice (some ⟨g, 0, none⟩) n cap := by
  rcases h.2 with ⟨rfl, rfl⟩ | ⟨g, cap, cur, rfl, _⟩
  · exact absurd rfl hn
  · exact ⟨g, cap, rfl⟩
/-- New data, apart from a block. -/
def CsOk (B : Nat) (g : Nat) (w : World) (cs : List Dt) : Prop := ∀ t ∈ cs, t.rd w ∧ t.at_ (fun b => B ≤ b ∧ b ≠ g)
theorem zkh {B g : Nat} {w : World} : CsOk B g w [] := fun t h => by cases h
theorem CsOk.below {B g : Nat} {w w' : World} {cs : List Dt} (h : CsOk B g w cs) (hb : Below w.heap.size w w') : CsOk B g w' cs := fun t ht => ⟨Dt.keep hb _ (h t ht).1, (h t ht).2⟩
theorem CsOk.new {B g g' : Nat} {w w' w'' : World} {cs : List Dt} (h : CsOk B g w cs) (hg : w.heap.size ≤ g') (hb : Below w.heap.size w w') (hk : Kept (· ≠ g') w' w'') : CsOk B g w'' cs := fun t ht => ⟨Dt.kept hk _ (Dt.keep hb _ (h t ht).1) (Dt.at_mono (fun b hb' => by intro e; omega) _ (Dt.at_lt _ (h t ht).1)), (h t ht).2⟩
theorem CsOk.snoc {B g : Nat} {w w' : World} {cs : List Dt} {t : Dt} (h : CsOk B g w cs) (hr : t.rd w) (ha : t.at_ (fun b => B ≤ b ∧ b ≠ g)) (hk : Kept (· ≠ g) w w') : CsOk B g w' (cs ++ [t]) := fun u hu => by
  rcases List.mem_append.1 hu with h1 | h1
  · exact ⟨Dt.kept hk _ (h u h1).1 (Dt.at_mono (fun b hb => hb.2) _ (h u h1).2), (h u h1).2⟩
  · rw [List.mem_singleton.1 h1]
    exact ⟨Dt.kept hk _ hr (Dt.at_mono (fun b hb => hb.2) _ ha), ha⟩
theorem zwj {ts cs : List Dt} {i : Nat} (hl : cs.length = i) (hi : i < ts.length) : ∃ t, ts[i]? = some t ∧ t ∈ ts ∧ (cs ++ ts.drop i)[i]? = some t := by
  have ht := List.getElem?_eq_getElem hi
  refine ⟨ts[i], ht, List.getElem_mem hi, ?_⟩
  rw [List.getElem?_append_right (by omega), List.getElem?_drop, hl, Nat.sub_self, Nat.add_zero, ht]
theorem zrd {ts cs : List Dt} {i : Nat} (t : Dt) (hl : cs.length = i) (hi : i < ts.length) : (cs ++ ts.drop i).set i t = (cs ++ [t]) ++ ts.drop (i + 1) := by
  rw [List.set_append_right _ _ (by omega), hl, Nat.sub_self, List.drop_eq_getElem_cons hi, List.set_cons_zero, List.append_assoc]
  rfl
theorem zre {ts cs : List Dt} {i : Nat} {t u : Dt} (h : cs.map Dt.tr = (ts.take i).map Dt.tr) (hi : ts[i]? = some t) (hu : u.tr = t.tr) : (cs ++ [u]).map Dt.tr = (ts.take (i + 1)).map Dt.tr := by
  obtain ⟨hl, rfl⟩ := List.getElem?_eq_some_iff.1 hi
  rw [List.map_append, h, List.take_succ_eq_append_getElem hl, List.map_append, List.map_singleton, List.map_singleton, hu]
theorem zrf {ts : List Dt} {t : Dt} (h : t ∈ ts) : t.tr.bulk ≤ Tr.bulks (ts.map Dt.tr) := qhc (List.mem_map_of_mem h)
theorem qhg : ∀ ts : List Dt, ts.length ≤ Tr.bulks (ts.map Dt.tr)
  | [] => Nat.le_refl _
  | t :: ts => by
    have := qhg ts
    have h2 : 1 ≤ t.tr.bulk := by cases t; rw [Dt.tr_mk, km]; omega
    rw [List.map_cons, Tr.bulks, List.length_cons]; omega
theorem qzb {d : Nd} {ts : List Dt} : (Dt.mk d ts).tr.bulk = d.s.size + d.rl.length + (d.y.q.t1.length + d.y.q.q1.length + (d.y.q.t2.length + d.y.q.q2.length)) + 1 + Tr.bulks (ts.map Dt.tr) := by rw [Dt.tr_mk, km]
theorem vv (t : Dt) : t.cells.all Value.oneCell' = true := List.all_eq_true.2 (qoj t)
theorem quh {ts : List Dt} {i : Nat} {t : Dt} {us : List Dt} (h : i < ts.length) (he : ts.set i t = us) : over (cellsOf ts) (i * 11) (t.d.cells t.ts.length) = cellsOf us := he ▸ qug t h
def zl : Dt := .mk ⟨0, 0, ⟨Q6.zero, none, 0, none, 0, none, 0, none, 0⟩, ⟨#[]⟩, none, 0, [], none, 0⟩ []
theorem qcd : LenQ Q6.zero := ⟨by decide, by decide, by decide, by decide⟩
theorem zrg (w : World) (k : Int) (h0 : -9223372036854775808 ≤ k) (h1 : k ≤ 9223372036854775807) : (Dt.mk ⟨k, 0, ⟨Q6.zero, none, 0, none, 0, none, 0, none, 0⟩, ⟨#[]⟩, none, 0, [], none, 0⟩ []).rd w :=
  Dt.rd_iff.2 ⟨⟨⟨Sc.none w, Sc.none w, Sc.none w, Sc.none w⟩, qcd, ⟨fun h => absurd rfl h⟩, Nat.le_refl _, by show (0 : Nat) ≤ _; omega, h0, h1, by show (-9223372036854775808 : Int) ≤ 0; omega, by show (0 : Int) ≤ 9223372036854775807; omega, by show (0 : Nat) ≤ _; omega⟩, Nat.le_refl _, by show (0 : Nat) ≤ _; omega, fun h => absurd rfl h, fun t h => by cases h⟩
/-! ### What a shape says -/
theorem zza (t : Dt) : t.tr.k = t.d.k := by cases t; rw [Dt.tr_mk]; rfl
/-! ### Slices of data, and what is found in them -/
theorem zzb {w : World} {so : Option Addr} {ts : List Dt} (hR : Rt w so ts) (hD : ∀ t ∈ ts, t.rd w) {i : Nat} (hi : i < ts.length) : ∃ t b o, ts[i]? = some t ∧ t ∈ ts ∧ t.rd w ∧ so = some ⟨b, o, none⟩ ∧ Here w b (o + i * 11) (t.d.cells t.ts.length) := by
  obtain ⟨b, o, e, h2⟩ := hR (fun k => by subst k; simp at hi)
  have ht := List.getElem?_eq_getElem hi
  exact ⟨ts[i], b, o, ht, List.getElem_mem hi, hD _ (List.getElem_mem hi), e, h2 i _ ht⟩
/-- Where the first such one stands, or -1. -/
def qui (p : Dt → Bool) (ts : List Dt) : Int := if ts.any p = true then (ts.findIdx p : Int) else -1
theorem zrh {p : Dt → Bool} {ts : List Dt} {i : Nat} {t : Dt} (h : ∀ j u, j < i → ts[j]? = some u → p u = false) (hi : ts[i]? = some t) (hp : p t = true) : qui p ts = i := by
  obtain ⟨hl, e⟩ := List.getElem?_eq_some_iff.1 hi
  unfold qui
  rw [if_pos (List.any_eq_true.2 ⟨t, List.mem_of_getElem? hi, hp⟩)]
  congr 1
  rw [List.findIdx_eq hl]
  refine ⟨by rw [e]; exact hp, fun j hj => h j _ hj (List.getElem?_eq_getElem _)⟩
theorem zki {p : Dt → Bool} {ts : List Dt} (h : ∀ j u, j < ts.length → ts[j]? = some u → p u = false) : qui p ts = -1 := by
  unfold qui
  rw [if_neg]
  intro k
  obtain ⟨t, ht, hp⟩ := List.any_eq_true.1 k
  obtain ⟨j, hj⟩ := List.mem_iff_getElem?.1 ht
  rw [h j t (List.getElem?_eq_some_iff.1 hj).1 hj] at hp
  cases hp
theorem zcd (p : Dt → Bool) (ts : List Dt) : decide (0 ≤ qui p ts) = ts.any p := by
  unfold qui
  by_cases h : ts.any p = true
  · rw [if_pos h, h]; exact decide_eq_true (by omega)
  · rw [if_neg h, Bool.eq_false_iff.2 h]; rfl
/-- A function that is asked of data: what it answers; it changes nothing. -/
structure Asks (P : Program) (f : FuncId) (cs : List Value) (w0 : World) (ts : List Dt) (p : Dt → Bool) : Prop where
  inv : ∀ (us : Array Value) (w : World), (callFunc f us).run P w = .ok (.enter f us) w
  run : ∀ (t : Dt) (w : World), t ∈ ts → Below w0.heap.size w0 w → Calls P f ([Value.agg (t.d.cells t.ts.length).toArray] ++ cs).toArray w fun e w' => e = .returned (.bool (p t)) ∧ Below w.heap.size w w'
theorem qhh {t : Tr} (h : qz qx t = true) : uu qx t = true := by unfold qz at h; rw [Bool.and_eq_true] at h; exact h.2
/-! ### Lists that are joined -/
/-! ### A new pair -/
/-- The cells of these blocks stand there, too. -/
def Seen (p : Nat → Prop) (w w' : World) : Prop := ∀ b i v, p b → w.cell? ⟨b, i, none⟩ = some v → w'.cell? ⟨b, i, none⟩ = some v
theorem zri {p : Nat → Prop} {w w' : World} {so : Option Addr} {l : List Nat} (h : Rd w so l) (hi : In p so l) (hk : Seen p w w') : Rd w' so l := by
  refine ⟨h.dig, fun hne => ?_⟩
  obtain ⟨b, off, h1, h2, h3⟩ := h.pos hne
  have h4 : ∀ j, j < l.length → w'.cell? ⟨b, off + j, none⟩ = some (.int .u32 ((l.getD j 0 : Nat) : Int)) := fun j hj => hk _ _ _ (hi hne _ _ h1) (h3 j hj)
  exact ⟨b, off, h1, cell_lt (h4 0 (List.length_pos_iff.2 hne)), h4⟩
theorem zrj {p : Nat → Prop} {w w' : World} {so : Option Addr} {l : List UInt8} (h : Rb w so l) (hi : In p so l) (hk : Seen p w w') : Rb w' so l := by
  refine ⟨fun hne => ?_⟩
  obtain ⟨b, off, h1, h2, h3⟩ := h.pos hne
  exact ⟨b, off, h1, cell_lt (hk _ _ _ (hi hne _ _ h1) (h3 0 (List.length_pos_iff.2 hne))), fun j hj => hk _ _ _ (hi hne _ _ h1) (h3 j hj)⟩
theorem qkc {p : Nat → Prop} {w w' : World} {so : Option Addr} {c : Nat} {l : List Nat} (h : Sc w so c l) (hi : In p so l) (hk : Seen p w w') : Sc w' so c l := ⟨zri h.rd hi hk, h.nil, h.cap⟩
theorem NdOk.seen {p : Nat → Prop} {w w' : World} {d : Nd} (h : NdOk w d) (hi : d.at_ p) (hk : Seen p w w') : NdOk w' d := { h with num := ⟨qkc h.num.s1 hi.i1 hk, qkc h.num.s2 hi.i2 hk, qkc h.num.s3 hi.i3 hk, qkc h.num.s4 hi.i4 hk⟩, raw := zrj h.raw hi.i5 hk }
theorem Rt.seen {p : Nat → Prop} {w w' : World} {lo : Option Addr} {ts : List Dt} (h : Rt w lo ts) (hi : In p lo ts) (hk : Seen p w w') : Rt w' lo ts := fun hne => by
  obtain ⟨b, o, e, h2⟩ := h hne
  refine ⟨b, o, e, fun i t hi' => ?_⟩
  have h4 : ∀ j v, t.cells[j]? = some v → w'.cell? ⟨b, o + i * 11 + j, none⟩ = some v := fun j v hj => hk _ _ _ (hi hne _ _ e) ((h2 i t hi').2 j v hj)
  exact ⟨cell_lt (h4 0 _ rfl), h4⟩
theorem Dt.seen {p : Nat → Prop} {w w' : World} (hk : Seen p w w') : ∀ t : Dt, t.rd w → t.at_ p → t.rd w' :=
  Dt.indT fun d ts ih h hi => by
    rw [Dt.rd_iff] at h ⊢
    rw [Dt.at_iff] at hi
    exact ⟨h.1.seen hi.1 hk, h.2.1, h.2.2.1, h.2.2.2.1.seen hi.2.1 hk, fun t ht => ih t ht (h.2.2.2.2 t ht) (hi.2.2 t ht)⟩
/-- A datum stands wherever these pieces stand. -/
def Lives (T : List Ck) (t : Dt) : Prop := ∀ w0 w, Mg w0 w T → t.rd w
theorem Lives.sub {T T' : List Ck} {t : Dt} (h : Lives T t) (hs : T.Sublist T') : Lives T' t := fun w0 w hM => h w0 w (hM.sub hs)
theorem Lives.app {T : List Ck} {t : Dt} (h : Lives T t) (F : List Ck) : Lives (F ++ T) t := h.sub (List.sublist_append_right _ _)
theorem Lives.front {T : List Ck} {t : Dt} (h : Lives T t) (F : List Ck) : Lives (T ++ F) t := h.sub (List.sublist_append_left _ _)
theorem Lives.cons {T : List Ck} {t : Dt} (h : Lives T t) (c : Ck) : Lives (c :: T) t := h.sub (List.sublist_cons_self _ _)
theorem Mg.dropn {w0 w : World} {L : List Ck} (h : Mg w0 w L) (n : Nat) : Mg w0 w (L.drop n) := h.sub (List.drop_sublist _ _)
/-- So many blocks, from one on, as pieces. -/
def froz (w : World) : Nat → Nat → List Ck
  | _, 0 => []
  | k, n + 1 => match w.heap[k]? with
    | some o => .obj k o :: froz w (k + 1) n
    | none => froz w (k + 1) n
theorem um {w : World} : ∀ {n k : Nat} {c : Ck}, c ∈ froz w k n → ∃ b o, c = .obj b o ∧ k ≤ b ∧ w.heap[b]? = some o
  | 0, k, c, h => by cases h
  | n + 1, k, c, h => by
    rw [froz] at h
    cases e : w.heap[k]? with
    | none =>
      rw [e] at h
      obtain ⟨b, o, h1, h2, h3⟩ := um (n := n) h
      exact ⟨b, o, h1, by omega, h3⟩
    | some o =>
      rw [e] at h
      rcases List.mem_cons.1 h with h | h
      · exact ⟨k, o, h, Nat.le_refl _, e⟩
      · obtain ⟨b, o, h1, h2, h3⟩ := um (n := n) h
        exact ⟨b, o, h1, by omega, h3⟩
theorem quj {w : World} : ∀ {n k b : Nat} {o : Obj}, k ≤ b → b < k + n → w.heap[b]? = some o → Ck.obj b o ∈ froz w k n
  | 0, k, b, o, h1, h2, _ => by omega
  | n + 1, k, b, o, h1, h2, h => by
    rw [froz]
    by_cases e : k = b
    · subst e; rw [h]; exact List.mem_cons_self
    · have ih := quj (n := n) (k := k + 1) (b := b) (o := o) (by omega) (by omega) h
      cases w.heap[k]? with
      | none => exact ih
      | some o' => exact List.mem_cons_of_mem _ ih
theorem qhi {w : World} : ∀ (n k : Nat), (froz w k n).Pairwise Ap
  | 0, k => .nil
  | n + 1, k => by
    rw [froz]
    cases w.heap[k]? with
    | none => exact qhi n (k + 1)
    | some o =>
      refine List.pairwise_cons.2 ⟨fun c hc => ?_, qhi n (k + 1)⟩
      obtain ⟨b, o', rfl, h2, _⟩ := um hc
      show k ≠ b
      omega
theorem zkj {w : World} {n k : Nat} : jk (froz w k n) := fun c hc b bs e => by
  obtain ⟨b', o', h, _⟩ := um hc
  rw [h] at e; cases e
/-- What a call has made. -/
def made (w w' : World) : List Ck := froz w' w.heap.size (w'.heap.size - w.heap.size)
/-- What a call has made uj as it is. -/
theorem Mg.freeze {w0 w w' : World} {L : List Ck} (hM : Mg w0 w L) (hnb : jk L) (hb : Below w.heap.size w w') : Mg w0 w' (made w w' ++ L) := by
  have h2 := hM.call hb
  refine ⟨h2.bel, fun c hc => ?_, List.pairwise_append.2 ⟨qhi _ _, h2.dis, fun c hc d hd => ?_⟩⟩
  · rcases List.mem_append.1 hc with h | h
    · obtain ⟨b, o, rfl, h3, h4⟩ := um h
      exact ⟨Nat.le_trans hM.bel.size h3, h4⟩
    · exact h2.all c h
  · obtain ⟨b, o, rfl, h3, h4⟩ := um hc
    have hl := Ck.lt (hM.all d hd)
    cases d with
    | obj g' o' => intro e; subst e; have := (hl b rfl).2; omega
    | row e' sz' v' n' xs' => intro e; have := (hl b e).2; omega
    | bld b' bs' => exact absurd rfl (hnb _ hd b' bs')
theorem jt {w w' : World} {t : Dt} (h : t.rd w') (ha : t.at_ (w.heap.size ≤ ·)) : Lives (made w w') t := fun w1 w2 hM => by
  have hlt := Dt.at_lt t h
  refine Dt.seen (p := fun b => w.heap.size ≤ b) (fun b i v hb hc => ?_) t h ha
  have h1 := cell_lt hc
  have h2 : w'.heap[b]? = some (w'.heap[b]'h1) := Array.getElem?_eq_getElem h1
  have h3 := (hM.all _ (quj (w := w') (k := w.heap.size) (n := w'.heap.size - w.heap.size) hb (by show b < _; simp only at *; omega) h2)).2
  unfold World.cell? at hc ⊢
  simp only at hc ⊢
  rw [h3, ← h2]; exact hc
theorem ja {w w' : World} : jk (made w w') := zkj
theorem jb {L M : List Ck} (h : jk L) (k : jk M) : jk (L ++ M) := fun c hc => (List.mem_append.1 hc).elim (h c) (k c)
/-- .. between two parts of what there was. -/
theorem Mg.freezeAt {w0 w w' : World} {L : List Ck} (hM : Mg w0 w L) (n : Nat) (hnb : jk L) (hb : Below w.heap.size w w') : Mg w0 w' (L.take n ++ (made w w' ++ L.drop n)) := by
  refine (hM.freeze hnb hb).perm ?_
  rw [← List.append_assoc]
  refine List.Perm.trans ?_ (List.Perm.append_right _ List.perm_append_comm)
  rw [List.append_assoc, List.take_append_drop]
/-! ### Rows of structs -/
section
variable {α : Type} (f : α → List Value) (m : Nat)
def zk (xs : List α) : List Value := xs.flatMap f
variable {f m} (hf : ∀ x, (f x).length = m)
include hf in
theorem qlh : ∀ xs : List α, (zk f xs).length = xs.length * m
  | [] => by simp [zk]
  | x :: xs => by
    have := qlh xs
    unfold zk at this ⊢
    rw [List.flatMap_cons, List.length_append, hf, this, List.length_cons, Nat.add_mul, Nat.one_mul, Nat.add_comm]
theorem xr (a b : List α) : zk f (a ++ b) = zk f a ++ zk f b := List.flatMap_append
theorem yb (x : α) : zk f [x] = f x := by unfold zk; rw [List.flatMap_singleton]
include hf in
theorem qce : ∀ (xs : List α) (i : Nat), (zk f xs).drop (i * m) = zk f (xs.drop i)
  | xs, 0 => by rw [Nat.zero_mul]; rfl
  | [], i + 1 => by simp [zk]
  | x :: xs, i + 1 => by
    have := qce xs i
    rw [List.drop_succ_cons, ← this]
    unfold zk
    rw [List.flatMap_cons, show (i + 1) * m = (f x).length + i * m by rw [hf, Nat.add_mul, Nat.one_mul, Nat.add_comm], List.drop_append, List.drop_of_length_le (by omega), Nat.add_sub_cancel_left, List.nil_append]
include hf in
theorem qhj : ∀ (xs : List α) (i : Nat), (zk f xs).take (i * m) = zk f (xs.take i)
  | xs, 0 => by rw [Nat.zero_mul]; rfl
  | [], i + 1 => by simp [zk]
  | x :: xs, i + 1 => by
    have := qhj xs i
    rw [List.take_succ_cons]
    unfold zk at this ⊢
    rw [List.flatMap_cons, List.flatMap_cons, show (i + 1) * m = (f x).length + i * m by rw [hf, Nat.add_mul, Nat.one_mul, Nat.add_comm], List.take_length_add_append, this]
include hf in
theorem zsa {xs : List α} {i : Nat} {x : α} (h : xs[i]? = some x) : ((zk f xs).drop (i * m)).take m = f x := by
  obtain ⟨hi, rfl⟩ := List.getElem?_eq_some_iff.1 h
  rw [qce hf, List.drop_eq_getElem_cons hi]
  unfold zk
  rw [List.flatMap_cons, show m = (f xs[i]).length from (hf _).symm, List.take_left]
include hf in
theorem zla {xs : List α} {i : Nat} (x : α) (h : i < xs.length) : over (zk f xs) (i * m) (f x) = zk f (xs.set i x) := by
  rw [qqj (by rw [qlh hf, hf]; have := Nat.mul_le_mul_right m (show i + 1 ≤ xs.length by omega); rw [Nat.add_mul, Nat.one_mul] at this; exact this), hf, show i * m + m = (i + 1) * m by rw [Nat.add_mul, Nat.one_mul], qce hf, qhj hf, List.set_eq_take_append_cons_drop, if_pos h, xr]
  rw [show x :: xs.drop (i + 1) = [x] ++ xs.drop (i + 1) from rfl, xr, yb, List.append_assoc]
end
open Go.RowKit Go.MapKept
open Go.ChangeMaps (setBlock)
/-- An entry: its key, its value, its stamp. -/
structure En where
  k : Int
  v : Value
  b : Nat
def En.e (x : En) : MapEntry := ⟨.int .u64 x.k, x.v, x.b⟩
/-- A map as an object. -/
def zi (es : List En) (ck : Nat) : Obj := .map (es.map En.e).toArray ck
theorem xp (es : List En) (ck : Nat) : qab (zi es ck) := fun c fz e => by cases e
theorem qpa (m : Option Nat) (s : Nat) (seen : Array Nat) (c : Nat) : qab (.mapIter m s seen c) := fun c fz e => by cases e
/-- The entry of a key. -/
def atK (x : Int) : List En → Option En
  | [] => none
  | e :: es => if e.k = x then some e else atK x es
/-- .. where it stands. -/
def ko (x : Int) : List En → Nat
  | [] => 0
  | e :: es => if e.k = x then 0 else ko x es + 1
/-- A key's value is changed. -/
def un (x : Int) (v : Value) : List En → List En
  | [] => []
  | e :: es => if e.k = x then ⟨x, v, e.b⟩ :: es else e :: un x v es
/-- A key goes. -/
def qjf (x : Int) : List En → List En
  | [] => []
  | e :: es => if e.k = x then es else e :: qjf x es
theorem qva (x : Int) : ∀ (es : List En) (i : Nat), Instr.findNow (.int .u64) (.int .u64 x) (es.map En.e) i = some ((atK x es).map fun e => (i + ko x es, e.v))
  | [], _ => rfl
  | e :: es, i => by
    simp only [List.map_cons, Instr.findNow, En.e, Instr.sameNow, if_true, atK, ko]
    by_cases h : e.k = x
    · rw [if_pos h, if_pos h, h]; simp
    · rw [if_neg h, if_neg h]
      have : (x == e.k) = false := beq_false_of_ne (fun k => h k.symm)
      rw [this]
      have ih := qva x es (i + 1)
      simp only [En.e] at ih ⊢
      rw [ih]
      cases atK x es <;> simp <;> omega
theorem qzc {x : Int} : ∀ {es : List En} {e : En}, atK x es = some e → es[ko x es]? = some e ∧ e.k = x
  | [], _, h => by cases h
  | a :: es, e, h => by
    simp only [atK, ko] at h ⊢
    by_cases k : a.k = x
    · rw [if_pos k] at h; rw [if_pos k]; cases h; exact ⟨rfl, k⟩
    · rw [if_neg k] at h; rw [if_neg k]; exact qzc h
theorem qvb {x : Int} {v : Value} : ∀ {es : List En} {e : En}, atK x es = some e → un x v es = es.set (ko x es) ⟨x, v, e.b⟩
  | [], _, h => by cases h
  | a :: es, e, h => by
    simp only [atK, ko, un] at h ⊢
    by_cases k : a.k = x
    · rw [if_pos k] at h; rw [if_pos k, if_pos k]; cases h; rfl
    · rw [if_neg k] at h; rw [if_neg k, if_neg k, List.set_cons_succ, qvb h]
theorem qdi {x : Int} : ∀ {es : List En} {e : En}, atK x es = some e → qjf x es = es.eraseIdx (ko x es)
  | [], _, h => by cases h
  | a :: es, e, h => by
    simp only [atK, ko, qjf] at h ⊢
    by_cases k : a.k = x
    · rw [if_pos k, if_pos k]; rfl
    · rw [if_neg k] at h; rw [if_neg k, if_neg k, List.eraseIdx_cons_succ, qdi h]
section
variable {P : Program} {w0 w : World} {L : List Ck} {l : List (Nat × Value)} {dst : Option Tmp} {ty : TypeId} {pos : String} {after : Array Edge} {guard : Option (Nat × Bool)} {v : Value} {t kt et : TypeId}
theorem yu (hk : P.underlying kt = some (.int .u64)) (x : Int) (es : List En) : (Instr.findKey kt (.int .u64 x) (es.map En.e)).run P w = .ok ((atK x es).map fun e => (ko x es, e.v)) w := by
  have := MapKept.run_findKey (w := w) hk (qva x es 0)
  simpa using this
theorem Mg.setObj (h : Mg w0 w L) (k : Nat) {g : Nat} {o o' : Obj} (hk : L[k]? = some (.obj g o)) (hq : qab o') : Mg w0 (setBlock w g o') (L.set k (.obj g o')) := by
  have ho := h.obj k hk
  refine h.turn k hk (by simp) ⟨rfl, rfl, rfl, by simp [setBlock], fun j hj hne => (heap_set ho).2 j (fun e => hne (by rw [e]; rfl))⟩ ⟨(h.has k hk).1, (heap_set ho).1⟩ (fun c _ ha => ?_)
  cases c with
  | obj g' o' => exact ha
  | row e' sz' v' n' xs' => exact ha
  | bld b' bs' => exact ⟨ha.1, hq⟩
/-- A xx at a key that is there. -/
theorem ug (hM : Mg w0 w L) (ht : P.underlying t = some (.map kt et)) (hkt : P.underlying kt = some (.int .u64)) {x y : Operand} {c : Bool} {g ck : Nat} {z : Int} {es : List En} {e : En} (hx : ev l x = some (.map (some g))) (hy : ev l y = some (.int .u64 z)) (k : Nat) (hk : L[k]? = some (.obj g (zi es ck))) (he : atK z es = some e)
    (hv : v = cond c (.tuple #[e.v, .bool true]) e.v) : Does P l ⟨dst, .lookup t x y c, ty, pos, after, guard⟩ w v w := fun ρ h => by
  subst hv
  have h1 := MapKept.run_getObj_map (P := P) (hM.obj k hk)
  have h2 : ∀ b : Bool, (Instr.checkKey b 10000 kt (.int .u64 z)).run P w = .ok () w := fun b => MapKept.run_checkKey hkt (by simp [IsKey]) b 9999
  have h3 := yu (P := P) (w := w) hkt z es
  rw [he] at h3
  simp only [execOp, h x _ hx, h y _ hy, Instr.lookup, Sem.run_bind, run_underlying ht, Result.andThen_ok, h1, h2, h3, Option.map_some, Sem.run_pure]
  cases c <;> rfl
/-- .. that is not. -/
theorem qkd (hM : Mg w0 w L) (ht : P.underlying t = some (.map kt et)) (hkt : P.underlying kt = some (.int .u64)) {zv : Value} (hz : (P.info? et).map (·.zero) = some (some zv)) {x y : Operand} {c : Bool} {g ck : Nat} {z : Int} {es : List En} (hx : ev l x = some (.map (some g))) (hy : ev l y = some (.int .u64 z)) (k : Nat) (hk : L[k]? = some (.obj g (zi es ck))) (he : atK z es = none)
    (hv : v = cond c (.tuple #[zv, .bool false]) zv) : Does P l ⟨dst, .lookup t x y c, ty, pos, after, guard⟩ w v w := fun ρ h => by
  subst hv
  have h1 := MapKept.run_getObj_map (P := P) (hM.obj k hk)
  have h2 : ∀ b : Bool, (Instr.checkKey b 10000 kt (.int .u64 z)).run P w = .ok () w := fun b => MapKept.run_checkKey hkt (by simp [IsKey]) b 9999
  have h3 := yu (P := P) (w := w) hkt z es
  rw [he] at h3
  have h4 : (zeroValue et).run P w = .ok zv w := by
    cases hi : P.info? et with
    | none => rw [hi] at hz; cases hz
    | some i =>
      rw [hi] at hz
      simp only [Option.map_some, Option.some.injEq] at hz
      simp [zeroValue, typeInfo, hi, hz]
  simp only [execOp, h x _ hx, h y _ hy, Instr.lookup, Sem.run_bind, run_underlying ht, Result.andThen_ok, h1, h2, h3, Option.map_none, Sem.run_pure, h4]
  cases c <;> rfl
theorem qfe (hM : Mg w0 w L) (ht : P.underlying t = some (.map kt et)) (hkt : P.underlying kt = some (.int .u64)) {x y u : Operand} {g ck : Nat} {z : Int} {es : List En} (hx : ev l x = some (.map (some g))) (hy : ev l y = some (.int .u64 z)) (hu : ev l u = some v) (k : Nat) (hk : L[k]? = some (.obj g (zi es ck))) (he : atK z es = none) :
    Sets P l ⟨dst, .mapUpdate t x y u, ty, pos, after, guard⟩ w (setBlock w g (zi (es ++ [⟨z, v, ck⟩]) (ck + 1))) := fun ρ h => by
  have ho := hM.obj k hk
  have h1 := MapKept.run_getObj_map (P := P) ho
  have h2 : ∀ b : Bool, (Instr.checkKey b 10000 kt (.int .u64 z)).run P w = .ok () w := fun b => MapKept.run_checkKey hkt (by simp [IsKey]) b 9999
  have h3 := yu (P := P) (w := w) hkt z es
  rw [he] at h3
  have h4 := fun o' => MapKept.run_setObj_map (P := P) o' ho
  have e1 : (es.map En.e).toArray.push ⟨.int .u64 z, v, ck⟩ = ((es ++ [(⟨z, v, ck⟩ : En)]).map En.e).toArray := by simp [En.e]
  simp only [execOp, h x _ hx, h y _ hy, h u _ hu, Instr.mapUpdate, Sem.run_bind, run_underlying ht, Result.andThen_ok, h1, h2, h3, Option.map_none, Sem.run_pure, h4, e1]
  rfl
theorem qbb (hM : Mg w0 w L) (ht : P.underlying t = some (.map kt et)) (hkt : P.underlying kt = some (.int .u64)) {x y u : Operand} {g ck : Nat} {z : Int} {es : List En} {e : En} (hx : ev l x = some (.map (some g))) (hy : ev l y = some (.int .u64 z)) (hu : ev l u = some v) (k : Nat) (hk : L[k]? = some (.obj g (zi es ck))) (he : atK z es = some e) :
    Sets P l ⟨dst, .mapUpdate t x y u, ty, pos, after, guard⟩ w (setBlock w g (zi (un z v es) ck)) := fun ρ h => by
  have ho := hM.obj k hk
  have h1 := MapKept.run_getObj_map (P := P) ho
  have h2 : ∀ b : Bool, (Instr.checkKey b 10000 kt (.int .u64 z)).run P w = .ok () w := fun b => MapKept.run_checkKey hkt (by simp [IsKey]) b 9999
  have h3 := yu (P := P) (w := w) hkt z es
  rw [he] at h3
  have h4 := fun o' => MapKept.run_setObj_map (P := P) o' ho
  obtain ⟨ha, hz⟩ := qzc he
  have e0 : ((es.map En.e).toArray[ko z es]?) = some e.e := by simp [ha]
  have e2 : (Instr.keyThatStays (.int .u64 z) (.int .u64 z)).run P w = .ok (.int .u64 z) w := MapKept.run_keyThatStays (d := .int .u64) (by simp [IsKey])
  have e1 : (es.map En.e).toArray.modify (ko z es) (fun e => { e with key := .int .u64 z, val := v }) = ((un z v es).map En.e).toArray := by
    apply Array.ext'
    rw [Array.toList_modify, Go.ChangeMaps.modify_eq_set _ _ _ e.e (by simp [ha]), qvb he, List.map_set]
    rfl
  simp only [execOp, h x _ hx, h y _ hy, h u _ hu, Instr.mapUpdate, Sem.run_bind, run_underlying ht, Result.andThen_ok, h1, h2, h3, Option.map_some, Sem.run_pure, h4, e0, Option.getD_some, En.e, hz, e2]
  rw [e1]
  rfl
theorem zlb (hM : Mg w0 w L) (ht : P.underlying t = some (.map kt et)) (hkt : P.underlying kt = some (.int .u64)) {x y : Operand} {g ck : Nat} {z : Int} {es : List En} {e : En} (hx : ev l x = some (.map (some g))) (hy : ev l y = some (.int .u64 z)) (k : Nat) (hk : L[k]? = some (.obj g (zi es ck))) (he : atK z es = some e) :
    Does P l ⟨dst, .call ⟨.builtin .delete, #[x, y], #[t, kt]⟩, ty, pos, after, guard⟩ w (.tuple #[]) (setBlock w g (zi (qjf z es) ck)) := fun ρ h => by
  have ho := hM.obj k hk
  have h1 := MapKept.run_getObj_map (P := P) ho
  have h2 : ∀ b : Bool, (Instr.checkKey b 10000 kt (.int .u64 z)).run P w = .ok () w := fun b => MapKept.run_checkKey hkt (by simp [IsKey]) b 9999
  have h3 := yu (P := P) (w := w) hkt z es
  rw [he] at h3
  have h4 := fun o' => MapKept.run_setObj_map (P := P) o' ho
  obtain ⟨ha, hz⟩ := qzc he
  have e1 : (es.map En.e).toArray.eraseIdxIfInBounds (ko z es) = ((qjf z es).map En.e).toArray := by
    apply Array.ext'
    have hlt := (List.getElem?_eq_some_iff.1 ha).1
    unfold Array.eraseIdxIfInBounds
    rw [dif_pos (by simpa using hlt), qdi he, Go.ChangeMaps.map_eraseIdx]
    simp
  simp only [execOp, resolve, invoke, builtin, h x _ hx, h y _ hy, List.map_toArray, List.map_cons, List.map_nil, Sem.run_bind, Sem.run_pure, Result.andThen_ok, Builtin.delete_, run_underlying ht, h1, h2, h3, Option.map_some, h4, e1]
  simp [run_underlying ht, h1, h2, h3, h4, e1, Builtin.delete_, Result.andThen]
  rw [qdi he] at *
  simp [zi, setBlock, Go.ChangeMaps.map_eraseIdx]
section
variable {ops : List Oper} {Q : Exit → Act → World → Prop} {a : Act} {n : Nat} {o : Oper} {rest : List Oper} {d : Nat} {S : World → Prop} {md : Region.Mode} {fuel : Nat} {listed : Array Bool}
theorem qri : Does P l ⟨dst, .makeMap t none, ty, pos, after, guard⟩ w (.map (some w.heap.size)) (w.alloc (zi [] 0)) := fun ρ h => by
  simp [execOp, Instr.makeMap, zi]
/-- A new map. -/
theorem zfi (hA : Sl a n l) (hM : Mg w0 w L) (ho : o = ⟨dst, .makeMap t none, ty, pos, after, guard⟩) (hg : zn l ops o = true) (hdst : o.dst = some d) (hd : Nat.blt d n = true)
    (hk : ∀ g w', Mg w0 w' (.obj g (zi [] 0) :: L) → ∀ a', Sl a' n ((d, .map (some g)) :: l) → wpList P ops.toArray Q rest a' w') : wpList P ops.toArray Q (o :: rest) a w := by
  subst ho
  exact vw hA hg hdst hd qri (hk _ _ (hM.addObj _ (xp _ _)))
theorem kb (hA : Sl a n l) (hM : Mg w0 w L) (i : Nat) (hi : ops[i]? = some o) (hg : zn l ops o = true) (hdst : o.dst = none) {g : Nat} {o1 o2 : Obj} (he : Sets P l o w (setBlock w g o2)) (k : Nat) (hk0 : L[k]? = some (.obj g o1)) (hq : qab o2) {L' : List Ck} (hL : L.set k (.obj g o2) = L')
    (hk : ∀ w', Mg w0 w' L' → S w' ∧ wpAnyH P md ops.toArray Q S fuel (listed.setIfInBounds i true) a w') : wpOp P ops.toArray Q i (fun a' w' => S w' ∧ wpAnyH P md ops.toArray Q S fuel (listed.setIfInBounds i true) a' w') a w := by
  have h := hk _ (hL ▸ hM.setObj k hk0 hq)
  exact qgg hA i hi hg hdst he h.1 h.2
/-- A range over a map begins. -/
theorem zlc (hA : Sl a n l) (hM : Mg w0 w L) {x : Operand} {g ck : Nat} {es : List En} (ho : o = ⟨dst, .range t x, ty, pos, after, guard⟩) (ht : P.underlying t = some (.map kt et)) (hx : ev l x = some (.map (some g))) (k : Nat) (hk0 : L[k]? = some (.obj g (zi es ck))) (hg : zn l ops o = true) (hdst : o.dst = some d) (hd : Nat.blt d n = true)
    (hk : ∀ r w', Mg w0 w' (.obj r (.mapIter (some g) ck #[] ck) :: L) → ∀ a', Sl a' n ((d, .pointer (some ⟨r, 0, none⟩)) :: l) → wpList P ops.toArray Q rest a' w') : wpList P ops.toArray Q (o :: rest) a w := by
  refine vw hA hg hdst hd (v := .pointer (some ⟨w.heap.size, 0, none⟩)) (w' := w.alloc (.mapIter (some g) ck #[] ck)) ?_ (hk _ _ (hM.addObj _ (qpa _ _ _ _)))
  subst ho
  intro ρ h
  have := run_range_map (P := P) w t kt et g _ ck ht (hM.obj k hk0)
  simp only [execOp, h x _ hx, Sem.run_bind, this, Result.andThen_ok, Sem.run_pure]
/-- What is still to come. -/
def qpb (es : List En) (seen : List Nat) : List En := es.filter fun e => !seen.contains e.b
theorem qvc (es : List En) (seen : List Nat) : (leftOf (es.map En.e).toArray seen.toArray).toList = (qpb es seen).map En.e := by
  unfold leftOf qpb
  rw [Array.toList_filter, List.filter_map]
  congr 1
  apply List.filter_congr
  intro e _
  simp [En.e]
  exact decide_eq_decide.2 Iff.rfl
/-- .. goes on with any that is left, or is over. -/
theorem zsb (hA : Sl a n l) (hM : Mg w0 w L) {x : Operand} {r g ck since c0 : Nat} {seen : List Nat} {es : List En} (ho : o = ⟨dst, .next x false, ty, pos, after, guard⟩) (hx : ev l x = some (.pointer (some ⟨r, 0, none⟩))) (k j : Nat) (hk0 : L[k]? = some (.obj r (.mapIter (some g) since seen.toArray c0))) (hj0 : L[j]? = some (.obj g (zi es ck))) (hold : ∀ e ∈ es, e.b < since) (hsc : since ≤ c0) (hg : zn l ops o = true) (hdst : o.dst = some d) (hd : Nat.blt d n = true) {L' : En → List Ck} (hL : ∀ e, L.set k (.obj r (.mapIter (some g) since (seen ++ [e.b]).toArray ck)) = L' e)
    (h0 : qpb es seen = [] → ∀ a', Sl a' n ((d, .tuple #[.bool false]) :: l) → wpList P ops.toArray Q rest a' w)
    (h1 : ∀ e ∈ qpb es seen, ∀ w', Mg w0 w' (L' e) → ∀ a', Sl a' n ((d, .tuple #[.bool true, .int .u64 e.k, e.v]) :: l) → wpList P ops.toArray Q rest a' w') : wpList P ops.toArray Q (o :: rest) a w := by
  subst ho
  have hr := hM.obj k hk0
  have hb := hM.obj j hj0
  rcases run_next_at (P := P) w ty r g since c0 seen.toArray (es.map En.e).toArray ck hr hb (fun q hq => by
      simp only [List.mem_map] at hq
      obtain ⟨e, he, rfl⟩ := hq
      exact hold e he) hsc with ⟨hz, hrun⟩ | ⟨e, he, w1, hw1, hrun⟩
  · refine vw hA hg hdst hd (v := .tuple #[.bool false]) (w' := w) (fun ρ h => ?_) (h0 ?_)
    · simp only [execOp, h x _ hx, Sem.run_bind, hrun, Result.andThen_ok, Sem.run_pure]
    · have := qvc es seen
      rw [Array.eq_empty_of_size_eq_zero hz] at this
      exact List.map_eq_nil_iff.1 this.symm
  · rw [qvc] at he
    obtain ⟨q, hq, rfl⟩ := List.mem_map.1 he
    have hM1 : Mg w0 w1 L := by rcases hw1 with rfl | rfl; exact hM; exact hM.drew
    refine vw hA hg hdst hd (v := .tuple #[.bool true, .int .u64 q.k, q.v]) (w' := setBlock w1 r (.mapIter (some g) since (seen ++ [q.b]).toArray ck)) (fun ρ h => ?_) (h1 q hq _ (hL q ▸ hM1.setObj k hk0 (qpa _ _ _ _)))
    simp only [execOp, h x _ hx, Sem.run_bind, hrun, Result.andThen_ok, Sem.run_pure]
    simp [En.e]
/-- The entry that came last. -/
theorem zsc (hM : Mg w0 w L) {x : Operand} {r g ck since : Nat} {seen : List Nat} {es : List En} {e : En} (hx : ev l x = some (.pointer (some ⟨r, 0, none⟩))) (k j : Nat) (hk0 : L[k]? = some (.obj r (.mapIter (some g) since (seen ++ [e.b]).toArray ck))) (hj0 : L[j]? = some (.obj g (zi es ck))) (he : e ∈ es) (hn : (es.map En.b).Nodup) :
    Does P l ⟨dst, .entry x, ty, pos, after, guard⟩ w (.tuple #[.int .u64 e.k, e.v]) w := fun ρ h => by
  have hr := hM.obj k hk0
  rw [show (seen ++ [e.b]).toArray = seen.toArray.push e.e.born from by simp [En.e]] at hr
  have := run_entry_at (P := P) w r g since seen.toArray (es.map En.e).toArray ck e.e hr (hM.obj j hj0) (by simp; exact ⟨e, he, rfl⟩) (by simpa [List.map_map, Function.comp_def, En.e] using hn)
  simp only [execOp, h x _ hx, Sem.run_bind, this, Result.andThen_ok, Sem.run_pure]
  rfl
end
end
theorem qli {α : Type} : ∀ (L : List α) (k : Nat) (c : α), L[k]? = some c → L.Perm (c :: L.eraseIdx k)
  | [], _, _, h => by simp at h
  | a :: t, 0, c, h => by cases h; exact .refl _
  | a :: t, k + 1, c, h => ((qli t k c (by simpa using h)).cons a).trans (.swap c a _)
/-- A piece is put first. -/
theorem Mg.bring {w0 w : World} {L L' : List Ck} (h : Mg w0 w L) (k : Nat) {c : Ck} (hk : L[k]? = some c) (hL : c :: L.eraseIdx k = L') : Mg w0 w L' := by
  subst hL
  exact h.perm (qli L k c hk)
section
variable {P : Program} {t : TypeId} {x y : Operand}
theorem qbc {e : TypeId} (hu : P.underlying t = some (.pointer e)) {a : Addr} : ∀ w, (do eqGuard .eql t x y (.pointer (some a)) (.pointer none); binOp .eql t (.pointer (some a)) (.pointer none) : Sem Value).run P w = .ok (.bool false) w := fun w => by simp [go_sem, hu, run_underlying hu]
end
/-- The cells of an entry. -/
def ji (p : Nat) (k v : Dt) : List Value := .int .i64 (p : Int) :: (k.d.cells k.ts.length ++ v.d.cells v.ts.length)
/-- An entry: its place, its key, its value. -/
structure Et where
  p : Nat
  k : Dt
  v : Dt
def Et.c (e : Et) : List Value := ji e.p e.k e.v
theorem Et.c_len (e : Et) : e.c.length = 23 := rfl
/-- The entries of a hash. -/
structure Bk where
  h : Int
  so : Option Addr
  ca : Nat
  es : List Et
  b : Nat
def Bk.en (x : Bk) : En := ⟨x.h, .slice x.so x.es.length x.ca, x.b⟩
def Bk.row (T : TypeId) (x : Bk) : Ck := .row T 23 (.slice x.so x.es.length x.ca) x.es.length (zk Et.c x.es)
theorem qzd (es : List Et) : (zk Et.c es).length = es.length * 23 := qlh Et.c_len es
theorem zce {es : List Et} {i : Nat} {e : Et} (h : es[i]? = some e) : ((zk Et.c es).drop (i * 23)).take 23 = e.c := zsa Et.c_len h
theorem zxa {es : List Et} {i : Nat} (e : Et) (h : i < es.length) : over (zk Et.c es) (i * 23) e.c = zk Et.c (es.set i e) := zla Et.c_len e h
theorem qff (z : Int) : ∀ bs : List Bk, atK z (bs.map Bk.en) = (bs.find? fun x => decide (x.h = z)).map Bk.en
  | [] => rfl
  | x :: bs => by
    rw [List.map_cons, atK, List.find?_cons]
    by_cases h : x.h = z
    · rw [if_pos (show x.en.k = z from h), decide_eq_true h]; rfl
    · rw [if_neg (show ¬ x.en.k = z from h), decide_eq_false h]; exact qff z bs
/-- A xe that is there, brought to the front of the rows. -/
theorem zld {bs : List Bk} {x : Bk} {z : Int} (h : bs.find? (fun x => decide (x.h = z)) = some x) : ∃ A B, bs = A ++ x :: B ∧ x.h = z ∧ ∀ y ∈ A, y.h ≠ z := by
  obtain ⟨h1, A, B, h2, h3⟩ := List.find?_eq_some_iff_append.1 h
  exact ⟨A, B, h2, of_decide_eq_true h1, fun y hy => of_decide_eq_false (by simpa using h3 y hy)⟩
theorem qrj {A B : List Bk} {x : Bk} (hA : ∀ y ∈ A, y.h ≠ x.h) : atK x.h ((A ++ x :: B).map Bk.en) = some x.en := by
  rw [qff, List.find?_append, List.find?_eq_none.2 (fun y hy => by simpa using hA y hy)]
  simp
theorem qvd {A B : List Bk} {x y : Bk} (hA : ∀ y ∈ A, y.h ≠ x.h) (hh : y.h = x.h) (hb : y.b = x.b) : un x.h (.slice y.so y.es.length y.ca) ((A ++ x :: B).map Bk.en) = (A ++ y :: B).map Bk.en := by
  induction A with
  | nil =>
    rw [List.nil_append, List.map_cons, un, if_pos (show x.en.k = x.h from rfl), List.nil_append, List.map_cons]
    simp only [Bk.en, hh, hb]
  | cons a A ih =>
    rw [List.cons_append, List.map_cons, un, if_neg (show ¬ a.en.k = x.h from hA a List.mem_cons_self), ih (fun y hy => hA y (List.mem_cons_of_mem _ hy)), List.cons_append, List.map_cons]
theorem zle {A B : List Bk} {x : Bk} (hA : ∀ y ∈ A, y.h ≠ x.h) : qjf x.h ((A ++ x :: B).map Bk.en) = (A ++ B).map Bk.en := by
  induction A with
  | nil => rw [List.nil_append, List.map_cons, qjf, if_pos (show x.en.k = x.h from rfl), List.nil_append]
  | cons a A ih =>
    rw [List.cons_append, List.map_cons, qjf, if_neg (show ¬ a.en.k = x.h from hA a List.mem_cons_self), ih (fun y hy => hA y (List.mem_cons_of_mem _ hy)), List.cons_append, List.map_cons]
/-- Where the first such entry stands, or -1. -/
def yj (p : Et → Bool) (es : List Et) : Int := if es.any p = true then (es.findIdx p : Int) else -1
theorem qve {p : Et → Bool} {es : List Et} {i : Nat} {e : Et} (h : ∀ j u, j < i → es[j]? = some u → p u = false) (hi : es[i]? = some e) (hp : p e = true) : yj p es = i := by
  obtain ⟨hl, e1⟩ := List.getElem?_eq_some_iff.1 hi
  unfold yj
  rw [if_pos (List.any_eq_true.2 ⟨e, List.mem_of_getElem? hi, hp⟩)]
  congr 1
  rw [List.findIdx_eq hl]
  refine ⟨by rw [e1]; exact hp, fun j hj => h j _ hj (List.getElem?_eq_getElem _)⟩
theorem qpc {p : Et → Bool} {es : List Et} (h : ∀ j u, j < es.length → es[j]? = some u → p u = false) : yj p es = -1 := by
  unfold yj
  rw [if_neg]
  intro k
  obtain ⟨t, ht, hp⟩ := List.any_eq_true.1 k
  obtain ⟨j, hj⟩ := List.mem_iff_getElem?.1 ht
  rw [h j t (List.getElem?_eq_some_iff.1 hj).1 hj] at hp
  cases hp
section
variable {P : Program} {w0 w : World} {L : List Ck} {l : List (Nat × Value)} {dst : Option Tmp} {ty : TypeId} {pos : String} {after : Array Edge} {guard : Option (Nat × Bool)} {v : Value} {t kt et : TypeId}
theorem zxb {g ck : Nat} {es : List En} (ho : w.heap[g]? = some (zi es ck)) (ht : P.underlying t = some (.map kt et)) (hkt : P.underlying kt = some (.int .u64)) {x y : Operand} {c : Bool} {z : Int} {e : En} (hx : ev l x = some (.map (some g))) (hy : ev l y = some (.int .u64 z)) (he : atK z es = some e)
    (hv : v = cond c (.tuple #[e.v, .bool true]) e.v) : Does P l ⟨dst, .lookup t x y c, ty, pos, after, guard⟩ w v w := fun ρ h => by
  subst hv
  have h1 := MapKept.run_getObj_map (P := P) ho
  have h2 : ∀ b : Bool, (Instr.checkKey b 10000 kt (.int .u64 z)).run P w = .ok () w := fun b => MapKept.run_checkKey hkt (by simp [Go.MapKept.IsKey]) b 9999
  have h3 := yu (P := P) (w := w) hkt z es
  rw [he] at h3
  simp only [execOp, h x _ hx, h y _ hy, Instr.lookup, Sem.run_bind, run_underlying ht, Result.andThen_ok, h1, h2, h3, Option.map_some, Sem.run_pure]
  cases c <;> rfl
theorem zxc {g ck : Nat} {es : List En} (ho : w.heap[g]? = some (zi es ck)) (ht : P.underlying t = some (.map kt et)) (hkt : P.underlying kt = some (.int .u64)) {zv : Value} (hz : (P.info? et).map (·.zero) = some (some zv)) {x y : Operand} {c : Bool} {z : Int} (hx : ev l x = some (.map (some g))) (hy : ev l y = some (.int .u64 z)) (he : atK z es = none)
    (hv : v = cond c (.tuple #[zv, .bool false]) zv) : Does P l ⟨dst, .lookup t x y c, ty, pos, after, guard⟩ w v w := fun ρ h => by
  subst hv
  have h1 := MapKept.run_getObj_map (P := P) ho
  have h2 : ∀ b : Bool, (Instr.checkKey b 10000 kt (.int .u64 z)).run P w = .ok () w := fun b => MapKept.run_checkKey hkt (by simp [Go.MapKept.IsKey]) b 9999
  have h3 := yu (P := P) (w := w) hkt z es
  rw [he] at h3
  have h4 : (zeroValue et).run P w = .ok zv w := by
    cases hi : P.info? et with
    | none => rw [hi] at hz; cases hz
    | some i =>
      rw [hi] at hz
      simp only [Option.map_some, Option.some.injEq] at hz
      simp [zeroValue, typeInfo, hi, hz]
  simp only [execOp, h x _ hx, h y _ hy, Instr.lookup, Sem.run_bind, run_underlying ht, Result.andThen_ok, h1, h2, h3, Option.map_none, Sem.run_pure, h4]
  cases c <;> rfl
section
variable {ops : List Oper} {Q : Exit → Act → World → Prop} {a : Act} {n : Nat} {o : Oper} {rest : List Oper} {d : Nat} {S : World → Prop} {md : Region.Mode} {fuel : Nat} {listed : Array Bool}
theorem qsa (hA : Sl a n l) (hM : Mg w0 w L) (i : Nat) (hi : ops[i]? = some o) (hg : zn l ops o = true) (hdst : o.dst = some d) (hd : Nat.blt d n = true) {vs : List Value} {t : TypeId} (val : Nat → Value) (he : Does P l o w (val w.heap.size) (w.alloc (.cells vs.toArray t))) (ht : t ≠ BY)
    (hk : ∀ g w', Mg w0 w' (.obj g (.cells vs.toArray t) :: L) → w.heap.size ≤ g → Below w.heap.size w w' → S w' ∧ ∀ a', Sl a' n ((d, val g) :: l) → wpAnyH P md ops.toArray Q S fuel (listed.setIfInBounds i true) a' w') : wpOp P ops.toArray Q i (fun a' w' => S w' ∧ wpAnyH P md ops.toArray Q S fuel (listed.setIfInBounds i true) a' w') a w := by
  have h := hk _ _ (hM.addObj _ (ua ht)) (Nat.le_refl _) ((Below.refl _ w).alloc (Nat.le_refl _) _)
  exact xz hA i hi hg hdst hd he h.1 h.2
end
end
theorem Mg.b1 {w0 w : World} {c0 c1 : Ck} {L : List Ck} (h : Mg w0 w (c0 :: c1 :: L)) : Mg w0 w (c1 :: c0 :: L) := h.bring 1 rfl rfl
theorem Mg.b2 {w0 w : World} {c0 c1 c2 : Ck} {L : List Ck} (h : Mg w0 w (c0 :: c1 :: c2 :: L)) : Mg w0 w (c2 :: c0 :: c1 :: L) := h.bring 2 rfl rfl
theorem Mg.b3 {w0 w : World} {c0 c1 c2 c3 : Ck} {L : List Ck} (h : Mg w0 w (c0 :: c1 :: c2 :: c3 :: L)) : Mg w0 w (c3 :: c0 :: c1 :: c2 :: L) := h.bring 3 rfl rfl
theorem Mg.b4 {w0 w : World} {c0 c1 c2 c3 c4 : Ck} {L : List Ck} (h : Mg w0 w (c0 :: c1 :: c2 :: c3 :: c4 :: L)) : Mg w0 w (c4 :: c0 :: c1 :: c2 :: c3 :: L) := h.bring 4 rfl rfl
theorem Mg.b5 {w0 w : World} {c0 c1 c2 c3 c4 c5 : Ck} {L : List Ck} (h : Mg w0 w (c0 :: c1 :: c2 :: c3 :: c4 :: c5 :: L)) : Mg w0 w (c5 :: c0 :: c1 :: c2 :: c3 :: c4 :: L) := h.bring 5 rfl rfl
theorem Mg.b6 {w0 w : World} {c0 c1 c2 c3 c4 c5 c6 : Ck} {L : List Ck} (h : Mg w0 w (c0 :: c1 :: c2 :: c3 :: c4 :: c5 :: c6 :: L)) : Mg w0 w (c6 :: c0 :: c1 :: c2 :: c3 :: c4 :: c5 :: L) := h.bring 6 rfl rfl
theorem Mg.b7 {w0 w : World} {c0 c1 c2 c3 c4 c5 c6 c7 : Ck} {L : List Ck} (h : Mg w0 w (c0 :: c1 :: c2 :: c3 :: c4 :: c5 :: c6 :: c7 :: L)) : Mg w0 w (c7 :: c0 :: c1 :: c2 :: c3 :: c4 :: c5 :: c6 :: L) := h.bring 7 rfl rfl
def zvd (v : Value) : Bool := match v with | .int .u32 _ => false | _ => true
/-- A row of words does not lie in a block without words. -/
theorem qfg {w0 w : World} {L : List Ck} (hM : Mg w0 w L) (k : Nat) {g : Nat} {vs : List Value} {t : TypeId} (hk : L[k]? = some (.obj g (.cells vs.toArray t))) (hw : vs.all zvd = true) {so : Option Addr} {l : List Nat} (h : Rd w so l) : In (· ≠ g) so l := fun hne b o e => by
  intro hbg
  obtain ⟨b', off, h1, h2, h3⟩ := h.pos hne
  have e2 : b' = g := by rw [h1] at e; cases e; exact hbg
  have h4 := h3 0 (List.length_pos_iff.2 hne)
  rw [e2, cell_of_row w g _ vs.toArray t (0, 0) (hM.obj k hk)] at h4
  have h5 : Value.int .u32 ((l.getD 0 0 : Nat) : Int) ∈ vs := List.mem_of_getElem? (i := off + 0) (by simpa using h4)
  have := List.all_eq_true.1 hw _ h5
  cases this
/-- What a mark is made of. -/
def MadeOf (t m : Dt) (w : World) : Prop := m = t ∨ m.at_ (w.heap.size ≤ ·) ∨ (m.d.rl = [] ∧ m.ts = [])
/-- A mark does not lie in a block of the call's own. -/
theorem qlj {w w1 w2 : World} {L : List Ck} (hM : Mg w w1 L) (k : Nat) {g : Nat} {vs : List Value} {ty : TypeId} (hk : L[k]? = some (.obj g (.cells vs.toArray ty))) (hw : vs.all zvd = true) {t m : Dt} (ht : t.rd w) (hm : MadeOf t m w1) (hb : Below w1.heap.size w1 w2) (hr : m.rd w2) : m.at_ (· ≠ g) := by
  have hg := Ck.lt (hM.has k hk) g rfl
  rcases hm with rfl | h | ⟨h1, h2⟩
  · exact Dt.at_mono (fun b hb => by omega) _ (Dt.at_lt _ ht)
  · exact Dt.at_mono (fun b hb => by omega) _ h
  · have hM2 := hM.call hb
    cases m with
    | mk d ts =>
      simp only [Dt.d, Dt.ts] at h1 h2
      subst h2
      rw [Dt.rd_iff] at hr
      rw [Dt.at_iff]
      exact ⟨⟨qfg hM2 k hk hw hr.1.num.s1.rd, qfg hM2 k hk hw hr.1.num.s2.rd, qfg hM2 k hk hw hr.1.num.s3.rd, qfg hM2 k hk hw hr.1.num.s4.rd, fun hne => absurd h1 hne⟩, fun hne => absurd rfl hne, fun t ht => by cases ht⟩
/-- An entry of a row, as it stands. -/
theorem zzc {w : World} {so : Option Addr} {es : List Et} (h : Rc w so (zk Et.c es)) {i : Nat} (hi : i < es.length) : ∃ e b o, es[i]? = some e ∧ e ∈ es ∧ so = some ⟨b, o, none⟩ ∧ Here w b (o + i * 23) (ji e.p e.k e.v) := by
  have hne : zk Et.c es ≠ [] := fun e => by have := congrArg List.length e; rw [qzd] at this; simp at this; omega
  obtain ⟨b, o, e, hc⟩ := h hne
  have hi' := List.getElem?_eq_getElem hi
  have key : ∀ j v, (ji es[i].p es[i].k es[i].v)[j]? = some v → w.cell? ⟨b, o + i * 23 + j, none⟩ = some v := fun j v hj => by
    rw [Nat.add_assoc]
    refine hc _ _ ?_
    have hlt : j < 23 := by have := (List.getElem?_eq_some_iff.1 hj).1; exact this
    have h4 := zce hi'
    have h5 : (((zk Et.c es).drop (i * 23)).take 23)[j]? = some v := by rw [h4]; exact hj
    rw [List.getElem?_take, if_pos hlt, List.getElem?_drop] at h5
    exact h5
  exact ⟨es[i], b, o, hi', List.getElem_mem hi, e, cell_lt (key 0 _ rfl), key⟩
/-- A function that is asked of entries: what it answers; it changes nothing. -/
structure AskE (P : Program) (f : FuncId) (cs : List Value) (w0 : World) (es : List Et) (p : Et → Bool) : Prop where
  inv : ∀ (us : Array Value) (w : World), (callFunc f us).run P w = .ok (.enter f us) w
  run : ∀ (e : Et) (w : World), e ∈ es → Below w0.heap.size w0 w → Calls P f ([Value.agg (ji e.p e.k e.v).toArray] ++ cs).toArray w fun r w' => r = .returned (.bool (p e)) ∧ Below w.heap.size w w'
/-- The entries of a hash. -/
def xe (bs : List Bk) (z : Int) : List Et := match bs.find? (fun x => decide (x.h = z)) with
  | some x => x.es
  | none => []
set_option maxRecDepth 100000
theorem TrA_is1_28 : Is1 Tryz.prog 28 := ⟨⟨_, Tryz.underlying28, rfl⟩, by kernel_rfl⟩
theorem TrA_is1_3 : Is1 Tryz.prog 3 := ⟨⟨_, Tryz.underlying3, rfl⟩, by kernel_rfl⟩
theorem TrA_fld_38_0 : FieldAt Tryz.prog 38 0 0 := ⟨_, _, Tryz.underlying38, rfl, rfl, by kernel_rfl⟩
theorem TrA_fld_38_5 : FieldAt Tryz.prog 38 5 10 := ⟨_, _, Tryz.underlying38, rfl, rfl, by kernel_rfl⟩
/-- The walk of the size of a datum. -/
def FitsAt (t : Dt) : Prop := ∀ {w0 w : World} {b o gl : Nat} {left dp : Int} {T : List Ck}, t.rd w0 → Here w0 b o t.cells → Mg w0 w (.obj gl (.cells #[.int .i64 left] 3) :: T) → 0 ≤ left → left ≤ 20000 → 0 ≤ dp → dp ≤ 201 → Calls Tryz.prog 107 #[.pointer (some ⟨b, o, none⟩), .int .i64 dp, .pointer (some ⟨gl, 0, none⟩)] w fun e w' => e = .returned (.bool (jy dp left t.tr).1) ∧ Mg w0 w' (.obj gl (.cells #[.int .i64 (jy dp left t.tr).2] 3) :: T)
theorem qze : ∀ t : Dt, FitsAt t := Dt.indT fun d ts ih => by
 intro w0 w b o gl left dp T hrd hH hM0 hl0 hl1 hd0 hd1
 replace hH : Here w0 b o (d.cells ts.length) := hH
 have hok := (Dt.rd_iff.1 hrd)
 have hk0 := hok.1.k0
 have hk1 := hok.1.k1
 have hlen : ts.length ≤ 9223372036854775807 := Nat.le_trans hok.2.1 hok.2.2.1
 have M : Mg w0 w (.obj gl (.cells #[.int .i64 left] 3) :: T) := hM0
 refine qs (l := [(0, .pointer (some ⟨b, o, none⟩)), (1, .int .i64 dp), (2, .pointer (some ⟨gl, 0, none⟩))]) Tryz.func107 rfl Tryz.ntmps107 rfl rfl ?_
 intro Q hret hnorm hP a A
 refine wsk fun K1 hK1 => wrl (sda A λa A↦?_)
 refine qa (hK1 _ _ (wsk fun K2 hK2 => wrl (sdm A λa A↦?_)))
 refine sdo A (zf rfl) λa A↦?_
 refine sdo A (qk M TrA_is1_3 rfl 0 rfl rfl) λa A↦?_
 refine sdo (v := .int .i64 (left - 1)) A (qg rfl rfl (zqf (yy (by omega) (by omega)))) λa A↦?_
 refine sdo A (zf rfl) λa A↦?_
 refine zr (us := [.int .i64 (left - 1)]) (L' := (.obj gl (.cells #[.int .i64 (left - 1)] 3) :: T)) A M rfl rfl (za rfl rfl rfl (by kernel_rfl) M 0 rfl rfl rfl) 0 rfl rfl rfl ?_
 intro w3 M
 refine qa (hK2 _ _ (wsk fun K4 hK4 => wsk fun K5 hK5 => wrl (sdm A λa A↦?_)))
 refine sdo A (zf rfl) λa A↦?_
 refine sdo A (qk M TrA_is1_3 rfl 0 rfl rfl) λa A↦?_
 rcases tf (decide (left - 1 < 0)) with hb6 | hb6
 ·
  have hb6' := of_decide_eq_true hb6
  refine sdc A zq hb6 λa A↦?_
  refine sdm A λa A↦?_
  iterate 2 refine zg A rfl rfl rfl λa A↦?_
  refine sdk (v := .bool true) A λa A↦?_
  refine qa (hK5 _ _ (wp_cond_true (A.ev rfl) ?_))
  refine wsk fun K7 hK7 => wrl (sda A λa A↦?_)
  refine qa (hK7 _ _ (wp_ret (hret _ _ (en1 A rfl (qj rfl) ?_))))
  rw [zbe (by omega)]
  exact ⟨rfl, M⟩
 ·
  have hb6' := of_decide_eq_false hb6
  refine sdc A zq hb6 λa A↦?_
  iterate 2 refine sdm A λa A↦?_
  rcases tf (decide (200 < dp)) with hb8 | hb8
  ·
   have hb8' := of_decide_eq_true hb8
   refine sdc A xi hb8 λa A↦?_
   refine sdk (v := .bool true) A λa A↦?_
   refine qa (hK5 _ _ (wp_cond_true (A.ev rfl) ?_))
   refine wsk fun K9 hK9 => wrl (sda A λa A↦?_)
   refine qa (hK9 _ _ (wp_ret (hret _ _ (en1 A rfl (qj rfl) ?_))))
   rw [zbe (by omega)]
   exact ⟨rfl, M⟩
  ·
   have hb8' := of_decide_eq_false hb8
   refine sdc A xi hb8 λa A↦?_
   refine sdk (v := .bool false) A λa A↦?_
   refine qa (hK5 _ _ (wp_cond_false (A.ev rfl) ?_))
   refine wp_skip (hK4 _ _ (wsk fun K10 hK10 => wsk fun K11 hK11 => wrl (sdm A λa A↦?_)))
   refine sdo A (zf rfl) λa A↦?_
   refine sdo (v := .pointer (some ⟨b, o + 10, none⟩)) A (qb TrA_fld_38_5 rfl rfl) λa A↦?_
   refine sdo A (ub (j := 10) M hH TrA_is1_28 rfl rfl rfl) λa A↦?_
   refine sdo A (qy Tryz.underlying28 rfl) λa A↦?_
   refine sdm A λa A↦?_
   refine qa (hK11 _ _ (wp_block (jp (fun m_ a w1 => ∃ (i : Nat) (m : Int), m_ = 1 + (ts.length - i) ∧ (i ≤ ts.length ∧ qad dp (decide (d.k = 8)) 0 (left - 1) ((ts.map Dt.tr).drop 0) = qad dp (decide (d.k = 8)) i m ((ts.map Dt.tr).drop i) ∧ 0 ≤ m ∧ m ≤ 20000) ∧ Sl a 53 [(0, .pointer (some ⟨b, o, none⟩)), (1, .int .i64 dp), (2, .pointer (some ⟨gl, 0, none⟩)), (9, .pointer (some ⟨gl, 0, none⟩)), (10, .pointer (some ⟨gl, 0, none⟩)), (11, .int .i64 left), (12, .int .i64 (left - 1)), (13, .pointer (some ⟨gl, 0, none⟩)), (14, .pointer (some ⟨gl, 0, none⟩)), (15, .pointer (some ⟨gl, 0, none⟩)), (16, .int .i64 (left - 1)), (17, .bool false), (18, .bool false), (19, .int .i64 dp), (20, .bool false), (21, .bool false), (22, .pointer (some ⟨b, o, none⟩)), (23, .pointer (some ⟨b, o, none⟩)), (24, .pointer (some ⟨b, o + 10, none⟩)), (25, .slice d.lo ts.length d.lc), (26, .int .i64 (((ts.length : Nat) : Int))), (27, .int .i64 (((i : Nat) : Int)))] ∧ Mg w0 w1 (.obj gl (.cells #[.int .i64 m] 3) :: T)) _ ⟨0, left - 1, rfl, ⟨Nat.zero_le _, rfl, by omega, by omega⟩, A.keep _ (by repeat' constructor), M⟩ ?_)))
   clear M A
   rintro m_ a w12 ⟨i, m, rfl, hinv14, A, M⟩ K13 hK13
   obtain ⟨hi0, hin9, hm0, hm1⟩ := hinv14
   refine wsk fun K15 hK15 => wrl ?_
   rcases tf (decide (((i : Nat) : Int) < ((ts.length : Nat) : Int))) with hb16 | hb16
   ·
    have hb16' := of_decide_eq_true hb16
    refine sdc A zq hb16 λa A↦?_
    refine qa (hK15 _ _ (wsk fun K17 hK17 => wp_cond_true (A.ev rfl) ?_))
    refine wp_skip (hK17 _ _ (wsk fun K18 hK18 => wp_block (wsk fun K19 hK19 => wrl (sdm A λa A↦?_))))
    refine sda A λa A↦?_
    refine qa (hK19 _ _ (wsk fun K20 hK20 => wrl (sdm A λa A↦?_)))
    refine sdo (v := .int .i64 (dp + 1)) A (qg rfl rfl (vg (yy (by omega) (by omega)))) λa A↦?_
    refine sda A λa A↦?_
    refine qa (hK20 _ _ (wsk fun K21 hK21 => wsk fun K22 hK22 => wrl (sdm A λa A↦?_)))
    refine sdo A (zf rfl) λa A↦?_
    refine sdo (v := .pointer (some ⟨b, o, none⟩)) A (qb TrA_fld_38_0 rfl rfl) λa A↦?_
    refine sdo A (ub (j := 0) M hH TrA_is1_3 rfl rfl rfl) λa A↦?_
    rcases tf ((d.k == 8)) with hb23 | hb23
    ·
     have hb23' := eq_of_beq hb23
     refine sdc A qm hb23 λa A↦?_
     iterate 2 refine sdm A λa A↦?_
     rcases tf ((((i : Nat) : Int) == 1)) with hb24 | hb24
     ·
      have hb24' := eq_of_beq hb24
      refine sdc A qm hb24 λa A↦?_
      refine sdk (v := .bool true) A λa A↦?_
      refine qa (hK22 _ _ (wp_cond_true (A.ev rfl) ?_))
      refine wrl (sdm A λa A↦?_)
      refine sda A λa A↦?_
      refine qa (hK21 _ _ (wsk fun K25 hK25 => ?_))
      obtain ⟨t1, b1, o1, hi1, hm1, hr1, hl1, hH1⟩ := kid hrd (i := i) (by omega)
      have hD : (if decide (d.k = 8) = true ∧ i = 1 then dp else dp + 1) = dp := if_pos ⟨decide_eq_true hb23', by omega⟩
      refine wrl (sdm A λa A↦?_)
      refine sdo A (zf rfl) λa A↦?_
      refine sdo (v := .pointer (some ⟨b, o + 10, none⟩)) A (qb TrA_fld_38_5 rfl rfl) λa A↦?_
      refine sdo A (ub (j := 10) M hH TrA_is1_28 rfl rfl rfl) λa A↦?_
      refine sdm A λa A↦?_
      refine sdo (v := .pointer (some ⟨b1, o1 + i * 11, none⟩)) A (zu (k := i) Tryz.underlying28 (by kernel_rfl) rfl rfl rfl hl1 (by omega)) λa A↦?_
      iterate 2 refine sdm A λa A↦?_
      refine sct A (ef rfl rfl) (ih t1 hm1 hr1 hH1 M (by omega) (by omega) (by omega) (by omega)) ?_
      rintro _ w27 ⟨rfl, hM26⟩
      replace M : Mg w0 w27 (.obj gl (.cells #[.int .i64 ((jy (dp) m t1.tr).2)] 3) :: T) := hM26
      refine ⟨_, rfl, ?_⟩
      intro a A
      refine sdo (v := .bool (!((jy (dp) m t1.tr).1))) A (je rfl jl) λa A↦?_
      refine qa (hK25 _ _ ?_)
      refine wp_cond_split (t := !((jy (dp) m t1.tr).1)) (A.ev rfl) (fun hc28 => ?_) (fun hc28 => ?_)
      ·
       refine wsk fun K29 hK29 => wrl (sda A λa A↦?_)
       refine qa (hK29 _ _ (wp_ret (hret _ _ (en1 A rfl (qj rfl) ?_))))
       have hr9 : (jy (dp) m t1.tr).1 = false := by simpa using hc28
       have e9 : jy dp left (Dt.mk d ts).tr = (false, (jy (dp) m t1.tr).2) := by rw [qjh (by omega) (by omega), hin9, qha hi1 hD hr9]
       rw [e9]
       exact ⟨rfl, M⟩
      ·
       refine wp_skip (hK18 _ _ (wrl (sdo (v := .int .i64 (((i + 1 : Nat) : Int))) A (qg rfl rfl (fun w => (vg (yy (by omega) (by omega)) w).trans (by rw [show (((i : Nat) : Int) + 1 : Int) = ((i + 1 : Nat) : Int) from by omega]))) λa A↦?_)))
       refine sdm A λa A↦?_
       refine qa ?_
       have hr9 : (jy (dp) m t1.tr).1 = true := by simpa using hc28
       have hp9 := qqi t1.tr _ _ hr9
       have hl9 := qyf t1.tr (dp) m
       refine hK13 _ _ _ (by omega) ⟨i + 1, (jy (dp) m t1.tr).2, rfl, ⟨by omega, by rw [hin9, qrb hi1 hD hr9], by omega, by omega⟩, A.keep _ (by repeat' constructor), M⟩
     ·
      have hb24' := ne_of_beq_false hb24
      refine sdc A qm hb24 λa A↦?_
      refine sdk (v := .bool false) A λa A↦?_
      refine qa (hK22 _ _ (wp_cond_false (A.ev rfl) ?_))
      refine wp_skip (hK21 _ _ (wsk fun K30 hK30 => ?_))
      obtain ⟨t1, b1, o1, hi1, hm1, hr1, hl1, hH1⟩ := kid hrd (i := i) (by omega)
      have hD : (if decide (d.k = 8) = true ∧ i = 1 then dp else dp + 1) = dp + 1 := if_neg (fun e => by omega)
      refine wrl (sdm A λa A↦?_)
      refine sdo A (zf rfl) λa A↦?_
      refine sdo (v := .pointer (some ⟨b, o + 10, none⟩)) A (qb TrA_fld_38_5 rfl rfl) λa A↦?_
      refine sdo A (ub (j := 10) M hH TrA_is1_28 rfl rfl rfl) λa A↦?_
      refine sdm A λa A↦?_
      refine sdo (v := .pointer (some ⟨b1, o1 + i * 11, none⟩)) A (zu (k := i) Tryz.underlying28 (by kernel_rfl) rfl rfl rfl hl1 (by omega)) λa A↦?_
      iterate 2 refine sdm A λa A↦?_
      refine sct A (ef rfl rfl) (ih t1 hm1 hr1 hH1 M (by omega) (by omega) (by omega) (by omega)) ?_
      rintro _ w32 ⟨rfl, hM31⟩
      replace M : Mg w0 w32 (.obj gl (.cells #[.int .i64 ((jy (dp + 1) m t1.tr).2)] 3) :: T) := hM31
      refine ⟨_, rfl, ?_⟩
      intro a A
      refine sdo (v := .bool (!((jy (dp + 1) m t1.tr).1))) A (je rfl jl) λa A↦?_
      refine qa (hK30 _ _ ?_)
      refine wp_cond_split (t := !((jy (dp + 1) m t1.tr).1)) (A.ev rfl) (fun hc33 => ?_) (fun hc33 => ?_)
      ·
       refine wsk fun K34 hK34 => wrl (sda A λa A↦?_)
       refine qa (hK34 _ _ (wp_ret (hret _ _ (en1 A rfl (qj rfl) ?_))))
       have hr9 : (jy (dp + 1) m t1.tr).1 = false := by simpa using hc33
       have e9 : jy dp left (Dt.mk d ts).tr = (false, (jy (dp + 1) m t1.tr).2) := by rw [qjh (by omega) (by omega), hin9, qha hi1 hD hr9]
       rw [e9]
       exact ⟨rfl, M⟩
      ·
       refine wp_skip (hK18 _ _ (wrl (sdo (v := .int .i64 (((i + 1 : Nat) : Int))) A (qg rfl rfl (fun w => (vg (yy (by omega) (by omega)) w).trans (by rw [show (((i : Nat) : Int) + 1 : Int) = ((i + 1 : Nat) : Int) from by omega]))) λa A↦?_)))
       refine sdm A λa A↦?_
       refine qa ?_
       have hr9 : (jy (dp + 1) m t1.tr).1 = true := by simpa using hc33
       have hp9 := qqi t1.tr _ _ hr9
       have hl9 := qyf t1.tr (dp + 1) m
       refine hK13 _ _ _ (by omega) ⟨i + 1, (jy (dp + 1) m t1.tr).2, rfl, ⟨by omega, by rw [hin9, qrb hi1 hD hr9], by omega, by omega⟩, A.keep _ (by repeat' constructor), M⟩
    ·
     have hb23' := ne_of_beq_false hb23
     refine sdc A qm hb23 λa A↦?_
     refine sdm A λa A↦?_
     iterate 2 refine zg A rfl rfl rfl λa A↦?_
     refine sdk (v := .bool false) A λa A↦?_
     refine qa (hK22 _ _ (wp_cond_false (A.ev rfl) ?_))
     refine wp_skip (hK21 _ _ (wsk fun K35 hK35 => ?_))
     obtain ⟨t1, b1, o1, hi1, hm1, hr1, hl1, hH1⟩ := kid hrd (i := i) (by omega)
     have hD : (if decide (d.k = 8) = true ∧ i = 1 then dp else dp + 1) = dp + 1 := if_neg (fun e => hb23' (of_decide_eq_true e.1))
     refine wrl (sdm A λa A↦?_)
     refine sdo A (zf rfl) λa A↦?_
     refine sdo (v := .pointer (some ⟨b, o + 10, none⟩)) A (qb TrA_fld_38_5 rfl rfl) λa A↦?_
     refine sdo A (ub (j := 10) M hH TrA_is1_28 rfl rfl rfl) λa A↦?_
     refine sdm A λa A↦?_
     refine sdo (v := .pointer (some ⟨b1, o1 + i * 11, none⟩)) A (zu (k := i) Tryz.underlying28 (by kernel_rfl) rfl rfl rfl hl1 (by omega)) λa A↦?_
     iterate 2 refine sdm A λa A↦?_
     refine sct A (ef rfl rfl) (ih t1 hm1 hr1 hH1 M (by omega) (by omega) (by omega) (by omega)) ?_
     rintro _ w37 ⟨rfl, hM36⟩
     replace M : Mg w0 w37 (.obj gl (.cells #[.int .i64 ((jy (dp + 1) m t1.tr).2)] 3) :: T) := hM36
     refine ⟨_, rfl, ?_⟩
     intro a A
     refine sdo (v := .bool (!((jy (dp + 1) m t1.tr).1))) A (je rfl jl) λa A↦?_
     refine qa (hK35 _ _ ?_)
     refine wp_cond_split (t := !((jy (dp + 1) m t1.tr).1)) (A.ev rfl) (fun hc38 => ?_) (fun hc38 => ?_)
     ·
      refine wsk fun K39 hK39 => wrl (sda A λa A↦?_)
      refine qa (hK39 _ _ (wp_ret (hret _ _ (en1 A rfl (qj rfl) ?_))))
      have hr9 : (jy (dp + 1) m t1.tr).1 = false := by simpa using hc38
      have e9 : jy dp left (Dt.mk d ts).tr = (false, (jy (dp + 1) m t1.tr).2) := by rw [qjh (by omega) (by omega), hin9, qha hi1 hD hr9]
      rw [e9]
      exact ⟨rfl, M⟩
     ·
      refine wp_skip (hK18 _ _ (wrl (sdo (v := .int .i64 (((i + 1 : Nat) : Int))) A (qg rfl rfl (fun w => (vg (yy (by omega) (by omega)) w).trans (by rw [show (((i : Nat) : Int) + 1 : Int) = ((i + 1 : Nat) : Int) from by omega]))) λa A↦?_)))
      refine sdm A λa A↦?_
      refine qa ?_
      have hr9 : (jy (dp + 1) m t1.tr).1 = true := by simpa using hc38
      have hp9 := qqi t1.tr _ _ hr9
      have hl9 := qyf t1.tr (dp + 1) m
      refine hK13 _ _ _ (by omega) ⟨i + 1, (jy (dp + 1) m t1.tr).2, rfl, ⟨by omega, by rw [hin9, qrb hi1 hD hr9], by omega, by omega⟩, A.keep _ (by repeat' constructor), M⟩
   ·
    have hb16' := of_decide_eq_false hb16
    refine sdc A zq hb16 λa A↦?_
    refine qa (hK15 _ _ (wsk fun K40 hK40 => wp_cond_false (A.ev rfl) ?_))
    refine wp_exit (hK10 _ _ (wsk fun K41 hK41 => wrl (sda A λa A↦?_)))
    refine qa (hK41 _ _ (wp_ret (hret _ _ (en1 A rfl (qj rfl) ?_))))
    have e9 : jy dp left (Dt.mk d ts).tr = (true, m) := by rw [qjh (by omega) (by omega), hin9, qbi (by omega), qad]
    rw [e9]
    exact ⟨rfl, M⟩
end Go.Proofs.YtjlpecapebhgjaaGreatDoor.G
namespace Go.Proofs
open Go.Shelf
def Tryz.lays119_ren : Go.Shelf.Ren := ⟨fun | 119 => 167 | n => n, fun | 21 => 21 | 4 => 4 | n => n, fun | n => n⟩
theorem Tryz.lays119 : Go.Proofs.Lays.n119 Tryz.prog Tryz.lays119_ren := {
  mixed := by kernel_rfl
  f119 := Tryz.func167.trans (congrArg some (by kernel_rfl))
  t4 := Tryz.underlying4
  a4 := Tryz.isAgg4
  z4 := Tryz.sizeOf4
  v4 := Tryz.zeroValue4
  t21 := Tryz.underlying21
  a21 := Tryz.isAgg21
  z21 := Tryz.sizeOf21
  v21 := Tryz.zeroValue21 }
theorem Tryz.utf8_ValidRune (r : Int) (w : World) :
    Calls Tryz.prog 167 #[.int .i32 r] w fun e w' => e = .returned (.bool (Lib.validRune r)) ∧ w' = w := Any.utf8_ValidRune Tryz.lays119 r w
def Tryz.laysValid_ren : Go.Shelf.Ren := ⟨fun | 196 => 138 | 259 => 168 | n => n, fun | 9 => 9 | 4 => 4 | 3 => 3 | 5 => 5 | 12 => 12 | 119 => 184 | 0 => 0 | 46 => 111 | 139 => 187 | 138 => 186 | 53 => 67 | n => n, fun | 3 => 0 | 4 => 1 | n => n⟩
theorem Tryz.laysValid : Go.Proofs.Lays.n196 Tryz.prog Tryz.laysValid_ren := {
  mixed := by kernel_rfl
  f196 := Tryz.func138.trans (congrArg some (by kernel_rfl))
  f259 := Tryz.func168.trans (congrArg some (by kernel_rfl))
  t0 := Tryz.underlying0
  a0 := Tryz.isAgg0
  z0 := Tryz.sizeOf0
  v0 := Tryz.zeroValue0
  t3 := Tryz.underlying3
  a3 := Tryz.isAgg3
  z3 := Tryz.sizeOf3
  v3 := Tryz.zeroValue3
  t4 := Tryz.underlying4
  a4 := Tryz.isAgg4
  z4 := Tryz.sizeOf4
  v4 := Tryz.zeroValue4
  t5 := Tryz.underlying5
  a5 := Tryz.isAgg5
  z5 := Tryz.sizeOf5
  v5 := Tryz.zeroValue5
  t9 := Tryz.underlying9
  a9 := Tryz.isAgg9
  z9 := Tryz.sizeOf9
  v9 := Tryz.zeroValue9
  t12 := Tryz.underlying12
  a12 := Tryz.isAgg12
  z12 := Tryz.sizeOf12
  v12 := Tryz.zeroValue12
  t46 := Tryz.underlying111
  a46 := Tryz.isAgg111
  z46 := Tryz.sizeOf111
  v46 := Tryz.zeroValue111
  t53 := Tryz.underlying67
  a53 := Tryz.isAgg67
  z53 := Tryz.sizeOf67
  v53 := Tryz.zeroValue67
  t119 := Tryz.underlying184
  a119 := Tryz.isAgg184
  z119 := Tryz.sizeOf184
  t138 := Tryz.underlying186
  a138 := Tryz.isAgg186
  z138 := Tryz.sizeOf186
  v138 := Tryz.zeroValue186
  t139 := Tryz.underlying187
  a139 := Tryz.isAgg187
  z139 := Tryz.sizeOf187
  v139 := Tryz.zeroValue187
  g3 := by kernel_rfl
  g4 := by kernel_rfl }
end Go.Proofs
namespace Go.Proofs.YtjlpecapebhgjaaGreatDoor.G
open Go.RowKit
set_option linter.unusedVariables false
set_option linter.unusedSimpArgs false
set_option maxRecDepth 100000
theorem TrB_is1_28 : Is1 Tryz.prog 28 := ⟨⟨_, Tryz.underlying28, rfl⟩, by kernel_rfl⟩
theorem TrB_is1_3 : Is1 Tryz.prog 3 := ⟨⟨_, Tryz.underlying3, rfl⟩, by kernel_rfl⟩
theorem TrB_is1_31 : Is1 Tryz.prog 31 := ⟨⟨_, Tryz.underlying31, rfl⟩, by kernel_rfl⟩
theorem TrB_is1_36 : Is1 Tryz.prog 36 := ⟨⟨_, Tryz.underlying36, rfl⟩, by kernel_rfl⟩
theorem TrB_is1_4 : Is1 Tryz.prog 4 := ⟨⟨_, Tryz.underlying4, rfl⟩, by kernel_rfl⟩
theorem TrB_is1_9 : Is1 Tryz.prog 9 := ⟨⟨_, Tryz.underlying9, rfl⟩, by kernel_rfl⟩
theorem TrB_fld_33_0 : FieldAt Tryz.prog 33 0 0 := ⟨_, _, Tryz.underlying33, rfl, rfl, by kernel_rfl⟩
theorem TrB_fld_33_1 : FieldAt Tryz.prog 33 1 1 := ⟨_, _, Tryz.underlying33, rfl, rfl, by kernel_rfl⟩
theorem TrB_fld_33_2 : FieldAt Tryz.prog 33 2 2 := ⟨_, _, Tryz.underlying33, rfl, rfl, by kernel_rfl⟩
theorem TrB_fld_35_0 : FieldAt Tryz.prog 35 0 0 := ⟨_, _, Tryz.underlying35, rfl, rfl, by kernel_rfl⟩
theorem TrB_fld_35_1 : FieldAt Tryz.prog 35 1 3 := ⟨_, _, Tryz.underlying35, rfl, rfl, by kernel_rfl⟩
theorem TrB_fld_38_0 : FieldAt Tryz.prog 38 0 0 := ⟨_, _, Tryz.underlying38, rfl, rfl, by kernel_rfl⟩
theorem TrB_fld_38_1 : FieldAt Tryz.prog 38 1 1 := ⟨_, _, Tryz.underlying38, rfl, rfl, by kernel_rfl⟩
theorem TrB_fld_38_2 : FieldAt Tryz.prog 38 2 2 := ⟨_, _, Tryz.underlying38, rfl, rfl, by kernel_rfl⟩
theorem TrB_fld_38_3 : FieldAt Tryz.prog 38 3 8 := ⟨_, _, Tryz.underlying38, rfl, rfl, by kernel_rfl⟩
theorem TrB_fld_38_4 : FieldAt Tryz.prog 38 4 9 := ⟨_, _, Tryz.underlying38, rfl, rfl, by kernel_rfl⟩
theorem TrB_fld_38_5 : FieldAt Tryz.prog 38 5 10 := ⟨_, _, Tryz.underlying38, rfl, rfl, by kernel_rfl⟩
theorem TrB_isS_33 : IsS Tryz.prog 33 3 := ⟨⟨_, Tryz.underlying33⟩, by kernel_rfl⟩
theorem TrB_isS_35 : IsS Tryz.prog 35 6 := ⟨⟨_, Tryz.underlying35⟩, by kernel_rfl⟩
theorem TrB_isS_38 : IsS Tryz.prog 38 11 := ⟨⟨_, Tryz.underlying38⟩, by kernel_rfl⟩
/-- The library's tables of characters are there. -/
def Tabs8 (w : World) : Prop := Lib.Utf8Tabs (Tryz.laysValid_ren.g 3) (Tryz.laysValid_ren.g 4) w
theorem Tabs8.below {w w' : World} (h : Tabs8 w) (hb : Below w.heap.size w w') : Tabs8 w' := Utf8Tabs_below h hb
theorem yp {w : World} {s : ByteArray} (hs : s.size ≤ 9223372036854775807) (hT : Tabs8 w) {b : Bool} (h : okS s = b) : Calls Tryz.prog 138 #[.string s] w fun e w' => e = .returned (.bool b) ∧ Below w.heap.size w w' := h ▸ Any.utf8_ValidString Tryz.laysValid s w hs hT
theorem zfj {w : World} {r : Int} : Calls Tryz.prog 167 #[.int .i32 r] w fun e w' => e = .returned (.bool (Lib.validRune r)) ∧ Below w.heap.size w w' := (Tryz.utf8_ValidRune r w).mono fun e w' ⟨h, e2⟩ => ⟨h, e2 ▸ Below.refl _ _⟩
theorem qsb {P : Program} {s d : TypeId} (hs : P.underlying s = some (.int .i64)) (hd : P.underlying d = some (.int .i32)) {n : Int} (h0 : 0 ≤ n) (h1 : n ≤ 1114111) : ∀ w, (convert s d (.int .i64 n)).run P w = .ok (.int .i32 n) w := fun w => by
 simp [go_sem, run_underlying hs, run_underlying hd, convert]
 exact in_i32 (by omega) (by omega)
theorem qvf {w : World} {n : Int} : Calls Tryz.prog 137 #[.int .i64 n] w fun e w' => e = .returned (.bool (qdd n)) ∧ Below w.heap.size w w' := by
 have M : Mg w w ([]) := Mg.start w
 refine qs (l := [(0, .int .i64 n)]) Tryz.func137 rfl Tryz.ntmps137 rfl rfl ?_
 intro Q hret hnorm hP a A
 refine wsk fun K1 hK1 => wrl (sda A λa A↦?_)
 refine qa (hK1 _ _ (wsk fun K2 hK2 => wrl (sdm A λa A↦?_)))
 rcases tf (decide (0 ≤ n)) with hb3 | hb3
 ·
  have hb3' := of_decide_eq_true hb3
  refine sdc A kp hb3 λa A↦?_
  iterate 2 refine sdm A λa A↦?_
  rcases tf (decide (n ≤ 1114111)) with hb4 | hb4
  ·
   have hb4' := of_decide_eq_true hb4
   refine sdc A qqh hb4 λa A↦?_
   refine sdk (v := .bool true) A λa A↦?_
   iterate 2 refine sdm A λa A↦?_
   refine sdo (v := .int .i32 n) A (jq rfl (qsb Tryz.underlying3 Tryz.underlying21 (by omega) (by omega))) λa A↦?_
   refine gcl A M (ef rfl rfl) (zfj) fun w5 hbv M a A => ?_
   refine sdo (v := .bool (Lib.validRune n)) A (vf rfl rfl rfl rfl) λa A↦?_
   refine sda A λa A↦?_
   refine qa (hK2 _ _ (wp_ret (hret _ _ (en1 A rfl (qj rfl) ?_))))
   exact ⟨by rw [show qdd n = Lib.validRune n from by unfold qdd; unfold Lib.validRune; exact decide_eq_decide.2 (by omega)], M.bel⟩
  ·
   have hb4' := of_decide_eq_false hb4
   refine sdc A qqh hb4 λa A↦?_
   refine sdk (v := .bool false) A λa A↦?_
   refine sdm A λa A↦?_
   iterate 3 refine zg A rfl rfl rfl λa A↦?_
   refine sdk (v := .bool false) A λa A↦?_
   refine sda A λa A↦?_
   refine qa (hK2 _ _ (wp_ret (hret _ _ (en1 A rfl (qj rfl) ?_))))
   exact ⟨by rw [show qdd n = false from by unfold qdd; apply decide_eq_false; omega], M.bel⟩
 ·
  have hb3' := of_decide_eq_false hb3
  refine sdc A kp hb3 λa A↦?_
  refine sdm A λa A↦?_
  iterate 2 refine zg A rfl rfl rfl λa A↦?_
  refine sdk (v := .bool false) A λa A↦?_
  refine sdm A λa A↦?_
  iterate 3 refine zg A rfl rfl rfl λa A↦?_
  refine sdk (v := .bool false) A λa A↦?_
  refine sda A λa A↦?_
  refine qa (hK2 _ _ (wp_ret (hret _ _ (en1 A rfl (qj rfl) ?_))))
  exact ⟨by rw [show qdd n = false from by unfold qdd; apply decide_eq_false; omega], M.bel⟩
theorem yk {w : World} {b : Bool} {o1 o2 : Option Addr} {m1 m2 c1 c2 : Nat} (h1 : m1 ≤ 9223372036854775807) (h2 : m2 ≤ 9223372036854775807) {r : Bool} (hr : qhb b m1 m2 = r) : Calls Tryz.prog 169 #[.agg #[.bool b, .slice o1 m1 c1, .slice o2 m2 c2]] w fun e w' => e = .returned (.bool r) ∧ Below w.heap.size w w' := by
 have M : Mg w w ([]) := Mg.start w
 refine qs (l := [(0, .agg #[.bool b, .slice o1 m1 c1, .slice o2 m2 c2])]) Tryz.func169 rfl Tryz.ntmps169 rfl rfl ?_
 intro Q hret hnorm hP a A
 refine wsk fun K1 hK1 => wrl (zx (vs := [.bool b, .slice o1 m1 c1, .slice o2 m2 c2]) (t := 33) A M rfl rfl rfl pg (qr rfl rfl) (by decide) ?_)
 intro g2 w3 M a A
 refine sda A λa A↦?_
 refine qa (hK1 _ _ (wsk fun K4 hK4 => wrl (sdo (v := .pointer (some ⟨g2, 0, none⟩)) A (qb TrB_fld_33_0 rfl rfl) λa A↦?_)))
 refine sdo A (qk M TrB_is1_4 rfl 0 rfl rfl) λa A↦?_
 rcases b with _ | _
 ·
  refine sdo (v := .bool true) A (je rfl jl) λa A↦?_
  refine sdm A λa A↦?_
  refine sdo (v := .pointer (some ⟨g2, 1, none⟩)) A (qb TrB_fld_33_1 rfl rfl) λa A↦?_
  refine sdo A (qk M TrB_is1_31 rfl 0 rfl rfl) λa A↦?_
  refine sdo A (qy Tryz.underlying31 rfl) λa A↦?_
  rcases tf ((((m1 : Nat) : Int) == 0)) with hb5 | hb5
  ·
   have hb5' := eq_of_beq hb5
   refine sdc A qm hb5 λa A↦?_
   refine sdk (v := .bool true) A λa A↦?_
   refine sdm A λa A↦?_
   refine sdo (v := .pointer (some ⟨g2, 2, none⟩)) A (qb TrB_fld_33_2 rfl rfl) λa A↦?_
   refine sdo A (qk M TrB_is1_31 rfl 0 rfl rfl) λa A↦?_
   refine sdo A (qy Tryz.underlying31 rfl) λa A↦?_
   rcases tf ((((m2 : Nat) : Int) == 0)) with hb6 | hb6
   ·
    have hb6' := eq_of_beq hb6
    refine sdc A qm hb6 λa A↦?_
    refine sdk (v := .bool true) A λa A↦?_
    refine sda A λa A↦?_
    refine qa (hK4 _ _ (wp_ret (hret _ _ (en1 A rfl (qj rfl) ?_))))
    subst hr
    exact ⟨by unfold qhb; simp_all; try omega, M.bel⟩
   ·
    have hb6' := ne_of_beq_false hb6
    refine sdc A qm hb6 λa A↦?_
    refine sdk (v := .bool false) A λa A↦?_
    refine sda A λa A↦?_
    refine qa (hK4 _ _ (wp_ret (hret _ _ (en1 A rfl (qj rfl) ?_))))
    subst hr
    exact ⟨by unfold qhb; simp_all; try omega, M.bel⟩
  ·
   have hb5' := ne_of_beq_false hb5
   refine sdc A qm hb5 λa A↦?_
   refine sdk (v := .bool false) A λa A↦?_
   refine sdm A λa A↦?_
   iterate 4 refine zg A rfl rfl rfl λa A↦?_
   refine sdk (v := .bool false) A λa A↦?_
   refine sda A λa A↦?_
   refine qa (hK4 _ _ (wp_ret (hret _ _ (en1 A rfl (qj rfl) ?_))))
   subst hr
   exact ⟨by unfold qhb; simp_all; try omega, M.bel⟩
 ·
  refine sdo (v := .bool false) A (je rfl jl) λa A↦?_
  refine sdm A λa A↦?_
  iterate 4 refine zg A rfl rfl rfl λa A↦?_
  refine sdk (v := .bool false) A λa A↦?_
  refine sdm A λa A↦?_
  iterate 4 refine zg A rfl rfl rfl λa A↦?_
  refine sdk (v := .bool false) A λa A↦?_
  refine sda A λa A↦?_
  refine qa (hK4 _ _ (wp_ret (hret _ _ (en1 A rfl (qj rfl) ?_))))
  subst hr
  exact ⟨by unfold qhb; simp_all; try omega, M.bel⟩
theorem zlf {w : World} {k n : Int} {b1 b2 : Bool} {o1 o2 o3 o4 ro lo : Option Addr} {m1 m2 m3 m4 mr ml c1 c2 c3 c4 rc lc : Nat} {s : ByteArray} (h1 : m1 ≤ 9223372036854775807) (h2 : m2 ≤ 9223372036854775807) (h3 : m3 ≤ 9223372036854775807) (h4 : m4 ≤ 9223372036854775807) {r : Bool} (hr : vi n b1 m1 m2 b2 m3 m4 s mr ml = r) : Calls Tryz.prog 139 #[.agg #[.int .i64 k, .int .i64 n, .bool b1, .slice o1 m1 c1, .slice o2 m2 c2, .bool b2, .slice o3 m3 c3, .slice o4 m4 c4, .string s, .slice ro mr rc, .slice lo ml lc]] w fun e w' => e = .returned (.bool r) ∧ Below w.heap.size w w' := by
 have M : Mg w w ([]) := Mg.start w
 refine qs (l := [(0, .agg #[.int .i64 k, .int .i64 n, .bool b1, .slice o1 m1 c1, .slice o2 m2 c2, .bool b2, .slice o3 m3 c3, .slice o4 m4 c4, .string s, .slice ro mr rc, .slice lo ml lc])]) Tryz.func139 rfl Tryz.ntmps139 rfl rfl ?_
 intro Q hret hnorm hP a A
 refine wsk fun K1 hK1 => wrl (zx (vs := [.int .i64 k, .int .i64 n, .bool b1, .slice o1 m1 c1, .slice o2 m2 c2, .bool b2, .slice o3 m3 c3, .slice o4 m4 c4, .string s, .slice ro mr rc, .slice lo ml lc]) (t := 38) A M rfl rfl rfl pg (qr rfl rfl) (by decide) ?_)
 intro g2 w3 M a A
 refine sda A λa A↦?_
 refine qa (hK1 _ _ (wsk fun K4 hK4 => wrl (sdo (v := .pointer (some ⟨g2, 1, none⟩)) A (qb TrB_fld_38_1 rfl rfl) λa A↦?_)))
 refine sdo A (qk M TrB_is1_3 rfl 0 rfl rfl) λa A↦?_
 rcases tf ((n == 0)) with hb5 | hb5
 ·
  have hb5' := eq_of_beq hb5
  refine sdc A qm hb5 λa A↦?_
  refine sdm A λa A↦?_
  refine sdo (v := .pointer (some ⟨g2, 2, none⟩)) A (qb TrB_fld_38_2 rfl rfl) λa A↦?_
  refine sdo (v := .pointer (some ⟨g2, 2, none⟩)) A (qb TrB_fld_35_0 rfl rfl) λa A↦?_
  refine sdo A (qw M TrB_isS_33 rfl 0 rfl (cs := [.bool b1, .slice o1 m1 c1, .slice o2 m2 c2]) rfl rfl) λa A↦?_
  rcases tf (qhb b1 m1 m2) with hb6 | hb6
  ·
   refine gcl A M (ef rfl rfl) (yk h1 h2 hb6) fun w8 hb7 M a A => ?_
   refine sdk (v := .bool true) A λa A↦?_
   refine sdm A λa A↦?_
   refine sdo (v := .pointer (some ⟨g2, 2, none⟩)) A (qb TrB_fld_38_2 rfl rfl) λa A↦?_
   refine sdo (v := .pointer (some ⟨g2, 5, none⟩)) A (qb TrB_fld_35_1 rfl rfl) λa A↦?_
   refine sdo A (qw M TrB_isS_33 rfl 0 rfl (cs := [.bool b2, .slice o3 m3 c3, .slice o4 m4 c4]) rfl rfl) λa A↦?_
   rcases tf (qhb b2 m3 m4) with hb9 | hb9
   ·
    refine gcl A M (ef rfl rfl) (yk h3 h4 hb9) fun w11 hb10 M a A => ?_
    refine sdk (v := .bool true) A λa A↦?_
    refine sdm A λa A↦?_
    refine sdo (v := .pointer (some ⟨g2, 8, none⟩)) A (qb TrB_fld_38_3 rfl rfl) λa A↦?_
    refine sdo A (qk M TrB_is1_9 rfl 0 rfl rfl) λa A↦?_
    rcases tf (decide (s = ⟨#[]⟩)) with hb12 | hb12
    ·
     have hb12' := of_decide_eq_true hb12
     refine sdo (v := .bool true) A (qg rfl rfl (fun w => (qth Tryz.underlying9 w).trans (by rw [hb12] <;> rfl))) λa A↦?_
     refine sdk (v := .bool true) A λa A↦?_
     refine sdm A λa A↦?_
     refine sdo (v := .pointer (some ⟨g2, 9, none⟩)) A (qb TrB_fld_38_4 rfl rfl) λa A↦?_
     refine sdo A (qk M TrB_is1_36 rfl 0 rfl rfl) λa A↦?_
     refine sdo A (qy Tryz.underlying36 rfl) λa A↦?_
     rcases tf ((((mr : Nat) : Int) == 0)) with hb13 | hb13
     ·
      have hb13' := eq_of_beq hb13
      refine sdc A qm hb13 λa A↦?_
      refine sdk (v := .bool true) A λa A↦?_
      refine sdm A λa A↦?_
      refine sdo (v := .pointer (some ⟨g2, 10, none⟩)) A (qb TrB_fld_38_5 rfl rfl) λa A↦?_
      refine sdo A (qk M TrB_is1_28 rfl 0 rfl rfl) λa A↦?_
      refine sdo A (qy Tryz.underlying28 rfl) λa A↦?_
      rcases tf ((((ml : Nat) : Int) == 0)) with hb14 | hb14
      ·
       have hb14' := eq_of_beq hb14
       refine sdc A qm hb14 λa A↦?_
       refine sdk (v := .bool true) A λa A↦?_
       refine sda A λa A↦?_
       refine qa (hK4 _ _ (wp_ret (hret _ _ (en1 A rfl (qj rfl) ?_))))
       subst hr
       exact ⟨by unfold vi; simp_all, M.bel⟩
      ·
       have hb14' := ne_of_beq_false hb14
       refine sdc A qm hb14 λa A↦?_
       refine sdk (v := .bool false) A λa A↦?_
       refine sda A λa A↦?_
       refine qa (hK4 _ _ (wp_ret (hret _ _ (en1 A rfl (qj rfl) ?_))))
       subst hr
       exact ⟨by unfold vi; simp_all, M.bel⟩
     ·
      have hb13' := ne_of_beq_false hb13
      refine sdc A qm hb13 λa A↦?_
      refine sdk (v := .bool false) A λa A↦?_
      refine sdm A λa A↦?_
      iterate 4 refine zg A rfl rfl rfl λa A↦?_
      refine sdk (v := .bool false) A λa A↦?_
      refine sda A λa A↦?_
      refine qa (hK4 _ _ (wp_ret (hret _ _ (en1 A rfl (qj rfl) ?_))))
      subst hr
      exact ⟨by unfold vi; simp_all, M.bel⟩
    ·
     have hb12' := of_decide_eq_false hb12
     refine sdo (v := .bool false) A (qg rfl rfl (fun w => (qth Tryz.underlying9 w).trans (by rw [hb12] <;> rfl))) λa A↦?_
     refine sdk (v := .bool false) A λa A↦?_
     refine sdm A λa A↦?_
     iterate 4 refine zg A rfl rfl rfl λa A↦?_
     refine sdk (v := .bool false) A λa A↦?_
     refine sdm A λa A↦?_
     iterate 4 refine zg A rfl rfl rfl λa A↦?_
     refine sdk (v := .bool false) A λa A↦?_
     refine sda A λa A↦?_
     refine qa (hK4 _ _ (wp_ret (hret _ _ (en1 A rfl (qj rfl) ?_))))
     subst hr
     exact ⟨by unfold vi; simp_all, M.bel⟩
   ·
    refine gcl A M (ef rfl rfl) (yk h3 h4 hb9) fun w16 hb15 M a A => ?_
    refine sdk (v := .bool false) A λa A↦?_
    refine sdm A λa A↦?_
    iterate 3 refine zg A rfl rfl rfl λa A↦?_
    refine sdk (v := .bool false) A λa A↦?_
    refine sdm A λa A↦?_
    iterate 4 refine zg A rfl rfl rfl λa A↦?_
    refine sdk (v := .bool false) A λa A↦?_
    refine sdm A λa A↦?_
    iterate 4 refine zg A rfl rfl rfl λa A↦?_
    refine sdk (v := .bool false) A λa A↦?_
    refine sda A λa A↦?_
    refine qa (hK4 _ _ (wp_ret (hret _ _ (en1 A rfl (qj rfl) ?_))))
    subst hr
    exact ⟨by unfold vi; simp_all, M.bel⟩
  ·
   refine gcl A M (ef rfl rfl) (yk h1 h2 hb6) fun w18 hb17 M a A => ?_
   refine sdk (v := .bool false) A λa A↦?_
   refine sdm A λa A↦?_
   iterate 4 refine zg A rfl rfl rfl λa A↦?_
   refine sdk (v := .bool false) A λa A↦?_
   refine sdm A λa A↦?_
   iterate 3 refine zg A rfl rfl rfl λa A↦?_
   refine sdk (v := .bool false) A λa A↦?_
   refine sdm A λa A↦?_
   iterate 4 refine zg A rfl rfl rfl λa A↦?_
   refine sdk (v := .bool false) A λa A↦?_
   refine sdm A λa A↦?_
   iterate 4 refine zg A rfl rfl rfl λa A↦?_
   refine sdk (v := .bool false) A λa A↦?_
   refine sda A λa A↦?_
   refine qa (hK4 _ _ (wp_ret (hret _ _ (en1 A rfl (qj rfl) ?_))))
   subst hr
   exact ⟨by unfold vi; simp_all, M.bel⟩
 ·
  have hb5' := ne_of_beq_false hb5
  refine sdc A qm hb5 λa A↦?_
  refine sdm A λa A↦?_
  iterate 4 refine zg A rfl rfl rfl λa A↦?_
  refine sdk (v := .bool false) A λa A↦?_
  refine sdm A λa A↦?_
  iterate 4 refine zg A rfl rfl rfl λa A↦?_
  refine sdk (v := .bool false) A λa A↦?_
  refine sdm A λa A↦?_
  iterate 3 refine zg A rfl rfl rfl λa A↦?_
  refine sdk (v := .bool false) A λa A↦?_
  refine sdm A λa A↦?_
  iterate 4 refine zg A rfl rfl rfl λa A↦?_
  refine sdk (v := .bool false) A λa A↦?_
  refine sdm A λa A↦?_
  iterate 4 refine zg A rfl rfl rfl λa A↦?_
  refine sdk (v := .bool false) A λa A↦?_
  refine sda A λa A↦?_
  refine qa (hK4 _ _ (wp_ret (hret _ _ (en1 A rfl (qj rfl) ?_))))
  subst hr
  exact ⟨by unfold vi; simp_all, M.bel⟩
theorem qma {w : World} {d : Nd} {ts : List Dt} (hok : NdOk w d) (hT : Tabs8 w) : Calls Tryz.prog 108 #[.agg (d.cells ts.length).toArray] w fun e w' => e = .returned (.bool (js d.k d.n d.y.q d.s d.rl.length ts.length)) ∧ Below w.heap.size w w' := by
 have hq1 := hok.len.l1
 have hq2 := hok.len.l2
 have hq3 := hok.len.l3
 have hq4 := hok.len.l4
 have M : Mg w w ([]) := Mg.start w
 refine qs (l := [(0, .agg (d.cells ts.length).toArray)]) Tryz.func108 rfl Tryz.ntmps108 rfl rfl ?_
 intro Q hret hnorm hP a A
 refine wsk fun K1 hK1 => wrl (zx (vs := [.int .i64 d.k, .int .i64 d.n, .bool d.y.q.b1, .slice d.y.o1 d.y.q.t1.length d.y.c1, .slice d.y.o2 d.y.q.q1.length d.y.c2, .bool d.y.q.b2, .slice d.y.o3 d.y.q.t2.length d.y.c3, .slice d.y.o4 d.y.q.q2.length d.y.c4, .string d.s, .slice d.ro d.rl.length d.rc, .slice d.lo ts.length d.lc]) (t := 38) A M rfl rfl rfl pg (qr rfl rfl) (by decide) ?_)
 intro g2 w3 M a A
 refine sda A λa A↦?_
 refine qa (hK1 _ _ (wsk fun K4 hK4 => wrl (sda A λa A↦?_)))
 refine qa (hK4 _ _ (wsk fun K5 hK5 => ?_))
 have hJ6 : ∀ a w1, (∃ (ok : Bool) (z1 : Int) (z2 : Bool) (y1 : Option Addr) (m1 : Nat) (e1 : Nat) (y2 : Option Addr) (m2 : Nat) (e2 : Nat) (z3 : Bool) (y3 : Option Addr) (m3 : Nat) (e3 : Nat) (y4 : Option Addr) (m4 : Nat) (e4 : Nat) (zs : ByteArray) (yr : Option Addr) (mr : Nat) (er : Nat) (yl : Option Addr) (ml : Nat) (el : Nat), (js d.k d.n d.y.q d.s d.rl.length ts.length = (ok && vi z1 z2 m1 m2 z3 m3 m4 zs mr ml) ∧ m1 ≤ 9223372036854775807 ∧ m2 ≤ 9223372036854775807 ∧ m3 ≤ 9223372036854775807 ∧ m4 ≤ 9223372036854775807) ∧ Sl a 59 [(0, .agg (d.cells ts.length).toArray), (1, .pointer (some ⟨g2, 0, none⟩)), (2, .bool false), (3, .bool ok)] ∧ Mg w w1 (.obj g2 (.cells #[.int .i64 d.k, .int .i64 z1, .bool z2, .slice y1 m1 e1, .slice y2 m2 e2, .bool z3, .slice y3 m3 e3, .slice y4 m4 e4, .string zs, .slice yr mr er, .slice yl ml el] 38) :: [])) → K5 a w1 := by
  clear A M
  rintro a w7 ⟨ok, z1, z2, y1, m1, e1, y2, m2, e2, z3, y3, m3, e3, y4, m4, e4, zs, yr, mr, er, yl, ml, el, hf8, A, M⟩
  obtain ⟨hsh, hq1, hq2, hq3, hq4⟩ := hf8
  refine hK5 _ _ (wsk fun K9 hK9 => wrl ?_)
  iterate 2 refine sdm A λa A↦?_
  rcases ok with _ | _
  ·
   iterate 2 refine zg A rfl rfl rfl λa A↦?_
   refine sdk (v := .bool false) A λa A↦?_
   refine sda A λa A↦?_
   refine qa (hK9 _ _ (wp_ret (hret _ _ (en1 A rfl (qj rfl) ?_))))
   exact ⟨by rw [hsh]; rfl, M.bel⟩
  ·
   refine sdo A (qw M TrB_isS_38 rfl 0 rfl (cs := [.int .i64 d.k, .int .i64 z1, .bool z2, .slice y1 m1 e1, .slice y2 m2 e2, .bool z3, .slice y3 m3 e3, .slice y4 m4 e4, .string zs, .slice yr mr er, .slice yl ml el]) rfl rfl) λa A↦?_
   refine gcl A M (ef rfl rfl) (zlf (by first | exact hq1 | omega) (by first | exact hq2 | omega) (by first | exact hq3 | omega) (by first | exact hq4 | omega) rfl) fun w11 hb10 M a A => ?_
   refine sdo (v := .bool (vi z1 z2 m1 m2 z3 m3 m4 zs mr ml)) A (vf rfl rfl rfl rfl) λa A↦?_
   refine sda A λa A↦?_
   refine qa (hK9 _ _ (wp_ret (hret _ _ (en1 A rfl (qj rfl) ?_))))
   exact ⟨by rw [hsh]; rfl, M.bel⟩
 refine wsk fun K12 hK12 => wrl (sdo (v := .pointer (some ⟨g2, 0, none⟩)) A (qb TrB_fld_38_0 rfl rfl) λa A↦?_)
 refine sdo A (qk M TrB_is1_3 rfl 0 rfl rfl) λa A↦?_
 refine qa (hK12 _ _ (wp_block (wsk fun K13 hK13 => wsk fun K14 hK14 => wrl ?_)))
 rcases tf ((d.k == 1)) with hb15 | hb15
 ·
  have hb15' := eq_of_beq hb15
  refine sdc A qm hb15 λa A↦?_
  refine sda A λa A↦?_
  refine qa (hK14 _ _ (wp_cond_true (A.ev rfl) ?_))
  refine wp_skip (hK13 _ _ (wp_cond_true (A.ev rfl) ?_))
  refine wp_skip ?_
  exact hJ6 _ _ ⟨true, d.n, d.y.q.b1, d.y.o1, d.y.q.t1.length, d.y.c1, d.y.o2, d.y.q.q1.length, d.y.c2, d.y.q.b2, d.y.o3, d.y.q.t2.length, d.y.c3, d.y.o4, d.y.q.q2.length, d.y.c4, d.s, d.ro, d.rl.length, d.rc, d.lo, ts.length, d.lc, ⟨by
   unfold js
   repeat (first | rw [if_pos (by omega)] | rw [if_neg (by omega)])
   first | rfl, by first | exact hq1 | decide, by first | exact hq2 | decide, by first | exact hq3 | decide, by first | exact hq4 | decide⟩, A.keep _ ⟨rfl, rfl, rfl, rfl, trivial⟩, M⟩
 ·
  have hb15' := ne_of_beq_false hb15
  refine sdc A qm hb15 λa A↦?_
  refine sda A λa A↦?_
  refine qa (hK14 _ _ (wp_cond_false (A.ev rfl) ?_))
  refine wrl ?_
  rcases tf ((d.k == 10)) with hb16 | hb16
  ·
   have hb16' := eq_of_beq hb16
   refine sdc A qm hb16 λa A↦?_
   refine sda A λa A↦?_
   refine qa (hK13 _ _ (wp_cond_true (A.ev rfl) ?_))
   refine wp_skip ?_
   exact hJ6 _ _ ⟨true, d.n, d.y.q.b1, d.y.o1, d.y.q.t1.length, d.y.c1, d.y.o2, d.y.q.q1.length, d.y.c2, d.y.q.b2, d.y.o3, d.y.q.t2.length, d.y.c3, d.y.o4, d.y.q.q2.length, d.y.c4, d.s, d.ro, d.rl.length, d.rc, d.lo, ts.length, d.lc, ⟨by
    unfold js
    repeat (first | rw [if_pos (by omega)] | rw [if_neg (by omega)])
    first | rfl, by first | exact hq1 | decide, by first | exact hq2 | decide, by first | exact hq3 | decide, by first | exact hq4 | decide⟩, A.keep _ ⟨rfl, rfl, rfl, rfl, trivial⟩, M⟩
  ·
   have hb16' := ne_of_beq_false hb16
   refine sdc A qm hb16 λa A↦?_
   refine sda A λa A↦?_
   refine qa (hK13 _ _ (wp_cond_false (A.ev rfl) ?_))
   refine wsk fun K17 hK17 => wrl ?_
   rcases tf ((d.k == 2)) with hb18 | hb18
   ·
    have hb18' := eq_of_beq hb18
    refine sdc A qm hb18 λa A↦?_
    refine sda A λa A↦?_
    refine qa (hK17 _ _ (wp_cond_true (A.ev rfl) ?_))
    refine wrl (sdo (v := .pointer (some ⟨g2, 1, none⟩)) A (qb TrB_fld_38_1 rfl rfl) λa A↦?_)
    refine sdo A (qk M TrB_is1_3 rfl 0 rfl rfl) λa A↦?_
    rcases tf ((d.n == 0)) with hb19 | hb19
    ·
     have hb19' := eq_of_beq hb19
     refine sdc A qm hb19 λa A↦?_
     refine sdm A λa A↦?_
     iterate 3 refine zg A rfl rfl rfl λa A↦?_
     refine sdk (v := .bool true) A λa A↦?_
     refine sda A λa A↦?_
     refine sdo (v := .pointer (some ⟨g2, 1, none⟩)) A (qb TrB_fld_38_1 rfl rfl) λa A↦?_
     refine zr (us := [.int .i64 d.k, .int .i64 0, .bool d.y.q.b1, .slice d.y.o1 d.y.q.t1.length d.y.c1, .slice d.y.o2 d.y.q.q1.length d.y.c2, .bool d.y.q.b2, .slice d.y.o3 d.y.q.t2.length d.y.c3, .slice d.y.o4 d.y.q.q2.length d.y.c4, .string d.s, .slice d.ro d.rl.length d.rc, .slice d.lo ts.length d.lc]) (L' := (.obj g2 (.cells #[.int .i64 d.k, .int .i64 0, .bool d.y.q.b1, .slice d.y.o1 d.y.q.t1.length d.y.c1, .slice d.y.o2 d.y.q.q1.length d.y.c2, .bool d.y.q.b2, .slice d.y.o3 d.y.q.t2.length d.y.c3, .slice d.y.o4 d.y.q.q2.length d.y.c4, .string d.s, .slice d.ro d.rl.length d.rc, .slice d.lo ts.length d.lc] 38) :: [])) A M rfl rfl (za rfl rfl rfl (by kernel_rfl) M 0 rfl rfl rfl) 0 rfl rfl rfl ?_
     intro w20 M
     refine qa ?_
     exact hJ6 _ _ ⟨true, 0, d.y.q.b1, d.y.o1, d.y.q.t1.length, d.y.c1, d.y.o2, d.y.q.q1.length, d.y.c2, d.y.q.b2, d.y.o3, d.y.q.t2.length, d.y.c3, d.y.o4, d.y.q.q2.length, d.y.c4, d.s, d.ro, d.rl.length, d.rc, d.lo, ts.length, d.lc, ⟨by
      unfold js
      repeat (first | rw [if_pos (by omega)] | rw [if_neg (by omega)])
      first | rfl | (rw [decide_eq_true (show (d.n = 0 ∨ d.n = 1) by omega)]), by first | exact hq1 | decide, by first | exact hq2 | decide, by first | exact hq3 | decide, by first | exact hq4 | decide⟩, A.keep _ ⟨rfl, rfl, rfl, rfl, trivial⟩, M⟩
    ·
     have hb19' := ne_of_beq_false hb19
     refine sdc A qm hb19 λa A↦?_
     refine sdm A λa A↦?_
     refine sdo (v := .pointer (some ⟨g2, 1, none⟩)) A (qb TrB_fld_38_1 rfl rfl) λa A↦?_
     refine sdo A (qk M TrB_is1_3 rfl 0 rfl rfl) λa A↦?_
     rcases tf ((d.n == 1)) with hb21 | hb21
     ·
      have hb21' := eq_of_beq hb21
      refine sdc A qm hb21 λa A↦?_
      refine sdk (v := .bool true) A λa A↦?_
      refine sda A λa A↦?_
      refine sdo (v := .pointer (some ⟨g2, 1, none⟩)) A (qb TrB_fld_38_1 rfl rfl) λa A↦?_
      refine zr (us := [.int .i64 d.k, .int .i64 0, .bool d.y.q.b1, .slice d.y.o1 d.y.q.t1.length d.y.c1, .slice d.y.o2 d.y.q.q1.length d.y.c2, .bool d.y.q.b2, .slice d.y.o3 d.y.q.t2.length d.y.c3, .slice d.y.o4 d.y.q.q2.length d.y.c4, .string d.s, .slice d.ro d.rl.length d.rc, .slice d.lo ts.length d.lc]) (L' := (.obj g2 (.cells #[.int .i64 d.k, .int .i64 0, .bool d.y.q.b1, .slice d.y.o1 d.y.q.t1.length d.y.c1, .slice d.y.o2 d.y.q.q1.length d.y.c2, .bool d.y.q.b2, .slice d.y.o3 d.y.q.t2.length d.y.c3, .slice d.y.o4 d.y.q.q2.length d.y.c4, .string d.s, .slice d.ro d.rl.length d.rc, .slice d.lo ts.length d.lc] 38) :: [])) A M rfl rfl (za rfl rfl rfl (by kernel_rfl) M 0 rfl rfl rfl) 0 rfl rfl rfl ?_
      intro w22 M
      refine qa ?_
      exact hJ6 _ _ ⟨true, 0, d.y.q.b1, d.y.o1, d.y.q.t1.length, d.y.c1, d.y.o2, d.y.q.q1.length, d.y.c2, d.y.q.b2, d.y.o3, d.y.q.t2.length, d.y.c3, d.y.o4, d.y.q.q2.length, d.y.c4, d.s, d.ro, d.rl.length, d.rc, d.lo, ts.length, d.lc, ⟨by
       unfold js
       repeat (first | rw [if_pos (by omega)] | rw [if_neg (by omega)])
       first | rfl | (rw [decide_eq_true (show (d.n = 0 ∨ d.n = 1) by omega)]), by first | exact hq1 | decide, by first | exact hq2 | decide, by first | exact hq3 | decide, by first | exact hq4 | decide⟩, A.keep _ ⟨rfl, rfl, rfl, rfl, trivial⟩, M⟩
     ·
      have hb21' := ne_of_beq_false hb21
      refine sdc A qm hb21 λa A↦?_
      refine sdk (v := .bool false) A λa A↦?_
      refine sda A λa A↦?_
      refine sdo (v := .pointer (some ⟨g2, 1, none⟩)) A (qb TrB_fld_38_1 rfl rfl) λa A↦?_
      refine zr (us := [.int .i64 d.k, .int .i64 0, .bool d.y.q.b1, .slice d.y.o1 d.y.q.t1.length d.y.c1, .slice d.y.o2 d.y.q.q1.length d.y.c2, .bool d.y.q.b2, .slice d.y.o3 d.y.q.t2.length d.y.c3, .slice d.y.o4 d.y.q.q2.length d.y.c4, .string d.s, .slice d.ro d.rl.length d.rc, .slice d.lo ts.length d.lc]) (L' := (.obj g2 (.cells #[.int .i64 d.k, .int .i64 0, .bool d.y.q.b1, .slice d.y.o1 d.y.q.t1.length d.y.c1, .slice d.y.o2 d.y.q.q1.length d.y.c2, .bool d.y.q.b2, .slice d.y.o3 d.y.q.t2.length d.y.c3, .slice d.y.o4 d.y.q.q2.length d.y.c4, .string d.s, .slice d.ro d.rl.length d.rc, .slice d.lo ts.length d.lc] 38) :: [])) A M rfl rfl (za rfl rfl rfl (by kernel_rfl) M 0 rfl rfl rfl) 0 rfl rfl rfl ?_
      intro w23 M
      refine qa ?_
      exact hJ6 _ _ ⟨false, 0, d.y.q.b1, d.y.o1, d.y.q.t1.length, d.y.c1, d.y.o2, d.y.q.q1.length, d.y.c2, d.y.q.b2, d.y.o3, d.y.q.t2.length, d.y.c3, d.y.o4, d.y.q.q2.length, d.y.c4, d.s, d.ro, d.rl.length, d.rc, d.lo, ts.length, d.lc, ⟨by
       unfold js
       repeat (first | rw [if_pos (by omega)] | rw [if_neg (by omega)])
       first | rfl | (rw [decide_eq_false (show ¬ (d.n = 0 ∨ d.n = 1) by omega)]), by first | exact hq1 | decide, by first | exact hq2 | decide, by first | exact hq3 | decide, by first | exact hq4 | decide⟩, A.keep _ ⟨rfl, rfl, rfl, rfl, trivial⟩, M⟩
   ·
    have hb18' := ne_of_beq_false hb18
    refine sdc A qm hb18 λa A↦?_
    refine sda A λa A↦?_
    refine qa (hK17 _ _ (wp_cond_false (A.ev rfl) ?_))
    refine wsk fun K24 hK24 => wrl ?_
    rcases tf ((d.k == 3)) with hb25 | hb25
    ·
     have hb25' := eq_of_beq hb25
     refine sdc A qm hb25 λa A↦?_
     refine sda A λa A↦?_
     refine qa (hK24 _ _ (wp_cond_true (A.ev rfl) ?_))
     refine wrl (sdo (v := .pointer (some ⟨g2, 2, none⟩)) A (qb TrB_fld_38_2 rfl rfl) λa A↦?_)
     refine sdo A (qw M TrB_isS_35 rfl 0 rfl (cs := [.bool d.y.q.b1, .slice d.y.o1 d.y.q.t1.length d.y.c1, .slice d.y.o2 d.y.q.q1.length d.y.c2, .bool d.y.q.b2, .slice d.y.o3 d.y.q.t2.length d.y.c3, .slice d.y.o4 d.y.q.q2.length d.y.c4]) rfl rfl) λa A↦?_
     rcases tf (xy d.y.q) with hb26 | hb26
     ·
      refine gcl A M (ef rfl rfl) (kj (Nu.below hok.num M.bel) hok.len hb26) fun w28 hb27 M a A => ?_
      refine sdo (v := .agg #[.bool false, .slice none 0 0, .slice none 0 0, .bool false, .slice none 0 0, .slice none 0 0]) A (zp rfl (fun w => by kernel_rfl)) λa A↦?_
      refine sda A λa A↦?_
      refine sdo (v := .pointer (some ⟨g2, 2, none⟩)) A (qb TrB_fld_38_2 rfl rfl) λa A↦?_
      refine zr (us := [.int .i64 d.k, .int .i64 d.n, .bool false, .slice none 0 0, .slice none 0 0, .bool false, .slice none 0 0, .slice none 0 0, .string d.s, .slice d.ro d.rl.length d.rc, .slice d.lo ts.length d.lc]) (L' := (.obj g2 (.cells #[.int .i64 d.k, .int .i64 d.n, .bool false, .slice none 0 0, .slice none 0 0, .bool false, .slice none 0 0, .slice none 0 0, .string d.s, .slice d.ro d.rl.length d.rc, .slice d.lo ts.length d.lc] 38) :: [])) A M rfl rfl (za rfl rfl rfl (by kernel_rfl) M 0 rfl rfl rfl) 0 rfl rfl rfl ?_
      intro w29 M
      refine qa ?_
      exact hJ6 _ _ ⟨true, d.n, false, none, 0, 0, none, 0, 0, false, none, 0, 0, none, 0, 0, d.s, d.ro, d.rl.length, d.rc, d.lo, ts.length, d.lc, ⟨by
       unfold js
       repeat (first | rw [if_pos (by omega)] | rw [if_neg (by omega)])
       first | rfl | rw [hb26], by first | exact hq1 | decide, by first | exact hq2 | decide, by first | exact hq3 | decide, by first | exact hq4 | decide⟩, A.keep _ ⟨rfl, rfl, rfl, rfl, trivial⟩, M⟩
     ·
      refine gcl A M (ef rfl rfl) (kj (Nu.below hok.num M.bel) hok.len hb26) fun w31 hb30 M a A => ?_
      refine sdo (v := .agg #[.bool false, .slice none 0 0, .slice none 0 0, .bool false, .slice none 0 0, .slice none 0 0]) A (zp rfl (fun w => by kernel_rfl)) λa A↦?_
      refine sda A λa A↦?_
      refine sdo (v := .pointer (some ⟨g2, 2, none⟩)) A (qb TrB_fld_38_2 rfl rfl) λa A↦?_
      refine zr (us := [.int .i64 d.k, .int .i64 d.n, .bool false, .slice none 0 0, .slice none 0 0, .bool false, .slice none 0 0, .slice none 0 0, .string d.s, .slice d.ro d.rl.length d.rc, .slice d.lo ts.length d.lc]) (L' := (.obj g2 (.cells #[.int .i64 d.k, .int .i64 d.n, .bool false, .slice none 0 0, .slice none 0 0, .bool false, .slice none 0 0, .slice none 0 0, .string d.s, .slice d.ro d.rl.length d.rc, .slice d.lo ts.length d.lc] 38) :: [])) A M rfl rfl (za rfl rfl rfl (by kernel_rfl) M 0 rfl rfl rfl) 0 rfl rfl rfl ?_
      intro w32 M
      refine qa ?_
      exact hJ6 _ _ ⟨false, d.n, false, none, 0, 0, none, 0, 0, false, none, 0, 0, none, 0, 0, d.s, d.ro, d.rl.length, d.rc, d.lo, ts.length, d.lc, ⟨by
       unfold js
       repeat (first | rw [if_pos (by omega)] | rw [if_neg (by omega)])
       first | rfl | rw [hb26], by first | exact hq1 | decide, by first | exact hq2 | decide, by first | exact hq3 | decide, by first | exact hq4 | decide⟩, A.keep _ ⟨rfl, rfl, rfl, rfl, trivial⟩, M⟩
    ·
     have hb25' := ne_of_beq_false hb25
     refine sdc A qm hb25 λa A↦?_
     refine sda A λa A↦?_
     refine qa (hK24 _ _ (wp_cond_false (A.ev rfl) ?_))
     refine wsk fun K33 hK33 => wrl ?_
     rcases tf ((d.k == 4)) with hb34 | hb34
     ·
      have hb34' := eq_of_beq hb34
      refine sdc A qm hb34 λa A↦?_
      refine sda A λa A↦?_
      refine qa (hK33 _ _ (wp_cond_true (A.ev rfl) ?_))
      refine wrl (sdo (v := .pointer (some ⟨g2, 1, none⟩)) A (qb TrB_fld_38_1 rfl rfl) λa A↦?_)
      refine sdo A (qk M TrB_is1_3 rfl 0 rfl rfl) λa A↦?_
      rcases tf (qdd d.n) with hb35 | hb35
      ·
       refine gcl A M (ef rfl rfl) ((hb35 ▸ qvf)) fun w37 hb36 M a A => ?_
       refine sda A λa A↦?_
       refine sdo (v := .pointer (some ⟨g2, 1, none⟩)) A (qb TrB_fld_38_1 rfl rfl) λa A↦?_
       refine zr (us := [.int .i64 d.k, .int .i64 0, .bool d.y.q.b1, .slice d.y.o1 d.y.q.t1.length d.y.c1, .slice d.y.o2 d.y.q.q1.length d.y.c2, .bool d.y.q.b2, .slice d.y.o3 d.y.q.t2.length d.y.c3, .slice d.y.o4 d.y.q.q2.length d.y.c4, .string d.s, .slice d.ro d.rl.length d.rc, .slice d.lo ts.length d.lc]) (L' := (.obj g2 (.cells #[.int .i64 d.k, .int .i64 0, .bool d.y.q.b1, .slice d.y.o1 d.y.q.t1.length d.y.c1, .slice d.y.o2 d.y.q.q1.length d.y.c2, .bool d.y.q.b2, .slice d.y.o3 d.y.q.t2.length d.y.c3, .slice d.y.o4 d.y.q.q2.length d.y.c4, .string d.s, .slice d.ro d.rl.length d.rc, .slice d.lo ts.length d.lc] 38) :: [])) A M rfl rfl (za rfl rfl rfl (by kernel_rfl) M 0 rfl rfl rfl) 0 rfl rfl rfl ?_
       intro w38 M
       refine qa ?_
       exact hJ6 _ _ ⟨true, 0, d.y.q.b1, d.y.o1, d.y.q.t1.length, d.y.c1, d.y.o2, d.y.q.q1.length, d.y.c2, d.y.q.b2, d.y.o3, d.y.q.t2.length, d.y.c3, d.y.o4, d.y.q.q2.length, d.y.c4, d.s, d.ro, d.rl.length, d.rc, d.lo, ts.length, d.lc, ⟨by
        unfold js
        repeat (first | rw [if_pos (by omega)] | rw [if_neg (by omega)])
        first | rfl | rw [hb35], by first | exact hq1 | decide, by first | exact hq2 | decide, by first | exact hq3 | decide, by first | exact hq4 | decide⟩, A.keep _ ⟨rfl, rfl, rfl, rfl, trivial⟩, M⟩
      ·
       refine gcl A M (ef rfl rfl) ((hb35 ▸ qvf)) fun w40 hb39 M a A => ?_
       refine sda A λa A↦?_
       refine sdo (v := .pointer (some ⟨g2, 1, none⟩)) A (qb TrB_fld_38_1 rfl rfl) λa A↦?_
       refine zr (us := [.int .i64 d.k, .int .i64 0, .bool d.y.q.b1, .slice d.y.o1 d.y.q.t1.length d.y.c1, .slice d.y.o2 d.y.q.q1.length d.y.c2, .bool d.y.q.b2, .slice d.y.o3 d.y.q.t2.length d.y.c3, .slice d.y.o4 d.y.q.q2.length d.y.c4, .string d.s, .slice d.ro d.rl.length d.rc, .slice d.lo ts.length d.lc]) (L' := (.obj g2 (.cells #[.int .i64 d.k, .int .i64 0, .bool d.y.q.b1, .slice d.y.o1 d.y.q.t1.length d.y.c1, .slice d.y.o2 d.y.q.q1.length d.y.c2, .bool d.y.q.b2, .slice d.y.o3 d.y.q.t2.length d.y.c3, .slice d.y.o4 d.y.q.q2.length d.y.c4, .string d.s, .slice d.ro d.rl.length d.rc, .slice d.lo ts.length d.lc] 38) :: [])) A M rfl rfl (za rfl rfl rfl (by kernel_rfl) M 0 rfl rfl rfl) 0 rfl rfl rfl ?_
       intro w41 M
       refine qa ?_
       exact hJ6 _ _ ⟨false, 0, d.y.q.b1, d.y.o1, d.y.q.t1.length, d.y.c1, d.y.o2, d.y.q.q1.length, d.y.c2, d.y.q.b2, d.y.o3, d.y.q.t2.length, d.y.c3, d.y.o4, d.y.q.q2.length, d.y.c4, d.s, d.ro, d.rl.length, d.rc, d.lo, ts.length, d.lc, ⟨by
        unfold js
        repeat (first | rw [if_pos (by omega)] | rw [if_neg (by omega)])
        first | rfl | rw [hb35], by first | exact hq1 | decide, by first | exact hq2 | decide, by first | exact hq3 | decide, by first | exact hq4 | decide⟩, A.keep _ ⟨rfl, rfl, rfl, rfl, trivial⟩, M⟩
     ·
      have hb34' := ne_of_beq_false hb34
      refine sdc A qm hb34 λa A↦?_
      refine sda A λa A↦?_
      refine qa (hK33 _ _ (wp_cond_false (A.ev rfl) ?_))
      refine wsk fun K42 hK42 => wsk fun K43 hK43 => wrl ?_
      rcases tf ((d.k == 5)) with hb44 | hb44
      ·
       have hb44' := eq_of_beq hb44
       refine sdc A qm hb44 λa A↦?_
       refine sda A λa A↦?_
       refine qa (hK43 _ _ (wp_cond_true (A.ev rfl) ?_))
       refine wp_skip (hK42 _ _ (wp_cond_true (A.ev rfl) ?_))
       refine wrl (sdo (v := .pointer (some ⟨g2, 8, none⟩)) A (qb TrB_fld_38_3 rfl rfl) λa A↦?_)
       refine sdo A (qk M TrB_is1_9 rfl 0 rfl rfl) λa A↦?_
       rcases tf (okS d.s) with hb45 | hb45
       ·
        refine gcl A M (ef rfl rfl) (yp hok.smax (hT.below M.bel) hb45) fun w47 hb46 M a A => ?_
        refine sda A λa A↦?_
        refine sdo (v := .pointer (some ⟨g2, 8, none⟩)) A (qb TrB_fld_38_3 rfl rfl) λa A↦?_
        refine zr (us := [.int .i64 d.k, .int .i64 d.n, .bool d.y.q.b1, .slice d.y.o1 d.y.q.t1.length d.y.c1, .slice d.y.o2 d.y.q.q1.length d.y.c2, .bool d.y.q.b2, .slice d.y.o3 d.y.q.t2.length d.y.c3, .slice d.y.o4 d.y.q.q2.length d.y.c4, .string (⟨#[]⟩), .slice d.ro d.rl.length d.rc, .slice d.lo ts.length d.lc]) (L' := (.obj g2 (.cells #[.int .i64 d.k, .int .i64 d.n, .bool d.y.q.b1, .slice d.y.o1 d.y.q.t1.length d.y.c1, .slice d.y.o2 d.y.q.q1.length d.y.c2, .bool d.y.q.b2, .slice d.y.o3 d.y.q.t2.length d.y.c3, .slice d.y.o4 d.y.q.q2.length d.y.c4, .string (⟨#[]⟩), .slice d.ro d.rl.length d.rc, .slice d.lo ts.length d.lc] 38) :: [])) A M rfl rfl (za rfl rfl rfl (by kernel_rfl) M 0 rfl rfl rfl) 0 rfl rfl rfl ?_
        intro w48 M
        refine qa ?_
        exact hJ6 _ _ ⟨true, d.n, d.y.q.b1, d.y.o1, d.y.q.t1.length, d.y.c1, d.y.o2, d.y.q.q1.length, d.y.c2, d.y.q.b2, d.y.o3, d.y.q.t2.length, d.y.c3, d.y.o4, d.y.q.q2.length, d.y.c4, ⟨#[]⟩, d.ro, d.rl.length, d.rc, d.lo, ts.length, d.lc, ⟨by
         unfold js
         repeat (first | rw [if_pos (by omega)] | rw [if_neg (by omega)])
         first | rfl | rw [hb45], by first | exact hq1 | decide, by first | exact hq2 | decide, by first | exact hq3 | decide, by first | exact hq4 | decide⟩, A.keep _ ⟨rfl, rfl, rfl, rfl, trivial⟩, M⟩
       ·
        refine gcl A M (ef rfl rfl) (yp hok.smax (hT.below M.bel) hb45) fun w50 hb49 M a A => ?_
        refine sda A λa A↦?_
        refine sdo (v := .pointer (some ⟨g2, 8, none⟩)) A (qb TrB_fld_38_3 rfl rfl) λa A↦?_
        refine zr (us := [.int .i64 d.k, .int .i64 d.n, .bool d.y.q.b1, .slice d.y.o1 d.y.q.t1.length d.y.c1, .slice d.y.o2 d.y.q.q1.length d.y.c2, .bool d.y.q.b2, .slice d.y.o3 d.y.q.t2.length d.y.c3, .slice d.y.o4 d.y.q.q2.length d.y.c4, .string (⟨#[]⟩), .slice d.ro d.rl.length d.rc, .slice d.lo ts.length d.lc]) (L' := (.obj g2 (.cells #[.int .i64 d.k, .int .i64 d.n, .bool d.y.q.b1, .slice d.y.o1 d.y.q.t1.length d.y.c1, .slice d.y.o2 d.y.q.q1.length d.y.c2, .bool d.y.q.b2, .slice d.y.o3 d.y.q.t2.length d.y.c3, .slice d.y.o4 d.y.q.q2.length d.y.c4, .string (⟨#[]⟩), .slice d.ro d.rl.length d.rc, .slice d.lo ts.length d.lc] 38) :: [])) A M rfl rfl (za rfl rfl rfl (by kernel_rfl) M 0 rfl rfl rfl) 0 rfl rfl rfl ?_
        intro w51 M
        refine qa ?_
        exact hJ6 _ _ ⟨false, d.n, d.y.q.b1, d.y.o1, d.y.q.t1.length, d.y.c1, d.y.o2, d.y.q.q1.length, d.y.c2, d.y.q.b2, d.y.o3, d.y.q.t2.length, d.y.c3, d.y.o4, d.y.q.q2.length, d.y.c4, ⟨#[]⟩, d.ro, d.rl.length, d.rc, d.lo, ts.length, d.lc, ⟨by
         unfold js
         repeat (first | rw [if_pos (by omega)] | rw [if_neg (by omega)])
         first | rfl | rw [hb45], by first | exact hq1 | decide, by first | exact hq2 | decide, by first | exact hq3 | decide, by first | exact hq4 | decide⟩, A.keep _ ⟨rfl, rfl, rfl, rfl, trivial⟩, M⟩
      ·
       have hb44' := ne_of_beq_false hb44
       refine sdc A qm hb44 λa A↦?_
       refine sda A λa A↦?_
       refine qa (hK43 _ _ (wp_cond_false (A.ev rfl) ?_))
       refine wsk fun K52 hK52 => wrl ?_
       rcases tf ((d.k == 6)) with hb53 | hb53
       ·
        have hb53' := eq_of_beq hb53
        refine sdc A qm hb53 λa A↦?_
        refine sda A λa A↦?_
        refine qa (hK52 _ _ (wp_cond_true (A.ev rfl) ?_))
        refine wp_skip (hK42 _ _ (wp_cond_true (A.ev rfl) ?_))
        refine wrl (sdo (v := .pointer (some ⟨g2, 8, none⟩)) A (qb TrB_fld_38_3 rfl rfl) λa A↦?_)
        refine sdo A (qk M TrB_is1_9 rfl 0 rfl rfl) λa A↦?_
        rcases tf (okS d.s) with hb54 | hb54
        ·
         refine gcl A M (ef rfl rfl) (yp hok.smax (hT.below M.bel) hb54) fun w56 hb55 M a A => ?_
         refine sda A λa A↦?_
         refine sdo (v := .pointer (some ⟨g2, 8, none⟩)) A (qb TrB_fld_38_3 rfl rfl) λa A↦?_
         refine zr (us := [.int .i64 d.k, .int .i64 d.n, .bool d.y.q.b1, .slice d.y.o1 d.y.q.t1.length d.y.c1, .slice d.y.o2 d.y.q.q1.length d.y.c2, .bool d.y.q.b2, .slice d.y.o3 d.y.q.t2.length d.y.c3, .slice d.y.o4 d.y.q.q2.length d.y.c4, .string (⟨#[]⟩), .slice d.ro d.rl.length d.rc, .slice d.lo ts.length d.lc]) (L' := (.obj g2 (.cells #[.int .i64 d.k, .int .i64 d.n, .bool d.y.q.b1, .slice d.y.o1 d.y.q.t1.length d.y.c1, .slice d.y.o2 d.y.q.q1.length d.y.c2, .bool d.y.q.b2, .slice d.y.o3 d.y.q.t2.length d.y.c3, .slice d.y.o4 d.y.q.q2.length d.y.c4, .string (⟨#[]⟩), .slice d.ro d.rl.length d.rc, .slice d.lo ts.length d.lc] 38) :: [])) A M rfl rfl (za rfl rfl rfl (by kernel_rfl) M 0 rfl rfl rfl) 0 rfl rfl rfl ?_
         intro w57 M
         refine qa ?_
         exact hJ6 _ _ ⟨true, d.n, d.y.q.b1, d.y.o1, d.y.q.t1.length, d.y.c1, d.y.o2, d.y.q.q1.length, d.y.c2, d.y.q.b2, d.y.o3, d.y.q.t2.length, d.y.c3, d.y.o4, d.y.q.q2.length, d.y.c4, ⟨#[]⟩, d.ro, d.rl.length, d.rc, d.lo, ts.length, d.lc, ⟨by
          unfold js
          repeat (first | rw [if_pos (by omega)] | rw [if_neg (by omega)])
          first | rfl | rw [hb54], by first | exact hq1 | decide, by first | exact hq2 | decide, by first | exact hq3 | decide, by first | exact hq4 | decide⟩, A.keep _ ⟨rfl, rfl, rfl, rfl, trivial⟩, M⟩
        ·
         refine gcl A M (ef rfl rfl) (yp hok.smax (hT.below M.bel) hb54) fun w59 hb58 M a A => ?_
         refine sda A λa A↦?_
         refine sdo (v := .pointer (some ⟨g2, 8, none⟩)) A (qb TrB_fld_38_3 rfl rfl) λa A↦?_
         refine zr (us := [.int .i64 d.k, .int .i64 d.n, .bool d.y.q.b1, .slice d.y.o1 d.y.q.t1.length d.y.c1, .slice d.y.o2 d.y.q.q1.length d.y.c2, .bool d.y.q.b2, .slice d.y.o3 d.y.q.t2.length d.y.c3, .slice d.y.o4 d.y.q.q2.length d.y.c4, .string (⟨#[]⟩), .slice d.ro d.rl.length d.rc, .slice d.lo ts.length d.lc]) (L' := (.obj g2 (.cells #[.int .i64 d.k, .int .i64 d.n, .bool d.y.q.b1, .slice d.y.o1 d.y.q.t1.length d.y.c1, .slice d.y.o2 d.y.q.q1.length d.y.c2, .bool d.y.q.b2, .slice d.y.o3 d.y.q.t2.length d.y.c3, .slice d.y.o4 d.y.q.q2.length d.y.c4, .string (⟨#[]⟩), .slice d.ro d.rl.length d.rc, .slice d.lo ts.length d.lc] 38) :: [])) A M rfl rfl (za rfl rfl rfl (by kernel_rfl) M 0 rfl rfl rfl) 0 rfl rfl rfl ?_
         intro w60 M
         refine qa ?_
         exact hJ6 _ _ ⟨false, d.n, d.y.q.b1, d.y.o1, d.y.q.t1.length, d.y.c1, d.y.o2, d.y.q.q1.length, d.y.c2, d.y.q.b2, d.y.o3, d.y.q.t2.length, d.y.c3, d.y.o4, d.y.q.q2.length, d.y.c4, ⟨#[]⟩, d.ro, d.rl.length, d.rc, d.lo, ts.length, d.lc, ⟨by
          unfold js
          repeat (first | rw [if_pos (by omega)] | rw [if_neg (by omega)])
          first | rfl | rw [hb54], by first | exact hq1 | decide, by first | exact hq2 | decide, by first | exact hq3 | decide, by first | exact hq4 | decide⟩, A.keep _ ⟨rfl, rfl, rfl, rfl, trivial⟩, M⟩
       ·
        have hb53' := ne_of_beq_false hb53
        refine sdc A qm hb53 λa A↦?_
        refine sda A λa A↦?_
        refine qa (hK52 _ _ (wp_cond_false (A.ev rfl) ?_))
        refine wrl ?_
        rcases tf ((d.k == 11)) with hb61 | hb61
        ·
         have hb61' := eq_of_beq hb61
         refine sdc A qm hb61 λa A↦?_
         refine sda A λa A↦?_
         refine qa (hK42 _ _ (wp_cond_true (A.ev rfl) ?_))
         refine wrl (sdo (v := .pointer (some ⟨g2, 8, none⟩)) A (qb TrB_fld_38_3 rfl rfl) λa A↦?_)
         refine sdo A (qk M TrB_is1_9 rfl 0 rfl rfl) λa A↦?_
         rcases tf (okS d.s) with hb62 | hb62
         ·
          refine gcl A M (ef rfl rfl) (yp hok.smax (hT.below M.bel) hb62) fun w64 hb63 M a A => ?_
          refine sda A λa A↦?_
          refine sdo (v := .pointer (some ⟨g2, 8, none⟩)) A (qb TrB_fld_38_3 rfl rfl) λa A↦?_
          refine zr (us := [.int .i64 d.k, .int .i64 d.n, .bool d.y.q.b1, .slice d.y.o1 d.y.q.t1.length d.y.c1, .slice d.y.o2 d.y.q.q1.length d.y.c2, .bool d.y.q.b2, .slice d.y.o3 d.y.q.t2.length d.y.c3, .slice d.y.o4 d.y.q.q2.length d.y.c4, .string (⟨#[]⟩), .slice d.ro d.rl.length d.rc, .slice d.lo ts.length d.lc]) (L' := (.obj g2 (.cells #[.int .i64 d.k, .int .i64 d.n, .bool d.y.q.b1, .slice d.y.o1 d.y.q.t1.length d.y.c1, .slice d.y.o2 d.y.q.q1.length d.y.c2, .bool d.y.q.b2, .slice d.y.o3 d.y.q.t2.length d.y.c3, .slice d.y.o4 d.y.q.q2.length d.y.c4, .string (⟨#[]⟩), .slice d.ro d.rl.length d.rc, .slice d.lo ts.length d.lc] 38) :: [])) A M rfl rfl (za rfl rfl rfl (by kernel_rfl) M 0 rfl rfl rfl) 0 rfl rfl rfl ?_
          intro w65 M
          refine qa ?_
          exact hJ6 _ _ ⟨true, d.n, d.y.q.b1, d.y.o1, d.y.q.t1.length, d.y.c1, d.y.o2, d.y.q.q1.length, d.y.c2, d.y.q.b2, d.y.o3, d.y.q.t2.length, d.y.c3, d.y.o4, d.y.q.q2.length, d.y.c4, ⟨#[]⟩, d.ro, d.rl.length, d.rc, d.lo, ts.length, d.lc, ⟨by
           unfold js
           repeat (first | rw [if_pos (by omega)] | rw [if_neg (by omega)])
           first | rfl | rw [hb62], by first | exact hq1 | decide, by first | exact hq2 | decide, by first | exact hq3 | decide, by first | exact hq4 | decide⟩, A.keep _ ⟨rfl, rfl, rfl, rfl, trivial⟩, M⟩
         ·
          refine gcl A M (ef rfl rfl) (yp hok.smax (hT.below M.bel) hb62) fun w67 hb66 M a A => ?_
          refine sda A λa A↦?_
          refine sdo (v := .pointer (some ⟨g2, 8, none⟩)) A (qb TrB_fld_38_3 rfl rfl) λa A↦?_
          refine zr (us := [.int .i64 d.k, .int .i64 d.n, .bool d.y.q.b1, .slice d.y.o1 d.y.q.t1.length d.y.c1, .slice d.y.o2 d.y.q.q1.length d.y.c2, .bool d.y.q.b2, .slice d.y.o3 d.y.q.t2.length d.y.c3, .slice d.y.o4 d.y.q.q2.length d.y.c4, .string (⟨#[]⟩), .slice d.ro d.rl.length d.rc, .slice d.lo ts.length d.lc]) (L' := (.obj g2 (.cells #[.int .i64 d.k, .int .i64 d.n, .bool d.y.q.b1, .slice d.y.o1 d.y.q.t1.length d.y.c1, .slice d.y.o2 d.y.q.q1.length d.y.c2, .bool d.y.q.b2, .slice d.y.o3 d.y.q.t2.length d.y.c3, .slice d.y.o4 d.y.q.q2.length d.y.c4, .string (⟨#[]⟩), .slice d.ro d.rl.length d.rc, .slice d.lo ts.length d.lc] 38) :: [])) A M rfl rfl (za rfl rfl rfl (by kernel_rfl) M 0 rfl rfl rfl) 0 rfl rfl rfl ?_
          intro w68 M
          refine qa ?_
          exact hJ6 _ _ ⟨false, d.n, d.y.q.b1, d.y.o1, d.y.q.t1.length, d.y.c1, d.y.o2, d.y.q.q1.length, d.y.c2, d.y.q.b2, d.y.o3, d.y.q.t2.length, d.y.c3, d.y.o4, d.y.q.q2.length, d.y.c4, ⟨#[]⟩, d.ro, d.rl.length, d.rc, d.lo, ts.length, d.lc, ⟨by
           unfold js
           repeat (first | rw [if_pos (by omega)] | rw [if_neg (by omega)])
           first | rfl | rw [hb62], by first | exact hq1 | decide, by first | exact hq2 | decide, by first | exact hq3 | decide, by first | exact hq4 | decide⟩, A.keep _ ⟨rfl, rfl, rfl, rfl, trivial⟩, M⟩
        ·
         have hb61' := ne_of_beq_false hb61
         refine sdc A qm hb61 λa A↦?_
         refine sda A λa A↦?_
         refine qa (hK42 _ _ (wp_cond_false (A.ev rfl) ?_))
         refine wsk fun K69 hK69 => wrl ?_
         rcases tf ((d.k == 7)) with hb70 | hb70
         ·
          have hb70' := eq_of_beq hb70
          refine sdc A qm hb70 λa A↦?_
          refine sda A λa A↦?_
          refine qa (hK69 _ _ (wp_cond_true (A.ev rfl) ?_))
          refine wrl (sdo (v := .pointer (some ⟨g2, 9, none⟩)) A (qb TrB_fld_38_4 rfl rfl) λa A↦?_)
          refine zr (us := [.int .i64 d.k, .int .i64 d.n, .bool d.y.q.b1, .slice d.y.o1 d.y.q.t1.length d.y.c1, .slice d.y.o2 d.y.q.q1.length d.y.c2, .bool d.y.q.b2, .slice d.y.o3 d.y.q.t2.length d.y.c3, .slice d.y.o4 d.y.q.q2.length d.y.c4, .string d.s, .slice none 0 0, .slice d.lo ts.length d.lc]) (L' := (.obj g2 (.cells #[.int .i64 d.k, .int .i64 d.n, .bool d.y.q.b1, .slice d.y.o1 d.y.q.t1.length d.y.c1, .slice d.y.o2 d.y.q.q1.length d.y.c2, .bool d.y.q.b2, .slice d.y.o3 d.y.q.t2.length d.y.c3, .slice d.y.o4 d.y.q.q2.length d.y.c4, .string d.s, .slice none 0 0, .slice d.lo ts.length d.lc] 38) :: [])) A M rfl rfl (za rfl rfl rfl (by kernel_rfl) M 0 rfl rfl rfl) 0 rfl rfl rfl ?_
          intro w71 M
          refine qa ?_
          exact hJ6 _ _ ⟨true, d.n, d.y.q.b1, d.y.o1, d.y.q.t1.length, d.y.c1, d.y.o2, d.y.q.q1.length, d.y.c2, d.y.q.b2, d.y.o3, d.y.q.t2.length, d.y.c3, d.y.o4, d.y.q.q2.length, d.y.c4, d.s, none, 0, 0, d.lo, ts.length, d.lc, ⟨by
           unfold js
           repeat (first | rw [if_pos (by omega)] | rw [if_neg (by omega)])
           first | rfl, by first | exact hq1 | decide, by first | exact hq2 | decide, by first | exact hq3 | decide, by first | exact hq4 | decide⟩, A.keep _ ⟨rfl, rfl, rfl, rfl, trivial⟩, M⟩
         ·
          have hb70' := ne_of_beq_false hb70
          refine sdc A qm hb70 λa A↦?_
          refine sda A λa A↦?_
          refine qa (hK69 _ _ (wp_cond_false (A.ev rfl) ?_))
          refine wsk fun K72 hK72 => wrl ?_
          rcases tf ((d.k == 8)) with hb73 | hb73
          ·
           have hb73' := eq_of_beq hb73
           refine sdc A qm hb73 λa A↦?_
           refine sda A λa A↦?_
           refine qa (hK72 _ _ (wp_cond_true (A.ev rfl) ?_))
           refine wrl (sdo (v := .pointer (some ⟨g2, 10, none⟩)) A (qb TrB_fld_38_5 rfl rfl) λa A↦?_)
           refine sdo A (qk M TrB_is1_28 rfl 0 rfl rfl) λa A↦?_
           refine sdo A (qy Tryz.underlying28 rfl) λa A↦?_
           rcases tf ((((ts.length : Nat) : Int) == 2)) with hb74 | hb74
           ·
            have hb74' := eq_of_beq hb74
            refine sdc A qm hb74 λa A↦?_
            refine sda A λa A↦?_
            refine sdo (v := .pointer (some ⟨g2, 10, none⟩)) A (qb TrB_fld_38_5 rfl rfl) λa A↦?_
            refine zr (us := [.int .i64 d.k, .int .i64 d.n, .bool d.y.q.b1, .slice d.y.o1 d.y.q.t1.length d.y.c1, .slice d.y.o2 d.y.q.q1.length d.y.c2, .bool d.y.q.b2, .slice d.y.o3 d.y.q.t2.length d.y.c3, .slice d.y.o4 d.y.q.q2.length d.y.c4, .string d.s, .slice d.ro d.rl.length d.rc, .slice none 0 0]) (L' := (.obj g2 (.cells #[.int .i64 d.k, .int .i64 d.n, .bool d.y.q.b1, .slice d.y.o1 d.y.q.t1.length d.y.c1, .slice d.y.o2 d.y.q.q1.length d.y.c2, .bool d.y.q.b2, .slice d.y.o3 d.y.q.t2.length d.y.c3, .slice d.y.o4 d.y.q.q2.length d.y.c4, .string d.s, .slice d.ro d.rl.length d.rc, .slice none 0 0] 38) :: [])) A M rfl rfl (za rfl rfl rfl (by kernel_rfl) M 0 rfl rfl rfl) 0 rfl rfl rfl ?_
            intro w75 M
            refine qa ?_
            exact hJ6 _ _ ⟨true, d.n, d.y.q.b1, d.y.o1, d.y.q.t1.length, d.y.c1, d.y.o2, d.y.q.q1.length, d.y.c2, d.y.q.b2, d.y.o3, d.y.q.t2.length, d.y.c3, d.y.o4, d.y.q.q2.length, d.y.c4, d.s, d.ro, d.rl.length, d.rc, none, 0, 0, ⟨by
             unfold js
             repeat (first | rw [if_pos (by omega)] | rw [if_neg (by omega)])
             first | rfl | (rw [decide_eq_true (show (ts.length = 2) by omega)]), by first | exact hq1 | decide, by first | exact hq2 | decide, by first | exact hq3 | decide, by first | exact hq4 | decide⟩, A.keep _ ⟨rfl, rfl, rfl, rfl, trivial⟩, M⟩
           ·
            have hb74' := ne_of_beq_false hb74
            refine sdc A qm hb74 λa A↦?_
            refine sda A λa A↦?_
            refine sdo (v := .pointer (some ⟨g2, 10, none⟩)) A (qb TrB_fld_38_5 rfl rfl) λa A↦?_
            refine zr (us := [.int .i64 d.k, .int .i64 d.n, .bool d.y.q.b1, .slice d.y.o1 d.y.q.t1.length d.y.c1, .slice d.y.o2 d.y.q.q1.length d.y.c2, .bool d.y.q.b2, .slice d.y.o3 d.y.q.t2.length d.y.c3, .slice d.y.o4 d.y.q.q2.length d.y.c4, .string d.s, .slice d.ro d.rl.length d.rc, .slice none 0 0]) (L' := (.obj g2 (.cells #[.int .i64 d.k, .int .i64 d.n, .bool d.y.q.b1, .slice d.y.o1 d.y.q.t1.length d.y.c1, .slice d.y.o2 d.y.q.q1.length d.y.c2, .bool d.y.q.b2, .slice d.y.o3 d.y.q.t2.length d.y.c3, .slice d.y.o4 d.y.q.q2.length d.y.c4, .string d.s, .slice d.ro d.rl.length d.rc, .slice none 0 0] 38) :: [])) A M rfl rfl (za rfl rfl rfl (by kernel_rfl) M 0 rfl rfl rfl) 0 rfl rfl rfl ?_
            intro w76 M
            refine qa ?_
            exact hJ6 _ _ ⟨false, d.n, d.y.q.b1, d.y.o1, d.y.q.t1.length, d.y.c1, d.y.o2, d.y.q.q1.length, d.y.c2, d.y.q.b2, d.y.o3, d.y.q.t2.length, d.y.c3, d.y.o4, d.y.q.q2.length, d.y.c4, d.s, d.ro, d.rl.length, d.rc, none, 0, 0, ⟨by
             unfold js
             repeat (first | rw [if_pos (by omega)] | rw [if_neg (by omega)])
             first | rfl | (rw [decide_eq_false (show ¬ (ts.length = 2) by omega)]), by first | exact hq1 | decide, by first | exact hq2 | decide, by first | exact hq3 | decide, by first | exact hq4 | decide⟩, A.keep _ ⟨rfl, rfl, rfl, rfl, trivial⟩, M⟩
          ·
           have hb73' := ne_of_beq_false hb73
           refine sdc A qm hb73 λa A↦?_
           refine sda A λa A↦?_
           refine qa (hK72 _ _ (wp_cond_false (A.ev rfl) ?_))
           refine wsk fun K77 hK77 => wrl ?_
           rcases tf ((d.k == 9)) with hb78 | hb78
           ·
            have hb78' := eq_of_beq hb78
            refine sdc A qm hb78 λa A↦?_
            refine sda A λa A↦?_
            refine qa (hK77 _ _ (wp_cond_true (A.ev rfl) ?_))
            refine wrl (sdo (v := .pointer (some ⟨g2, 10, none⟩)) A (qb TrB_fld_38_5 rfl rfl) λa A↦?_)
            refine zr (us := [.int .i64 d.k, .int .i64 d.n, .bool d.y.q.b1, .slice d.y.o1 d.y.q.t1.length d.y.c1, .slice d.y.o2 d.y.q.q1.length d.y.c2, .bool d.y.q.b2, .slice d.y.o3 d.y.q.t2.length d.y.c3, .slice d.y.o4 d.y.q.q2.length d.y.c4, .string d.s, .slice d.ro d.rl.length d.rc, .slice none 0 0]) (L' := (.obj g2 (.cells #[.int .i64 d.k, .int .i64 d.n, .bool d.y.q.b1, .slice d.y.o1 d.y.q.t1.length d.y.c1, .slice d.y.o2 d.y.q.q1.length d.y.c2, .bool d.y.q.b2, .slice d.y.o3 d.y.q.t2.length d.y.c3, .slice d.y.o4 d.y.q.q2.length d.y.c4, .string d.s, .slice d.ro d.rl.length d.rc, .slice none 0 0] 38) :: [])) A M rfl rfl (za rfl rfl rfl (by kernel_rfl) M 0 rfl rfl rfl) 0 rfl rfl rfl ?_
            intro w79 M
            refine qa ?_
            exact hJ6 _ _ ⟨true, d.n, d.y.q.b1, d.y.o1, d.y.q.t1.length, d.y.c1, d.y.o2, d.y.q.q1.length, d.y.c2, d.y.q.b2, d.y.o3, d.y.q.t2.length, d.y.c3, d.y.o4, d.y.q.q2.length, d.y.c4, d.s, d.ro, d.rl.length, d.rc, none, 0, 0, ⟨by
             unfold js
             repeat (first | rw [if_pos (by omega)] | rw [if_neg (by omega)])
             first | rfl, by first | exact hq1 | decide, by first | exact hq2 | decide, by first | exact hq3 | decide, by first | exact hq4 | decide⟩, A.keep _ ⟨rfl, rfl, rfl, rfl, trivial⟩, M⟩
           ·
            have hb78' := ne_of_beq_false hb78
            refine sdc A qm hb78 λa A↦?_
            refine sda A λa A↦?_
            refine qa (hK77 _ _ (wp_cond_false (A.ev rfl) ?_))
            refine wrl (sda A λa A↦?_)
            refine qa ?_
            exact hJ6 _ _ ⟨false, d.n, d.y.q.b1, d.y.o1, d.y.q.t1.length, d.y.c1, d.y.o2, d.y.q.q1.length, d.y.c2, d.y.q.b2, d.y.o3, d.y.q.t2.length, d.y.c3, d.y.o4, d.y.q.q2.length, d.y.c4, d.s, d.ro, d.rl.length, d.rc, d.lo, ts.length, d.lc, ⟨by
             unfold js
             repeat (first | rw [if_pos (by omega)] | rw [if_neg (by omega)])
             first | rfl, by first | exact hq1 | decide, by first | exact hq2 | decide, by first | exact hq3 | decide, by first | exact hq4 | decide⟩, A.keep _ ⟨rfl, rfl, rfl, rfl, trivial⟩, M⟩
theorem TrC_is1_28 : Is1 Tryz.prog 28 := ⟨⟨_, Tryz.underlying28, rfl⟩, by kernel_rfl⟩
theorem TrC_fld_38_5 : FieldAt Tryz.prog 38 5 10 := ⟨_, _, Tryz.underlying38, rfl, rfl, by kernel_rfl⟩
theorem TrC_isS_38 : IsS Tryz.prog 38 11 := ⟨⟨_, Tryz.underlying38⟩, by kernel_rfl⟩
theorem Mg.here {w0 w : World} {L : List Ck} (h : Mg w0 w L) (k : Nat) {g : Nat} {cs : List Value} {t : TypeId} (hk : L[k]? = some (.obj g (.cells cs.toArray t))) : Here w g 0 cs := ⟨(Array.getElem?_eq_some_iff.1 (h.obj k hk)).1, fun j v hj => by rw [Nat.zero_add]; exact h.cell k hk j hj⟩
def Through (t : Dt) : Prop := ∀ {w : World}, t.rd w → Tabs8 w → Calls Tryz.prog 71 #[.agg t.cells.toArray] w fun e w' => e = .returned (.bool (uu qx t.tr)) ∧ Below w.heap.size w w'
theorem qja : ∀ t : Dt, Through t := Dt.indT fun d ts ih => by
 intro w hrd hT
 have hok := (Dt.rd_iff.1 hrd)
 have hlen : ts.length ≤ 9223372036854775807 := Nat.le_trans hok.2.1 hok.2.2.1
 have M : Mg w w ([]) := Mg.start w
 refine qs (l := [(0, .agg (d.cells ts.length).toArray)]) Tryz.func71 rfl Tryz.ntmps71 rfl rfl ?_
 intro Q hret hnorm hP a A
 refine wsk fun K1 hK1 => wrl (zx (vs := [.int .i64 d.k, .int .i64 d.n, .bool d.y.q.b1, .slice d.y.o1 d.y.q.t1.length d.y.c1, .slice d.y.o2 d.y.q.q1.length d.y.c2, .bool d.y.q.b2, .slice d.y.o3 d.y.q.t2.length d.y.c3, .slice d.y.o4 d.y.q.q2.length d.y.c4, .string d.s, .slice d.ro d.rl.length d.rc, .slice d.lo ts.length d.lc]) (t := 38) A M rfl rfl rfl pg (qr rfl rfl) (by decide) ?_)
 intro g2 w3 M a A
 refine sda A λa A↦?_
 refine qa (hK1 _ _ (wsk fun K4 hK4 => wsk fun K5 hK5 => wrl (sdo A (qw M TrC_isS_38 rfl 0 rfl (cs := [.int .i64 d.k, .int .i64 d.n, .bool d.y.q.b1, .slice d.y.o1 d.y.q.t1.length d.y.c1, .slice d.y.o2 d.y.q.q1.length d.y.c2, .bool d.y.q.b2, .slice d.y.o3 d.y.q.t2.length d.y.c3, .slice d.y.o4 d.y.q.q2.length d.y.c4, .string d.s, .slice d.ro d.rl.length d.rc, .slice d.lo ts.length d.lc]) rfl rfl) λa A↦?_)))
 rcases tf (js d.k d.n d.y.q d.s d.rl.length ts.length) with hb6 | hb6
 ·
  refine gcl A M (ef rfl rfl) ((hb6 ▸ qma (ts := ts) (hok.1.below M.bel) (hT.below M.bel))) fun w8 hb7 M a A => ?_
  refine sdo (v := .bool false) A (je rfl jl) λa A↦?_
  refine qa (hK5 _ _ (wp_cond_false (A.ev rfl) ?_))
  refine wp_skip (hK4 _ _ (wsk fun K9 hK9 => wsk fun K10 hK10 => wrl (sdo (v := .pointer (some ⟨g2, 10, none⟩)) A (qb TrC_fld_38_5 rfl rfl) λa A↦?_)))
  refine sdo A (qk M TrC_is1_28 rfl 0 rfl rfl) λa A↦?_
  refine sdo A (qy Tryz.underlying28 rfl) λa A↦?_
  refine sdm A λa A↦?_
  refine qa (hK10 _ _ (wp_block (jp (fun m_ a w1 => ∃ (i : Nat), m_ = 1 + (ts.length - i) ∧ (i ≤ ts.length ∧ qgj qx ((ts.map Dt.tr).drop 0) = qgj qx ((ts.map Dt.tr).drop i)) ∧ Sl a 19 [(0, .agg (d.cells ts.length).toArray), (1, .pointer (some ⟨g2, 0, none⟩)), (5, .agg (d.cells ts.length).toArray), (6, .bool true), (7, .bool false), (8, .pointer (some ⟨g2, 10, none⟩)), (9, .slice d.lo ts.length d.lc), (10, .int .i64 (((ts.length : Nat) : Int))), (11, .int .i64 (((i : Nat) : Int)))] ∧ Mg w w1 (.obj g2 (.cells (d.cells ts.length).toArray 38) :: [])) _ ⟨0, rfl, ⟨Nat.zero_le _, rfl⟩, A.keep _ (by repeat' constructor), M⟩ ?_)))
  clear M A
  rintro m_ a w11 ⟨i, rfl, hinv13, A, M⟩ K12 hK12
  obtain ⟨hi0, hin9⟩ := hinv13
  refine wsk fun K14 hK14 => wrl ?_
  rcases tf (decide (((i : Nat) : Int) < ((ts.length : Nat) : Int))) with hb15 | hb15
  ·
   have hb15' := of_decide_eq_true hb15
   refine sdc A zq hb15 λa A↦?_
   refine qa (hK14 _ _ (wsk fun K16 hK16 => wp_cond_true (A.ev rfl) ?_))
   refine wp_skip (hK16 _ _ (wsk fun K17 hK17 => wp_block (wsk fun K18 hK18 => ?_)))
   obtain ⟨t1, b1, o1, hi1, hm1, hr1, hl1, hH1⟩ := kid hrd (i := i) (by omega)
   refine wrl (sdo (v := .pointer (some ⟨b1, o1 + i * 11, none⟩)) A (zu (k := i) Tryz.underlying28 (by kernel_rfl) rfl rfl rfl hl1 (by omega)) λa A↦?_)
   refine sdo A (jv M hH1 TrC_isS_38 rfl rfl) λa A↦?_
   refine zx (vs := [.int .i64 0, .int .i64 0, .bool false, .slice none 0 0, .slice none 0 0, .bool false, .slice none 0 0, .slice none 0 0, .string (⟨#[]⟩), .slice none 0 0, .slice none 0 0]) (t := 38) A M rfl rfl rfl pg (ql (z := .agg #[.int .i64 0, .int .i64 0, .bool false, .slice none 0 0, .slice none 0 0, .bool false, .slice none 0 0, .slice none 0 0, .string (⟨#[]⟩), .slice none 0 0, .slice none 0 0]) (by kernel_rfl) rfl) (by decide) ?_
   intro g19 w20 M a A
   refine zr (us := [.int .i64 t1.d.k, .int .i64 t1.d.n, .bool t1.d.y.q.b1, .slice t1.d.y.o1 t1.d.y.q.t1.length t1.d.y.c1, .slice t1.d.y.o2 t1.d.y.q.q1.length t1.d.y.c2, .bool t1.d.y.q.b2, .slice t1.d.y.o3 t1.d.y.q.t2.length t1.d.y.c3, .slice t1.d.y.o4 t1.d.y.q.q2.length t1.d.y.c4, .string t1.d.s, .slice t1.d.ro t1.d.rl.length t1.d.rc, .slice t1.d.lo t1.ts.length t1.d.lc]) (L' := (.obj g19 (.cells (t1.d.cells t1.ts.length).toArray 38) :: .obj g2 (.cells (d.cells ts.length).toArray 38) :: [])) A M rfl rfl (za rfl rfl rfl (by kernel_rfl) M 0 rfl rfl rfl) 0 rfl rfl rfl ?_
   intro w21 M
   refine qa (hK18 _ _ (wsk fun K22 hK22 => wrl (sdo A (qw M TrC_isS_38 rfl 0 rfl (cs := [.int .i64 t1.d.k, .int .i64 t1.d.n, .bool t1.d.y.q.b1, .slice t1.d.y.o1 t1.d.y.q.t1.length t1.d.y.c1, .slice t1.d.y.o2 t1.d.y.q.q1.length t1.d.y.c2, .bool t1.d.y.q.b2, .slice t1.d.y.o3 t1.d.y.q.t2.length t1.d.y.c3, .slice t1.d.y.o4 t1.d.y.q.q2.length t1.d.y.c4, .string t1.d.s, .slice t1.d.ro t1.d.rl.length t1.d.rc, .slice t1.d.lo t1.ts.length t1.d.lc]) rfl rfl) λa A↦?_)))
   rcases tf (uu qx t1.tr) with hb23 | hb23
   ·
    refine gcl A M (ef rfl rfl) ((hb23 ▸ ih t1 hm1 (Dt.keep M.bel _ hr1) (hT.below M.bel))) fun w25 hb24 M a A => ?_
    refine sdo (v := .bool false) A (je rfl jl) λa A↦?_
    refine qa (hK22 _ _ (wp_cond_false (A.ev rfl) ?_))
    refine wp_skip (hK17 _ _ (wrl (sdo (v := .int .i64 (((i + 1 : Nat) : Int))) A (qg rfl rfl (fun w => (vg (yy (by omega) (by omega)) w).trans (by rw [show (((i : Nat) : Int) + 1 : Int) = ((i + 1 : Nat) : Int) from by omega]))) λa A↦?_)))
    refine sdm A λa A↦?_
    refine qa ?_
    replace M : Mg w w25 (.obj g2 (.cells (d.cells ts.length).toArray 38) :: []) := by
     have h9 := M.sub (cn (cc (.refl _)))
     exact h9
    refine hK12 _ _ _ (by omega) ⟨i + 1, rfl, ⟨by omega, by rw [hin9, zbf hi1, hb23, Bool.true_and]⟩, A.keep _ (by repeat' constructor), M⟩
   ·
    refine gcl A M (ef rfl rfl) ((hb23 ▸ ih t1 hm1 (Dt.keep M.bel _ hr1) (hT.below M.bel))) fun w27 hb26 M a A => ?_
    refine sdo (v := .bool true) A (je rfl jl) λa A↦?_
    refine qa (hK22 _ _ (wp_cond_true (A.ev rfl) ?_))
    refine wsk fun K28 hK28 => wrl (sda A λa A↦?_)
    refine qa (hK28 _ _ (wp_ret (hret _ _ (en1 A rfl (qj rfl) ?_))))
    rw [show uu qx (Dt.mk d ts).tr = false from by rw [qji, qbj, hb6, Bool.true_and, hin9, zbf hi1, hb23, Bool.false_and]]
    exact ⟨rfl, M.bel⟩
  ·
   have hb15' := of_decide_eq_false hb15
   refine sdc A zq hb15 λa A↦?_
   refine qa (hK14 _ _ (wsk fun K29 hK29 => wp_cond_false (A.ev rfl) ?_))
   refine wp_exit (hK9 _ _ (wsk fun K30 hK30 => wrl (sda A λa A↦?_)))
   refine qa (hK30 _ _ (wp_ret (hret _ _ (en1 A rfl (qj rfl) ?_))))
   rw [show uu qx (Dt.mk d ts).tr = true from by rw [qji, qbj, hb6, Bool.true_and, hin9, qbi (by omega), qgj]]
   exact ⟨rfl, M.bel⟩
 ·
  refine gcl A M (ef rfl rfl) ((hb6 ▸ qma (ts := ts) (hok.1.below M.bel) (hT.below M.bel))) fun w32 hb31 M a A => ?_
  refine sdo (v := .bool true) A (je rfl jl) λa A↦?_
  refine qa (hK5 _ _ (wp_cond_true (A.ev rfl) ?_))
  refine wsk fun K33 hK33 => wrl (sda A λa A↦?_)
  refine qa (hK33 _ _ (wp_ret (hret _ _ (en1 A rfl (qj rfl) ?_))))
  rw [show uu qx (Dt.mk d ts).tr = false from by rw [qji, qbj, hb6, Bool.false_and]]
  exact ⟨rfl, M.bel⟩
theorem qla {w : World} {d : Nd} {ts : List Dt} (hrd : (Dt.mk d ts).rd w) : Calls Tryz.prog 70 #[.agg (d.cells ts.length).toArray] w fun e w' => e = .returned (.bool (jy 1 20000 (Dt.mk d ts).tr).1) ∧ Below w.heap.size w w' := by
 have M : Mg w w ([]) := Mg.start w
 refine qs (l := [(0, .agg (d.cells ts.length).toArray)]) Tryz.func70 rfl Tryz.ntmps70 rfl rfl ?_
 intro Q hret hnorm hP a A
 refine wsk fun K1 hK1 => wrl (zx (vs := [.int .i64 d.k, .int .i64 d.n, .bool d.y.q.b1, .slice d.y.o1 d.y.q.t1.length d.y.c1, .slice d.y.o2 d.y.q.q1.length d.y.c2, .bool d.y.q.b2, .slice d.y.o3 d.y.q.t2.length d.y.c3, .slice d.y.o4 d.y.q.q2.length d.y.c4, .string d.s, .slice d.ro d.rl.length d.rc, .slice d.lo ts.length d.lc]) (t := 38) A M rfl rfl rfl pg (qr rfl rfl) (by decide) ?_)
 intro g2 w3 M a A
 refine sda A λa A↦?_
 refine qa (hK1 _ _ (wsk fun K4 hK4 => ?_))
 have hB1 := M.bel
 have hH1 := M.here 0 (cs := d.cells ts.length) rfl
 replace M : Mg w3 w3 [] := Mg.start w3
 refine wrl (zx (vs := [.int .i64 0]) (t := 3) A M rfl rfl rfl pg (ql (z := .int .i64 0) (by kernel_rfl) rfl) (by decide) ?_)
 intro g5 w6 M a A
 refine zr (us := [.int .i64 20000]) (L' := (.obj g5 (.cells #[.int .i64 20000] 3) :: [])) A M rfl rfl (za rfl rfl rfl (by kernel_rfl) M 0 rfl rfl rfl) 0 rfl rfl rfl ?_
 intro w7 M
 refine qa (hK4 _ _ (wsk fun K8 hK8 => wrl (sct A (ef rfl rfl) (qze (Dt.mk d ts) (Dt.keep hB1 _ hrd) hH1 M (by omega) (by omega) (by omega) (by omega)) ?_)))
 rintro _ w10 ⟨rfl, hM9⟩
 replace M : Mg w3 w10 (.obj g5 (.cells #[.int .i64 ((jy 1 20000 (Dt.mk d ts).tr).2)] 3) :: []) := hM9
 refine ⟨_, rfl, ?_⟩
 intro a A
 refine sda A λa A↦?_
 refine qa (hK8 _ _ (wp_ret (hret _ _ (en1 A rfl (qj rfl) ?_))))
 exact ⟨rfl, hB1.trans (M.bel.mono hB1.size)⟩
theorem zlg {w : World} {d : Nd} {ts : List Dt} (hrd : (Dt.mk d ts).rd w) (hT : Tabs8 w) : Calls Tryz.prog 45 #[.agg (d.cells ts.length).toArray] w fun e w' => e = .returned (.bool (qz qx (Dt.mk d ts).tr)) ∧ Below w.heap.size w w' := by
 have M : Mg w w ([]) := Mg.start w
 refine qs (l := [(0, .agg (d.cells ts.length).toArray)]) Tryz.func45 rfl Tryz.ntmps45 rfl rfl ?_
 intro Q hret hnorm hP a A
 refine wsk fun K1 hK1 => wrl (zx (vs := [.int .i64 d.k, .int .i64 d.n, .bool d.y.q.b1, .slice d.y.o1 d.y.q.t1.length d.y.c1, .slice d.y.o2 d.y.q.q1.length d.y.c2, .bool d.y.q.b2, .slice d.y.o3 d.y.q.t2.length d.y.c3, .slice d.y.o4 d.y.q.q2.length d.y.c4, .string d.s, .slice d.ro d.rl.length d.rc, .slice d.lo ts.length d.lc]) (t := 38) A M rfl rfl rfl pg (qr rfl rfl) (by decide) ?_)
 intro g2 w3 M a A
 refine sda A λa A↦?_
 refine qa (hK1 _ _ (wsk fun K4 hK4 => wrl (sdo A (qw M TrC_isS_38 rfl 0 rfl (cs := [.int .i64 d.k, .int .i64 d.n, .bool d.y.q.b1, .slice d.y.o1 d.y.q.t1.length d.y.c1, .slice d.y.o2 d.y.q.q1.length d.y.c2, .bool d.y.q.b2, .slice d.y.o3 d.y.q.t2.length d.y.c3, .slice d.y.o4 d.y.q.q2.length d.y.c4, .string d.s, .slice d.ro d.rl.length d.rc, .slice d.lo ts.length d.lc]) rfl rfl) λa A↦?_)))
 rcases tf ((jy 1 20000 (Dt.mk d ts).tr).1) with hb5 | hb5
 ·
  refine gcl A M (ef rfl rfl) ((hb5 ▸ qla (Dt.keep M.bel _ hrd))) fun w7 hb6 M a A => ?_
  refine sdm A λa A↦?_
  refine sdo A (qw M TrC_isS_38 rfl 0 rfl (cs := [.int .i64 d.k, .int .i64 d.n, .bool d.y.q.b1, .slice d.y.o1 d.y.q.t1.length d.y.c1, .slice d.y.o2 d.y.q.q1.length d.y.c2, .bool d.y.q.b2, .slice d.y.o3 d.y.q.t2.length d.y.c3, .slice d.y.o4 d.y.q.q2.length d.y.c4, .string d.s, .slice d.ro d.rl.length d.rc, .slice d.lo ts.length d.lc]) rfl rfl) λa A↦?_
  rcases tf (uu qx (Dt.mk d ts).tr) with hb8 | hb8
  ·
   refine gcl A M (ef rfl rfl) ((hb8 ▸ qja (Dt.mk d ts) (Dt.keep M.bel _ hrd) (hT.below M.bel))) fun w10 hb9 M a A => ?_
   refine sdk (v := .bool true) A λa A↦?_
   refine sda A λa A↦?_
   refine qa (hK4 _ _ (wp_ret (hret _ _ (en1 A rfl (qj rfl) ?_))))
   exact ⟨by unfold qz; simp_all, M.bel⟩
  ·
   refine gcl A M (ef rfl rfl) ((hb8 ▸ qja (Dt.mk d ts) (Dt.keep M.bel _ hrd) (hT.below M.bel))) fun w12 hb11 M a A => ?_
   refine sdk (v := .bool false) A λa A↦?_
   refine sda A λa A↦?_
   refine qa (hK4 _ _ (wp_ret (hret _ _ (en1 A rfl (qj rfl) ?_))))
   exact ⟨by unfold qz; simp_all, M.bel⟩
 ·
  refine gcl A M (ef rfl rfl) ((hb5 ▸ qla (Dt.keep M.bel _ hrd))) fun w14 hb13 M a A => ?_
  refine sdm A λa A↦?_
  iterate 2 refine zg A rfl rfl rfl λa A↦?_
  refine sdk (v := .bool false) A λa A↦?_
  refine sda A λa A↦?_
  refine qa (hK4 _ _ (wp_ret (hret _ _ (en1 A rfl (qj rfl) ?_))))
  exact ⟨by unfold qz; simp_all, M.bel⟩
theorem sound_any {w : World} {t : Dt} (hrd : t.rd w) (hT : Tabs8 w) : Calls Tryz.prog 45 #[.agg t.cells.toArray] w fun e w' => e = .returned (.bool (qz qx t.tr)) ∧ Below w.heap.size w w' := by
 obtain ⟨d, ts⟩ := t
 exact zlg hrd hT
end Go.Proofs.YtjlpecapebhgjaaGreatDoor.G
namespace Go.Proofs
open Go.Shelf
def Tryz.laysM316_ren : Go.Shelf.Ren := ⟨fun | 316 => 79 | n => n, fun | 9 => 9 | 3 => 3 | 4 => 4 | 37 => 36 | 0 => 0 | 127 => 113 | 5 => 5 | n => n, fun | n => n⟩
theorem Tryz.laysM316 : Go.Proofs.LaysM.n316 Tryz.prog Tryz.laysM316_ren := {
  mixed := by kernel_rfl
  f316 := Tryz.func79.trans (congrArg some (by kernel_rfl))
  t0 := Tryz.underlying0
  a0 := Tryz.isAgg0
  z0 := Tryz.sizeOf0
  v0 := Tryz.zeroValue0
  t3 := Tryz.underlying3
  a3 := Tryz.isAgg3
  z3 := Tryz.sizeOf3
  v3 := Tryz.zeroValue3
  t4 := Tryz.underlying4
  a4 := Tryz.isAgg4
  z4 := Tryz.sizeOf4
  v4 := Tryz.zeroValue4
  t9 := Tryz.underlying9
  a9 := Tryz.isAgg9
  z9 := Tryz.sizeOf9
  v9 := Tryz.zeroValue9
  t37 := Tryz.underlying36
  a37 := Tryz.isAgg36
  z37 := Tryz.sizeOf36
  v37 := Tryz.zeroValue36
  t127 := Tryz.underlying113
  a127 := Tryz.isAgg113
  z127 := Tryz.sizeOf113
  v127 := Tryz.zeroValue113
  t5 := Tryz.underlying5
  a5 := Tryz.isAgg5
  z5 := Tryz.sizeOf5
  v5 := Tryz.zeroValue5
  i0 := by kernel_rfl
  i3 := by kernel_rfl
  i4 := by kernel_rfl
  i5 := by kernel_rfl
  i9 := by kernel_rfl
  i37 := by kernel_rfl
  i127 := by kernel_rfl }
open Go.RowKit in
theorem Tryz.stringslite_Clone (s : ByteArray) (w : World) (hlim : s.size ≤ 281474976710656) :
    Calls Tryz.prog 79 #[.string s] w fun e w' => e = .returned (.string s) ∧ Below w.heap.size w w' := Any.stringslite_Clone Tryz.laysM316 s w hlim
end Go.Proofs
namespace Go.Proofs.YtjlpecapebhgjaaGreatDoor.G
open Go.RowKit
set_option linter.unusedVariables false
set_option linter.unusedSimpArgs false
set_option maxRecDepth 100000
theorem LiA_is1_31 : Is1 Tryz.prog 31 := ⟨⟨_, Tryz.underlying31, rfl⟩, by kernel_rfl⟩
theorem LiA_is1_4 : Is1 Tryz.prog 4 := ⟨⟨_, Tryz.underlying4, rfl⟩, by kernel_rfl⟩
theorem LiA_fld_33_0 : FieldAt Tryz.prog 33 0 0 := ⟨_, _, Tryz.underlying33, rfl, rfl, by kernel_rfl⟩
theorem LiA_fld_33_1 : FieldAt Tryz.prog 33 1 1 := ⟨_, _, Tryz.underlying33, rfl, rfl, by kernel_rfl⟩
theorem LiA_fld_33_2 : FieldAt Tryz.prog 33 2 2 := ⟨_, _, Tryz.underlying33, rfl, rfl, by kernel_rfl⟩
theorem LiA_isS_33 : IsS Tryz.prog 33 3 := ⟨⟨_, Tryz.underlying33⟩, by kernel_rfl⟩
theorem zzd {w : World} {so : Option Addr} {ca : Nat} {l : List UInt8} (hb : Rb w so l) (hl : l.length ≤ 1000000000) : Calls Tryz.prog 55 #[.slice so l.length ca] w fun e w' => ∃ v, e = .returned v ∧ Mg w w' [.row BY 1 v l.length (Lib.byteCells l)] := by
 have M : Mg w w ([]) := Mg.start w
 refine qs (l := [(0, .slice so l.length ca)]) Tryz.func55 rfl Tryz.ntmps55 rfl rfl ?_
 intro Q hret hnorm hP a A
 refine wsk fun K1 hK1 => wrl (sda A λa A↦?_)
 refine qa (hK1 _ _ (wsk fun K2 hK2 => wrl (sdm A λa A↦?_)))
 replace M := M.nilRow (jr jx) BY 1
 refine kl (e := BY) (sz := 1) (k := 0) (q := 0) (m := l.length) (xs := []) (news := Lib.byteCells l) (L' := fun v3 => (.row BY 1 (v3) (0 + l.length) ([] ++ Lib.byteCells l) :: [])) A rfl rfl rfl (vl (z := .int .u8 0) (sz := 1) (by_ := 1) Tryz.underlying36 (by kernel_rfl) rfl rfl rfl M 0 rfl rfl rfl (zcc l) ((zke hb).below M.bel) (zfh l) (by omega)) (fun _ => rfl) ?_
 intro v3 w4 M a A
 refine sda A λa A↦?_
 refine qa (hK2 _ _ (wp_ret (hret _ _ (en1 A rfl (qj rfl) ?_))))
 exact ⟨_, rfl, by rw [Nat.zero_add, List.nil_append] at M; exact M⟩
theorem zze {w : World} {so : Option Addr} {ca : Nat} {l : List Nat} (hb : Rd w so l) (hl : l.length ≤ 1000000000) : Calls Tryz.prog 78 #[.slice so l.length ca] w fun e w' => ∃ v, e = .returned v ∧ Mg w w' [.row 118 1 v l.length (xn l)] := by
 have M : Mg w w ([]) := Mg.start w
 refine qs (l := [(0, .slice so l.length ca)]) Tryz.func78 rfl Tryz.ntmps78 rfl rfl ?_
 intro Q hret hnorm hP a A
 refine wsk fun K1 hK1 => wrl (sda A λa A↦?_)
 refine qa (hK1 _ _ (wsk fun K2 hK2 => wrl (sdm A λa A↦?_)))
 replace M := M.nilRow (jr jx) 118 1
 refine kl (e := 118) (sz := 1) (k := 0) (q := 0) (m := l.length) (xs := []) (news := xn l) (L' := fun v3 => (.row 118 1 (v3) (0 + l.length) ([] ++ xn l) :: [])) A rfl rfl rfl (vl (z := .int .u32 0) (sz := 1) (by_ := 4) Tryz.underlying31 (by kernel_rfl) rfl rfl rfl M 0 rfl rfl rfl (zcb l) ((zkf hb).below M.bel) (vq l) (by omega)) (fun _ => rfl) ?_
 intro v3 w4 M a A
 refine sda A λa A↦?_
 refine qa (hK2 _ _ (wp_ret (hret _ _ (en1 A rfl (qj rfl) ?_))))
 exact ⟨_, rfl, by rw [Nat.zero_add, List.nil_append] at M; exact M⟩
theorem zve {w : World} {so : Option Addr} {ca : Nat} {ts : List Dt} (hb : Rt w so ts) (hl : ts.length ≤ 1000000000) : Calls Tryz.prog 80 #[.slice so ts.length ca] w fun e w' => ∃ v, e = .returned v ∧ Mg w w' [.row 38 11 v ts.length (cellsOf ts)] := by
 have M : Mg w w ([]) := Mg.start w
 refine qs (l := [(0, .slice so ts.length ca)]) Tryz.func80 rfl Tryz.ntmps80 rfl rfl ?_
 intro Q hret hnorm hP a A
 refine wsk fun K1 hK1 => wrl (sda A λa A↦?_)
 refine qa (hK1 _ _ (wsk fun K2 hK2 => wrl (sdm A λa A↦?_)))
 replace M := M.nilRow (jr jx) 38 11
 refine kl (e := 38) (sz := 11) (k := 0) (q := 0) (m := ts.length) (xs := []) (news := cellsOf ts) (L' := fun v3 => (.row 38 11 (v3) (0 + ts.length) ([] ++ cellsOf ts) :: [])) A rfl rfl rfl (vl (z := .agg #[.int .i64 0, .int .i64 0, .bool false, .slice none 0 0, .slice none 0 0, .bool false, .slice none 0 0, .slice none 0 0, .string ⟨#[]⟩, .slice none 0 0, .slice none 0 0]) (sz := 11) (by_ := 192) Tryz.underlying28 (by kernel_rfl) rfl rfl rfl M 0 rfl rfl rfl (vu ts) ((zyj hb).below M.bel) (qrg ts) (by omega)) (fun _ => rfl) ?_
 intro v3 w4 M a A
 refine sda A λa A↦?_
 refine qa (hK2 _ _ (wp_ret (hret _ _ (en1 A rfl (qj rfl) ?_))))
 exact ⟨_, rfl, by rw [Nat.zero_add, List.nil_append] at M; exact M⟩
theorem zsd {w : World} {so : Option Addr} {ca : Nat} {l : List UInt8} (hb : Rb w so l) (hl : l.length ≤ 1000000000) : Calls Tryz.prog 55 #[.slice so l.length ca] w fun e w' => ∃ so' ca', e = .returned (.slice so' l.length ca') ∧ (Rb w' so' l ∧ In (w.heap.size ≤ ·) so' l ∧ l.length ≤ ca' ∧ ca' ≤ 9223372036854775807) ∧ Below w.heap.size w w' := by
 refine (zzd hb hl).mono ?_
 rintro _ w' ⟨v, rfl, M⟩
 obtain ⟨so', ca', rfl⟩ := qlb (M.has 0 rfl)
 exact ⟨so', ca', rfl, ⟨(zvi M 0 rfl).1, qza (M.has 0 rfl) _, qrh (M.has 0 rfl), zrc (M.has 0 rfl)⟩, M.bel⟩
theorem zcf {w : World} {so : Option Addr} {ca : Nat} {l : List Nat} (hb : Rd w so l) (hl : l.length ≤ 1000000000) : Calls Tryz.prog 78 #[.slice so l.length ca] w fun e w' => ∃ so' ca', e = .returned (.slice so' l.length ca') ∧ (Sc w' so' ca' l ∧ In (w.heap.size ≤ ·) so' l) ∧ Below w.heap.size w w' := by
 refine (zze hb hl).mono ?_
 rintro _ w' ⟨v, rfl, M⟩
 obtain ⟨so', ca', rfl⟩ := qlb (M.has 0 rfl)
 exact ⟨so', ca', rfl, ⟨zwi hb.dig (M.has 0 rfl), qza (M.has 0 rfl) _⟩, M.bel⟩
theorem zcg {w : World} {b : Bool} {o1 o2 : Option Addr} {c1 c2 : Nat} {t q : List Nat} (h1 : Sc w o1 c1 t) (h2 : Sc w o2 c2 q) (l1 : t.length ≤ 1000000000) (l2 : q.length ≤ 1000000000) : Calls Tryz.prog 53 #[.agg #[.bool b, .slice o1 t.length c1, .slice o2 q.length c2]] w fun e w' => ∃ p1 d1 p2 d2, e = .returned (.agg #[.bool b, .slice p1 t.length d1, .slice p2 q.length d2]) ∧ (Sc w' p1 d1 t ∧ In (w.heap.size ≤ ·) p1 t ∧ Sc w' p2 d2 q ∧ In (w.heap.size ≤ ·) p2 q) ∧ Below w.heap.size w w' := by
 have M : Mg w w ([]) := Mg.start w
 refine qs (l := [(0, .agg #[.bool b, .slice o1 t.length c1, .slice o2 q.length c2])]) Tryz.func53 rfl Tryz.ntmps53 rfl rfl ?_
 intro Q hret hnorm hP a A
 refine wsk fun K1 hK1 => wrl (zx (vs := [.bool b, .slice o1 t.length c1, .slice o2 q.length c2]) (t := 33) A M rfl rfl rfl pg (qr rfl rfl) (by decide) ?_)
 intro g2 w3 M a A
 refine zx (vs := [.bool false, .slice none 0 0, .slice none 0 0]) (t := 33) A M rfl rfl rfl pg (ql (z := .agg #[.bool false, .slice none 0 0, .slice none 0 0]) (by kernel_rfl) rfl) (by decide) ?_
 intro g4 w5 M a A
 refine qa (hK1 _ _ (wsk fun K6 hK6 => jh (S := fun w1 => Mg w w1 (.obj g2 (.cells #[.bool b, .slice o1 t.length c1, .slice o2 q.length c2] 33) :: [])) (by kernel_rfl) ?_))
 replace M := M.drew
 refine qe (v := .pointer (some ⟨g2, 0, none⟩)) A 0 rfl rfl rfl rfl hP (M.sub (cn (cc (List.nil_sublist _)))) (fun w1 M => qb LiA_fld_33_0 rfl rfl) λa A↦?_
 refine qe A 1 rfl rfl rfl rfl hP (M.sub (cn (cc (List.nil_sublist _)))) (fun w1 M => qk M LiA_is1_4 rfl 0 rfl rfl) λa A↦?_
 refine qe (v := .pointer (some ⟨g2, 1, none⟩)) A 2 rfl rfl rfl rfl hP (M.sub (cn (cc (List.nil_sublist _)))) (fun w1 M => qb LiA_fld_33_1 rfl rfl) λa A↦?_
 refine qe A 3 rfl rfl rfl rfl hP (M.sub (cn (cc (List.nil_sublist _)))) (fun w1 M => qk M LiA_is1_31 rfl 0 rfl rfl) λa A↦?_
 refine qe (v := .pointer (some ⟨g2, 2, none⟩)) A 5 rfl rfl rfl rfl hP (M.sub (cn (cc (List.nil_sublist _)))) (fun w1 M => qb LiA_fld_33_2 rfl rfl) λa A↦?_
 refine qe A 6 rfl rfl rfl rfl hP (M.sub (cn (cc (List.nil_sublist _)))) (fun w1 M => qk M LiA_is1_31 rfl 0 rfl rfl) λa A↦?_
 have hlt7 := (Ck.lt (M.has 0 rfl) g4 rfl).2
 have hlt8 := (Ck.lt (M.has 1 rfl) g2 rfl).2
 have hsz9 := M.bel.size
 refine qh (by kernel_rfl) (qn A 4 rfl rfl rfl rfl (qi rfl rfl (fun w => by kernel_rfl)) (zcf (h1.rd.below M.bel) l1) ?_)
 rintro _ w15 ⟨so10, ca11, rfl, ⟨hf13, hf14⟩, hb12⟩
 replace M := M.call hb12
 refine ⟨_, rfl, (M.sub (cn (cc (List.nil_sublist _)))), ?_⟩
 intro a A
 have hlt16 := (Ck.lt (M.has 0 rfl) g4 rfl).2
 have hlt17 := (Ck.lt (M.has 1 rfl) g2 rfl).2
 have hsz18 := M.bel.size
 refine qh (by kernel_rfl) (qn A 7 rfl rfl rfl rfl (qi rfl rfl (fun w => by kernel_rfl)) (zcf (h2.rd.below M.bel) l2) ?_)
 rintro _ w24 ⟨so19, ca20, rfl, ⟨hf22, hf23⟩, hb21⟩
 replace hf13 := hf13.below hb21
 replace M := M.call hb21
 refine ⟨_, rfl, (M.sub (cn (cc (List.nil_sublist _)))), ?_⟩
 intro a A
 refine qe (v := .agg #[.bool b, .slice so10 t.length ca11, .slice so19 q.length ca20]) A 8 rfl rfl rfl rfl hP (M.sub (cn (cc (List.nil_sublist _)))) (fun w1 M => zp rfl (fun w => by kernel_rfl)) λa A↦?_
 refine qh (by kernel_rfl) (ul (us := [.bool b, .slice so10 t.length ca11, .slice so19 q.length ca20]) (L' := (.obj g4 (.cells #[.bool b, .slice so10 t.length ca11, .slice so19 q.length ca20] 33) :: .obj g2 (.cells #[.bool b, .slice o1 t.length c1, .slice o2 q.length c2] 33) :: [])) A M 9 rfl rfl rfl (za rfl rfl rfl (by kernel_rfl) M 0 rfl rfl rfl) 0 rfl rfl rfl ?_)
 intro w25 M hK26
 replace hf13 := kr hf13 (hf14.mono fun b hb => by rintro rfl; omega) hK26
 replace hf22 := kr hf22 (hf23.mono fun b hb => by rintro rfl; omega) hK26
 refine ⟨(M.sub (cn (cc (List.nil_sublist _)))), ?_⟩
 refine ze (by kernel_rfl) ?_
 refine hK6 _ _ (wp_ret (hret _ _ (en1 A rfl (vr M LiA_isS_33 rfl 0 rfl (cs := [.bool b, .slice so10 t.length ca11, .slice so19 q.length ca20]) rfl rfl) ?_)))
 exact ⟨_, _, _, _, rfl, ⟨hf13, In.mono hf14 (fun b hb => Nat.le_trans hsz9 hb), hf22, In.mono hf23 (fun b hb => Nat.le_trans hsz18 hb)⟩, M.bel⟩
theorem LiB_is1_28 : Is1 Tryz.prog 28 := ⟨⟨_, Tryz.underlying28, rfl⟩, by kernel_rfl⟩
theorem LiB_is1_3 : Is1 Tryz.prog 3 := ⟨⟨_, Tryz.underlying3, rfl⟩, by kernel_rfl⟩
theorem LiB_is1_36 : Is1 Tryz.prog 36 := ⟨⟨_, Tryz.underlying36, rfl⟩, by kernel_rfl⟩
theorem LiB_is1_9 : Is1 Tryz.prog 9 := ⟨⟨_, Tryz.underlying9, rfl⟩, by kernel_rfl⟩
theorem LiB_fld_35_0 : FieldAt Tryz.prog 35 0 0 := ⟨_, _, Tryz.underlying35, rfl, rfl, by kernel_rfl⟩
theorem LiB_fld_35_1 : FieldAt Tryz.prog 35 1 3 := ⟨_, _, Tryz.underlying35, rfl, rfl, by kernel_rfl⟩
theorem LiB_fld_38_0 : FieldAt Tryz.prog 38 0 0 := ⟨_, _, Tryz.underlying38, rfl, rfl, by kernel_rfl⟩
theorem LiB_fld_38_1 : FieldAt Tryz.prog 38 1 1 := ⟨_, _, Tryz.underlying38, rfl, rfl, by kernel_rfl⟩
theorem LiB_fld_38_2 : FieldAt Tryz.prog 38 2 2 := ⟨_, _, Tryz.underlying38, rfl, rfl, by kernel_rfl⟩
theorem LiB_fld_38_3 : FieldAt Tryz.prog 38 3 8 := ⟨_, _, Tryz.underlying38, rfl, rfl, by kernel_rfl⟩
theorem LiB_fld_38_4 : FieldAt Tryz.prog 38 4 9 := ⟨_, _, Tryz.underlying38, rfl, rfl, by kernel_rfl⟩
theorem LiB_fld_38_5 : FieldAt Tryz.prog 38 5 10 := ⟨_, _, Tryz.underlying38, rfl, rfl, by kernel_rfl⟩
theorem LiB_isS_33 : IsS Tryz.prog 33 3 := ⟨⟨_, Tryz.underlying33⟩, by kernel_rfl⟩
theorem LiB_isS_38 : IsS Tryz.prog 38 11 := ⟨⟨_, Tryz.underlying38⟩, by kernel_rfl⟩
theorem clone_any {w : World} {s : ByteArray} (hs : s.size ≤ 281474976710656) : Calls Tryz.prog 54 #[.string s] w fun e w' => e = .returned (.string s) ∧ Below w.heap.size w w' := by
 have M : Mg w w ([]) := Mg.start w
 refine qs (l := [(0, .string s)]) Tryz.func54 rfl Tryz.ntmps54 rfl rfl ?_
 intro Q hret hnorm hP a A
 refine wsk fun K1 hK1 => wrl (sda A λa A↦?_)
 refine qa (hK1 _ _ (wsk fun K2 hK2 => wrl (sdm A λa A↦?_)))
 refine gcl A M (ef rfl rfl) (Tryz.stringslite_Clone s _ hs) fun w3 hb1 M a A => ?_
 refine sda A λa A↦?_
 refine qa (hK2 _ _ (wp_ret (hret _ _ (en1 A rfl (qj rfl) ?_))))
 exact ⟨rfl, M.bel⟩
def Copies (t : Dt) : Prop := ∀ {w : World}, t.rd w → t.tr.bulk ≤ 1000000000 → Calls Tryz.prog 28 #[.agg (t.d.cells t.ts.length).toArray] w fun e w' => ∃ t2 : Dt, e = .returned (.agg (t2.d.cells t2.ts.length).toArray) ∧ (t2.rd w' ∧ t2.at_ (w.heap.size ≤ ·) ∧ t2.tr = t.tr) ∧ Below w.heap.size w w'
def CopyAll (ts : List Dt) : Prop := ∀ {w : World} {so : Option Addr} {ca : Nat}, Rt w so ts → (∀ t ∈ ts, t.rd w) → Tr.bulks (ts.map Dt.tr) ≤ 1000000000 → Calls Tryz.prog 56 #[.slice so ts.length ca] w fun e w' => ∃ v us, e = .returned v ∧ (us.map Dt.tr = ts.map Dt.tr ∧ (∀ t ∈ us, t.rd w' ∧ t.at_ (fun b => w.heap.size ≤ b ∧ v.ownBlock ≠ some b))) ∧ Mg w w' [.row 38 11 v us.length (cellsOf us)]
theorem qzf {ts : List Dt} (ih : ∀ t ∈ ts, Copies t) (hne : ts ≠ []) : CopyAll ts := by
 intro w so ca hR hD hb
 have hbl := qhg ts
 have M : Mg w w ([]) := Mg.start w
 refine qs (l := [(0, .slice so ts.length ca)]) Tryz.func56 rfl Tryz.ntmps56 rfl rfl ?_
 intro Q hret hnorm hP a A
 refine wsk fun K1 hK1 => wrl (sda A λa A↦?_)
 refine qa (hK1 _ _ (wsk fun K2 hK2 => wrl (sdm A λa A↦?_)))
 refine sct A (ef rfl rfl) (zve (hR.below M.bel) (by have := qhg ts; omega)) ?_
 rintro _ w4 ⟨v9, rfl, hM3⟩
 obtain ⟨g9, c9, rfl⟩ := zkg (hM3.has 0 rfl) (fun k => hne (List.length_eq_zero_iff.1 k))
 replace M : Mg w w4 (.row 38 11 (.slice (some ⟨g9, 0, none⟩) ts.length c9) ts.length (cellsOf ts) :: []) := hM3
 refine ⟨_, rfl, ?_⟩
 intro a A
 refine sda A λa A↦?_
 refine qa (hK2 _ _ (wsk fun K5 hK5 => wsk fun K6 hK6 => wrl (sdm A λa A↦?_)))
 refine sdo A (qy Tryz.underlying28 rfl) λa A↦?_
 refine sdm A λa A↦?_
 refine qa (hK6 _ _ (wp_block (jp (fun m_ a w1 => ∃ (i : Nat) (cs : List Dt), m_ = 1 + (ts.length - i) ∧ (i ≤ ts.length ∧ cs.length = i ∧ cs.map Dt.tr = (ts.take i).map Dt.tr ∧ CsOk w.heap.size g9 w1 cs) ∧ Sl a 22 [(0, .slice so ts.length ca), (2, .slice none 0 0), (3, .slice (some ⟨g9, 0, none⟩) ts.length c9), (6, .slice so ts.length ca), (7, .slice (some ⟨g9, 0, none⟩) ts.length c9), (8, .slice (some ⟨g9, 0, none⟩) ts.length c9), (9, .int .i64 (((ts.length : Nat) : Int))), (10, .int .i64 (((i : Nat) : Int)))] ∧ Mg w w1 (.row 38 11 (.slice (some ⟨g9, 0, none⟩) ts.length c9) ts.length (cellsOf (cs ++ ts.drop i)) :: [])) _ ⟨0, [], rfl, ⟨Nat.zero_le _, rfl, rfl, zkh⟩, A.keep _ (by repeat' constructor), M⟩ ?_)))
 clear M A
 rintro m_ a w7 ⟨i, cs, rfl, hinv9, A, M⟩ K8 hK8
 obtain ⟨hi0, hcl, htr, hcs⟩ := hinv9
 refine wsk fun K10 hK10 => wrl ?_
 rcases tf (decide (((i : Nat) : Int) < ((ts.length : Nat) : Int))) with hb11 | hb11
 ·
  have hb11' := of_decide_eq_true hb11
  refine sdc A zq hb11 λa A↦?_
  refine qa (hK10 _ _ (wsk fun K12 hK12 => wp_cond_true (A.ev rfl) ?_))
  refine wp_skip (hK12 _ _ (wsk fun K13 hK13 => wp_block (wsk fun K14 hK14 => ?_)))
  obtain ⟨t1, i1, m1, it1⟩ := zwj hcl (show i < ts.length by omega)
  refine wrl (sdm A λa A↦?_)
  refine sdo (v := .pointer (some ⟨g9, i * 11, none⟩)) A (zt (k := i) Tryz.underlying28 (by kernel_rfl) rfl rfl rfl (by omega)) λa A↦?_
  refine sdo A (qtf (o := i * 11) (cs := t1.d.cells t1.ts.length) M 0 rfl LiB_isS_38 (uz it1) rfl rfl) λa A↦?_
  refine zwh (vs := [.int .i64 0, .int .i64 0, .bool false, .slice none 0 0, .slice none 0 0, .bool false, .slice none 0 0, .slice none 0 0, .string (⟨#[]⟩), .slice none 0 0, .slice none 0 0]) (t := 38) A M rfl rfl rfl pg (ql (z := .agg #[.int .i64 0, .int .i64 0, .bool false, .slice none 0 0, .slice none 0 0, .bool false, .slice none 0 0, .slice none 0 0, .string (⟨#[]⟩), .slice none 0 0, .slice none 0 0]) (by kernel_rfl) rfl) (by decide) ?_
  intro g15 w16 M hg17 hb18 a A
  refine sda A λa A↦?_
  refine zkd (us := (t1.d.cells t1.ts.length)) (L' := (.obj g15 (.cells (t1.d.cells t1.ts.length).toArray 38) :: .row 38 11 (.slice (some ⟨g9, 0, none⟩) ts.length c9) ts.length (cellsOf (cs ++ ts.drop i)) :: [])) A M rfl rfl (za rfl rfl rfl (by kernel_rfl) M 0 rfl rfl rfl) 0 rfl rfl rfl ?_
  intro w19 M hK20
  replace hcs := hcs.new hg17 hb18 hK20
  refine qa (hK14 _ _ (wrl ?_))
  iterate 2 refine sdm A λa A↦?_
  refine sdo A (qw M LiB_isS_38 rfl 0 rfl (cs := (t1.d.cells t1.ts.length)) rfl rfl) λa A↦?_
  have hltg := (Ck.lt (M.has 1 rfl) g9 rfl).2
  have hsz := M.bel.size
  refine sct A (ef rfl rfl) (ih t1 m1 (Dt.keep M.bel _ (hD t1 m1)) (by have := zrf m1; omega)) ?_
  rintro _ w21 ⟨t2, rfl, ⟨hr2, ha2, ht2⟩, hb2⟩
  replace hcs := hcs.below hb2
  replace M := M.call hb2
  refine ⟨_, rfl, ?_⟩
  intro a A
  refine sdo (v := .pointer (some ⟨g9, i * 11, none⟩)) A (zt (k := i) Tryz.underlying28 (by kernel_rfl) rfl rfl rfl (by omega)) λa A↦?_
  refine zfg (us := cellsOf ((cs ++ [t2]) ++ ts.drop (i + 1))) (L' := (.obj g15 (.cells (t1.d.cells t1.ts.length).toArray 38) :: .row 38 11 (.slice (some ⟨g9, 0, none⟩) ts.length c9) ts.length (cellsOf ((cs ++ [t2]) ++ ts.drop (i + 1))) :: [])) A M rfl rfl (xv (cs := t2.d.cells t2.ts.length) rfl rfl rfl (by kernel_rfl) M 1 rfl (by show _ + 11 ≤ _; omega) (vv t2)) 1 rfl (quh (by rw [List.length_append, List.length_drop]; omega) (zrd t2 hcl (by omega))) rfl ?_
  intro w22 M hK23
  replace hcs := hcs.snoc hr2 (Dt.at_mono (fun b hb => ⟨by omega, by rintro rfl; omega⟩) _ ha2) hK23
  refine qa (hK13 _ _ (wrl (sdo (v := .int .i64 (((i + 1 : Nat) : Int))) A (qg rfl rfl (fun w => (vg (yy (by omega) (by omega)) w).trans (by rw [show (((i : Nat) : Int) + 1 : Int) = ((i + 1 : Nat) : Int) from by omega]))) λa A↦?_)))
  refine sdm A λa A↦?_
  refine qa ?_
  replace M : Mg w w22 (.row 38 11 (.slice (some ⟨g9, 0, none⟩) ts.length c9) ts.length (cellsOf ((cs ++ [t2]) ++ ts.drop (i + 1))) :: []) := by
   have h9 := M.sub (cn (cc (.refl _)))
   exact h9
  refine hK8 _ _ _ (by omega) ⟨i + 1, cs ++ [t2], rfl, ⟨by omega, by rw [List.length_append]; simp only [List.length_cons, List.length_nil]; omega, zre htr i1 ht2, hcs⟩, A.keep _ (by repeat' constructor), M⟩
 ·
  have hb11' := of_decide_eq_false hb11
  refine sdc A zq hb11 λa A↦?_
  refine qa (hK10 _ _ (wsk fun K24 hK24 => wp_cond_false (A.ev rfl) ?_))
  refine wp_exit (hK5 _ _ (wsk fun K25 hK25 => wrl (sdm A λa A↦?_)))
  refine sda A λa A↦?_
  refine qa (hK25 _ _ (wp_ret (hret _ _ (en1 A rfl (qj rfl) ?_))))
  have e9 : cs ++ ts.drop i = cs := by rw [List.drop_of_length_le (by omega), List.append_nil]
  rw [e9] at M
  have e8 : ts.length = cs.length := by omega
  exact ⟨_, cs, rfl, ⟨by rw [htr, List.take_of_length_le (by omega)], fun t ht => ⟨(hcs t ht).1, Dt.at_mono (fun b hb => ⟨hb.1, fun e => hb.2 (Option.some.inj e).symm⟩) _ (hcs t ht).2⟩⟩, e8 ▸ M⟩
theorem zga : CopyAll [] := by
 intro w so ca hR hD hb
 have M : Mg w w ([]) := Mg.start w
 refine qs (l := [(0, .slice so (([] : List Dt).length) ca)]) Tryz.func56 rfl Tryz.ntmps56 rfl rfl ?_
 intro Q hret hnorm hP a A
 refine wsk fun K1 hK1 => wrl (sda A λa A↦?_)
 refine qa (hK1 _ _ (wsk fun K2 hK2 => wrl (sdm A λa A↦?_)))
 refine sct A (ef rfl rfl) (zve (ts := []) (fun k => absurd rfl k) (by decide)) ?_
 rintro _ w4 ⟨v9, rfl, hM3⟩
 obtain ⟨so9, c9, rfl⟩ := xj (hM3.has 0 rfl)
 replace M : Mg w w4 (.row 38 11 (.slice so9 (([] : List Dt).length) c9) (([] : List Dt).length) (cellsOf []) :: []) := hM3
 refine ⟨_, rfl, ?_⟩
 intro a A
 refine sda A λa A↦?_
 refine qa (hK2 _ _ (wsk fun K5 hK5 => wsk fun K6 hK6 => wrl (sdm A λa A↦?_)))
 refine sdo A (qy Tryz.underlying28 rfl) λa A↦?_
 refine sdm A λa A↦?_
 refine qa (hK6 _ _ (wp_block (wp_loop_rounds 12 ?_)))
 refine kx fun K7 hK7 => ?_
 refine wsk fun K8 hK8 => wrl (sdo (v := .bool false) A (qg rfl rfl (fun w => (zq w).trans (by rw [show (decide (0 < ((([] : List Dt).length : Nat) : Int))) = false from (by rfl)]))) λa A↦?_)
 refine qa (hK8 _ _ (wsk fun K9 hK9 => wp_cond_false (A.ev rfl) ?_))
 refine wp_exit (hK5 _ _ (wsk fun K10 hK10 => wrl (sdm A λa A↦?_)))
 refine sda A λa A↦?_
 refine qa (hK10 _ _ (wp_ret (hret _ _ (en1 A rfl (qj rfl) ?_))))
 exact ⟨_, [], rfl, ⟨rfl, fun t h => by cases h⟩, M⟩
theorem zgb {ts : List Dt} (ih : ∀ t ∈ ts, Copies t) : CopyAll ts := by
 by_cases h : ts = []
 ·
  subst h; exact zga
 ·
  exact qzf ih h
theorem ju : ∀ t : Dt, Copies t := Dt.indT fun d ts ih => by
 intro w hrd hb
 have hok := (Dt.rd_iff.1 hrd)
 rw [qzb] at hb
 have M : Mg w w ([]) := Mg.start w
 refine qs (l := [(0, .agg (d.cells ts.length).toArray)]) Tryz.func28 rfl Tryz.ntmps28 rfl rfl ?_
 intro Q hret hnorm hP a A
 refine wsk fun K1 hK1 => wrl (zx (vs := (d.cells ts.length)) (t := 38) A M rfl rfl rfl pg (qr rfl rfl) (by decide) ?_)
 intro g2 w3 M a A
 refine zx (vs := [.int .i64 0, .int .i64 0, .bool false, .slice none 0 0, .slice none 0 0, .bool false, .slice none 0 0, .slice none 0 0, .string (⟨#[]⟩), .slice none 0 0, .slice none 0 0]) (t := 38) A M rfl rfl rfl pg (ql (z := .agg #[.int .i64 0, .int .i64 0, .bool false, .slice none 0 0, .slice none 0 0, .bool false, .slice none 0 0, .slice none 0 0, .string (⟨#[]⟩), .slice none 0 0, .slice none 0 0]) (by kernel_rfl) rfl) (by decide) ?_
 intro g4 w5 M a A
 refine qa (hK1 _ _ (wsk fun K6 hK6 => jh (S := fun w1 => Mg w w1 (.obj g2 (.cells (d.cells ts.length).toArray 38) :: [])) (by kernel_rfl) ?_))
 replace M := M.drew
 refine qe (v := .pointer (some ⟨g2, 0, none⟩)) A 0 rfl rfl rfl rfl hP (M.sub (cn (cc (List.nil_sublist _)))) (fun w1 M => qb LiB_fld_38_0 rfl rfl) λa A↦?_
 refine qe A 1 rfl rfl rfl rfl hP (M.sub (cn (cc (List.nil_sublist _)))) (fun w1 M => qk M LiB_is1_3 rfl 0 rfl rfl) λa A↦?_
 refine qe (v := .pointer (some ⟨g2, 1, none⟩)) A 2 rfl rfl rfl rfl hP (M.sub (cn (cc (List.nil_sublist _)))) (fun w1 M => qb LiB_fld_38_1 rfl rfl) λa A↦?_
 refine qe A 3 rfl rfl rfl rfl hP (M.sub (cn (cc (List.nil_sublist _)))) (fun w1 M => qk M LiB_is1_3 rfl 0 rfl rfl) λa A↦?_
 refine qe (v := .pointer (some ⟨g2, 2, none⟩)) A 4 rfl rfl rfl rfl hP (M.sub (cn (cc (List.nil_sublist _)))) (fun w1 M => qb LiB_fld_38_2 rfl rfl) λa A↦?_
 refine qe (v := .pointer (some ⟨g2, 2, none⟩)) A 5 rfl rfl rfl rfl hP (M.sub (cn (cc (List.nil_sublist _)))) (fun w1 M => qb LiB_fld_35_0 rfl rfl) λa A↦?_
 refine qe A 6 rfl rfl rfl rfl hP (M.sub (cn (cc (List.nil_sublist _)))) (fun w1 M => qw M LiB_isS_33 rfl 0 rfl (cs := [.bool d.y.q.b1, .slice d.y.o1 d.y.q.t1.length d.y.c1, .slice d.y.o2 d.y.q.q1.length d.y.c2]) rfl rfl) λa A↦?_
 refine qe (v := .pointer (some ⟨g2, 2, none⟩)) A 8 rfl rfl rfl rfl hP (M.sub (cn (cc (List.nil_sublist _)))) (fun w1 M => qb LiB_fld_38_2 rfl rfl) λa A↦?_
 refine qe (v := .pointer (some ⟨g2, 5, none⟩)) A 9 rfl rfl rfl rfl hP (M.sub (cn (cc (List.nil_sublist _)))) (fun w1 M => qb LiB_fld_35_1 rfl rfl) λa A↦?_
 refine qe A 10 rfl rfl rfl rfl hP (M.sub (cn (cc (List.nil_sublist _)))) (fun w1 M => qw M LiB_isS_33 rfl 0 rfl (cs := [.bool d.y.q.b2, .slice d.y.o3 d.y.q.t2.length d.y.c3, .slice d.y.o4 d.y.q.q2.length d.y.c4]) rfl rfl) λa A↦?_
 refine qe (v := .pointer (some ⟨g2, 8, none⟩)) A 13 rfl rfl rfl rfl hP (M.sub (cn (cc (List.nil_sublist _)))) (fun w1 M => qb LiB_fld_38_3 rfl rfl) λa A↦?_
 refine qe A 14 rfl rfl rfl rfl hP (M.sub (cn (cc (List.nil_sublist _)))) (fun w1 M => qk M LiB_is1_9 rfl 0 rfl rfl) λa A↦?_
 refine qe (v := .pointer (some ⟨g2, 9, none⟩)) A 16 rfl rfl rfl rfl hP (M.sub (cn (cc (List.nil_sublist _)))) (fun w1 M => qb LiB_fld_38_4 rfl rfl) λa A↦?_
 refine qe A 17 rfl rfl rfl rfl hP (M.sub (cn (cc (List.nil_sublist _)))) (fun w1 M => qk M LiB_is1_36 rfl 0 rfl rfl) λa A↦?_
 refine qe (v := .pointer (some ⟨g2, 10, none⟩)) A 19 rfl rfl rfl rfl hP (M.sub (cn (cc (List.nil_sublist _)))) (fun w1 M => qb LiB_fld_38_5 rfl rfl) λa A↦?_
 refine qe A 20 rfl rfl rfl rfl hP (M.sub (cn (cc (List.nil_sublist _)))) (fun w1 M => qk M LiB_is1_28 rfl 0 rfl rfl) λa A↦?_
 have hlt7 := (Ck.lt (M.has 0 rfl) g4 rfl).2
 have hlt8 := (Ck.lt (M.has 1 rfl) g2 rfl).2
 have hsz9 := M.bel.size
 refine qh (by kernel_rfl) (qn A 7 rfl rfl rfl rfl (qi rfl rfl (fun w => by kernel_rfl)) (zcg (hok.1.num.s1.below M.bel) (hok.1.num.s2.below M.bel) (by omega) (by omega)) ?_)
 rintro _ w11 ⟨p1, e1, p2, e2, rfl, ⟨hs1, hi1, hs2, hi2⟩, hb10⟩
 replace M := M.call hb10
 refine ⟨_, rfl, (M.sub (cn (cc (List.nil_sublist _)))), ?_⟩
 intro a A
 have hlt12 := (Ck.lt (M.has 0 rfl) g4 rfl).2
 have hlt13 := (Ck.lt (M.has 1 rfl) g2 rfl).2
 have hsz14 := M.bel.size
 refine qh (by kernel_rfl) (qn A 11 rfl rfl rfl rfl (qi rfl rfl (fun w => by kernel_rfl)) (zcg (hok.1.num.s3.below M.bel) (hok.1.num.s4.below M.bel) (by omega) (by omega)) ?_)
 rintro _ w16 ⟨p3, e3, p4, e4, rfl, ⟨hs3, hi3, hs4, hi4⟩, hb15⟩
 replace hs1 := hs1.below hb15
 replace hs2 := hs2.below hb15
 replace M := M.call hb15
 refine ⟨_, rfl, (M.sub (cn (cc (List.nil_sublist _)))), ?_⟩
 intro a A
 refine qe (v := .agg #[.bool d.y.q.b1, .slice p1 d.y.q.t1.length e1, .slice p2 d.y.q.q1.length e2, .bool d.y.q.b2, .slice p3 d.y.q.t2.length e3, .slice p4 d.y.q.q2.length e4]) A 12 rfl rfl rfl rfl hP (M.sub (cn (cc (List.nil_sublist _)))) (fun w1 M => zp rfl (fun w => by kernel_rfl)) λa A↦?_
 refine qh (by kernel_rfl) (qn A 15 rfl rfl rfl rfl (qi rfl rfl (fun w => by kernel_rfl)) (clone_any (by omega)) ?_)
 rintro _ w17 ⟨rfl, hbc⟩
 replace hs1 := hs1.below hbc
 replace hs2 := hs2.below hbc
 replace hs3 := hs3.below hbc
 replace hs4 := hs4.below hbc
 replace M := M.call hbc
 refine ⟨_, rfl, (M.sub (cn (cc (List.nil_sublist _)))), ?_⟩
 intro a A
 have hlt18 := (Ck.lt (M.has 0 rfl) g4 rfl).2
 have hlt19 := (Ck.lt (M.has 1 rfl) g2 rfl).2
 have hz5 := M.bel.size
 refine qh (by kernel_rfl) (qn A 18 rfl rfl rfl rfl (qi rfl rfl (fun w => by kernel_rfl)) (zsd (hok.1.raw.below M.bel) (by omega)) ?_)
 rintro _ w20 ⟨ro5, rc5, rfl, ⟨hr5, hi5, hc5, hm5⟩, hb5⟩
 replace hs1 := hs1.below hb5
 replace hs2 := hs2.below hb5
 replace hs3 := hs3.below hb5
 replace hs4 := hs4.below hb5
 replace M := M.call hb5
 refine ⟨_, rfl, (M.sub (cn (cc (List.nil_sublist _)))), ?_⟩
 intro a A
 have hlt21 := (Ck.lt (M.has 0 rfl) g4 rfl).2
 have hlt22 := (Ck.lt (M.has 1 rfl) g2 rfl).2
 have hz6 := M.bel.size
 refine qh (by kernel_rfl) (qn A 21 rfl rfl rfl rfl (qi rfl rfl (fun w => by kernel_rfl)) (zgb ih (hok.2.2.2.1.below M.bel) (fun t ht => Dt.keep M.bel _ (hok.2.2.2.2 t ht)) (by omega)) ?_)
 rintro _ w23 ⟨v6, us, rfl, ⟨htr, hus⟩, hM6⟩
 obtain ⟨lo6, lc6, rfl⟩ := xj (hM6.has 0 rfl)
 replace hs1 := hs1.below hM6.bel
 replace hs2 := hs2.below hM6.bel
 replace hs3 := hs3.below hM6.bel
 replace hs4 := hs4.below hM6.bel
 replace hr5 := hr5.below hM6.bel
 replace M : Mg w w23 (.row 38 11 (.slice lo6 us.length lc6) us.length (cellsOf us) :: .obj g4 (.cells #[.int .i64 0, .int .i64 0, .bool false, .slice none 0 0, .slice none 0 0, .bool false, .slice none 0 0, .slice none 0 0, .string (⟨#[]⟩), .slice none 0 0, .slice none 0 0] 38) :: .obj g2 (.cells (d.cells ts.length).toArray 38) :: []) := (M.both hM6 (qf (by simp) (qf (by simp) (jr jx))) (qf (by simp) (jr jx)))
 refine ⟨_, rfl, (M.sub (cn (cn (cc (List.nil_sublist _))))), ?_⟩
 intro a A
 refine qe (v := .agg #[.int .i64 d.k, .int .i64 d.n, .bool d.y.q.b1, .slice p1 d.y.q.t1.length e1, .slice p2 d.y.q.q1.length e2, .bool d.y.q.b2, .slice p3 d.y.q.t2.length e3, .slice p4 d.y.q.q2.length e4, .string d.s, .slice ro5 d.rl.length rc5, .slice lo6 us.length lc6]) A 22 rfl rfl rfl rfl hP (M.sub (cn (cn (cc (List.nil_sublist _))))) (fun w1 M => zp rfl (fun w => by kernel_rfl)) λa A↦?_
 refine qh (by kernel_rfl) (ul (us := [.int .i64 d.k, .int .i64 d.n, .bool d.y.q.b1, .slice p1 d.y.q.t1.length e1, .slice p2 d.y.q.q1.length e2, .bool d.y.q.b2, .slice p3 d.y.q.t2.length e3, .slice p4 d.y.q.q2.length e4, .string d.s, .slice ro5 d.rl.length rc5, .slice lo6 us.length lc6]) (L' := (.row 38 11 (.slice lo6 us.length lc6) us.length (cellsOf us) :: .obj g4 (.cells #[.int .i64 d.k, .int .i64 d.n, .bool d.y.q.b1, .slice p1 d.y.q.t1.length e1, .slice p2 d.y.q.q1.length e2, .bool d.y.q.b2, .slice p3 d.y.q.t2.length e3, .slice p4 d.y.q.q2.length e4, .string d.s, .slice ro5 d.rl.length rc5, .slice lo6 us.length lc6] 38) :: .obj g2 (.cells (d.cells ts.length).toArray 38) :: [])) A M 23 rfl rfl rfl (za rfl rfl rfl (by kernel_rfl) M 1 rfl rfl rfl) 1 rfl rfl rfl ?_)
 intro w24 M hK25
 replace hs1 := kr hs1 (hi1.mono fun b hb => by rintro rfl; omega) hK25
 replace hs2 := kr hs2 (hi2.mono fun b hb => by rintro rfl; omega) hK25
 replace hs3 := kr hs3 (hi3.mono fun b hb => by rintro rfl; omega) hK25
 replace hs4 := kr hs4 (hi4.mono fun b hb => by rintro rfl; omega) hK25
 replace hr5 := zca hr5 (hi5.mono fun b hb => by rintro rfl; omega) hK25
 have hu9 : ∀ t ∈ us, t.rd w24 := fun t ht => Dt.kept hK25 _ (hus t ht).1 (Dt.at_mono (fun b hb => by rintro rfl; have := hb.1; omega) _ (hus t ht).2)
 refine ⟨(M.sub (cn (cn (cc (List.nil_sublist _))))), ?_⟩
 refine ze (by kernel_rfl) ?_
 refine hK6 _ _ (wp_ret (hret _ _ (en1 A rfl (vr M LiB_isS_38 rfl 1 rfl (cs := [.int .i64 d.k, .int .i64 d.n, .bool d.y.q.b1, .slice p1 d.y.q.t1.length e1, .slice p2 d.y.q.q1.length e2, .bool d.y.q.b2, .slice p3 d.y.q.t2.length e3, .slice p4 d.y.q.q2.length e4, .string d.s, .slice ro5 d.rl.length rc5, .slice lo6 us.length lc6]) rfl rfl) ?_)))
 have ho9 := qdh (M.has 0 rfl)
 exact ⟨.mk ⟨d.k, d.n, ⟨d.y.q, p1, e1, p2, e2, p3, e3, p4, e4⟩, d.s, ro5, rc5, d.rl, lo6, lc6⟩ us, rfl, ⟨Dt.rd_iff.2 ⟨{ hok.1 with num := ⟨hs1, hs2, hs3, hs4⟩, raw := hr5, rcap := hc5, rmax := hm5 }, ho9.2.2.1, ho9.2.2.2, ho9.1, hu9⟩, Dt.at_iff.2 ⟨⟨hi1.mono fun b hb => Nat.le_trans hsz9 hb, hi2.mono fun b hb => Nat.le_trans hsz9 hb, hi3.mono fun b hb => Nat.le_trans hsz14 hb, hi4.mono fun b hb => Nat.le_trans hsz14 hb, hi5.mono fun b hb => Nat.le_trans hz5 hb⟩, qza (M.has 0 rfl) _, fun t ht => Dt.at_mono (fun b hb => Nat.le_trans hz6 hb.1) _ (hus t ht).2⟩, by rw [Dt.tr_mk, Dt.tr_mk, htr]⟩, M.bel⟩
theorem LiC_isS_38 : IsS Tryz.prog 38 11 := ⟨⟨_, Tryz.underlying38⟩, by kernel_rfl⟩
theorem zgc {w : World} {so : Option Addr} {ca : Nat} {ts : List Dt} (hR : Rt w so ts) (hD : ∀ t ∈ ts, t.rd w) (hl : ts.length ≤ 1000000000) {f : FuncId} {cs : List Value} {p : Dt → Bool} (hF : Asks Tryz.prog f cs w ts p) : Calls Tryz.prog 72 #[.slice so ts.length ca, .func (.func f) #[] cs.toArray] w fun e w' => e = .returned (.int .i64 (qui p ts)) ∧ Below w.heap.size w w' := by
 have M : Mg w w ([]) := Mg.start w
 refine qs (l := [(0, .slice so ts.length ca), (1, .func (.func f) #[] cs.toArray)]) Tryz.func72 rfl Tryz.ntmps72 rfl rfl ?_
 intro Q hret hnorm hP a A
 refine wsk fun K1 hK1 => wrl (sda A λa A↦?_)
 refine qa (hK1 _ _ (wsk fun K2 hK2 => wsk fun K3 hK3 => wrl (sdm A λa A↦?_)))
 refine sdo A (qy Tryz.underlying28 rfl) λa A↦?_
 refine sdm A λa A↦?_
 refine qa (hK3 _ _ (wp_block (jp (fun m_ a w1 => ∃ (i : Nat), m_ = 1 + (ts.length - i) ∧ (i ≤ ts.length ∧ ∀ j u, j < i → ts[j]? = some u → p u = false) ∧ Sl a 19 [(0, .slice so ts.length ca), (1, .func (.func f) #[] cs.toArray), (6, .slice so ts.length ca), (7, .int .i64 (((ts.length : Nat) : Int))), (8, .int .i64 (((i : Nat) : Int)))] ∧ Mg w w1 ([])) _ ⟨0, rfl, ⟨Nat.zero_le _, fun j u h => absurd h (Nat.not_lt_zero _)⟩, A.keep _ ⟨rfl, rfl, rfl, rfl, rfl, trivial⟩, M⟩ ?_)))
 clear M A
 rintro m_ a w4 ⟨i, rfl, hinv6, A, M⟩ K5 hK5
 obtain ⟨hi0, hin9⟩ := hinv6
 refine wsk fun K7 hK7 => wrl ?_
 rcases tf (decide (((i : Nat) : Int) < ((ts.length : Nat) : Int))) with hb8 | hb8
 ·
  have hb8' := of_decide_eq_true hb8
  refine sdc A zq hb8 λa A↦?_
  refine qa (hK7 _ _ (wsk fun K9 hK9 => wp_cond_true (A.ev rfl) ?_))
  refine wp_skip (hK9 _ _ (wsk fun K10 hK10 => wp_block (wsk fun K11 hK11 => wrl (sdm A λa A↦?_))))
  refine sda A λa A↦?_
  refine qa (hK11 _ _ (wsk fun K12 hK12 => ?_))
  obtain ⟨t1, bt1, ot1, it1, mt1, rt1_, lt1, Ht1⟩ := zzb hR hD (i := i) (by omega)
  refine wrl ?_
  iterate 3 refine sdm A λa A↦?_
  refine sdo (v := .pointer (some ⟨bt1, ot1 + i * 11, none⟩)) A (zu (k := i) Tryz.underlying28 (by kernel_rfl) rfl rfl rfl lt1 (by omega)) λa A↦?_
  refine sdo A (jv M Ht1 LiC_isS_38 rfl rfl) λa A↦?_
  rcases tf (p t1) with hb13 | hb13
  ·
   refine kw A rfl rfl rfl (qbh rfl rfl hF.inv) ((hb13 ▸ hF.run t1 _ mt1 M.bel)) ?_
   rintro _ w15 ⟨rfl, hb14⟩
   replace M := M.call hb14
   refine ⟨_, rfl, ?_⟩
   intro a A
   refine qa (hK12 _ _ (wp_cond_true (A.ev rfl) ?_))
   refine wsk fun K16 hK16 => wrl (sdm A λa A↦?_)
   refine sda A λa A↦?_
   refine qa (hK16 _ _ (wp_ret (hret _ _ (en1 A rfl (qj rfl) ?_))))
   exact ⟨by rw [zrh hin9 it1 hb13], M.bel⟩
  ·
   refine kw A rfl rfl rfl (qbh rfl rfl hF.inv) ((hb13 ▸ hF.run t1 _ mt1 M.bel)) ?_
   rintro _ w18 ⟨rfl, hb17⟩
   replace M := M.call hb17
   refine ⟨_, rfl, ?_⟩
   intro a A
   refine qa (hK12 _ _ (wp_cond_false (A.ev rfl) ?_))
   refine wp_skip (hK10 _ _ (wrl (sdo (v := .int .i64 (((i + 1 : Nat) : Int))) A (qg rfl rfl (fun w => (vg (yy (by omega) (by omega)) w).trans (by rw [show (((i : Nat) : Int) + 1 : Int) = ((i + 1 : Nat) : Int) from by omega]))) λa A↦?_)))
   refine sdm A λa A↦?_
   refine qa ?_
   replace M : Mg w w18 ([]) := by
    have h9 := M.sub (.refl _)
    exact h9
   refine hK5 _ _ _ (by omega) ⟨i + 1, rfl, ⟨by omega, fun j u hj hu => if h9 : j < i then hin9 j u h9 hu else by have h8 : j = i := (by omega); subst h8; rw [it1] at hu; rw [← Option.some.inj hu]; exact hb13⟩, A.keep _ ⟨rfl, rfl, rfl, rfl, rfl, trivial⟩, M⟩
 ·
  have hb8' := of_decide_eq_false hb8
  refine sdc A zq hb8 λa A↦?_
  refine qa (hK7 _ _ (wsk fun K19 hK19 => wp_cond_false (A.ev rfl) ?_))
  refine wp_exit (hK2 _ _ (wsk fun K20 hK20 => wrl (sda A λa A↦?_)))
  refine qa (hK20 _ _ (wp_ret (hret _ _ (en1 A rfl (qj rfl) ?_))))
  exact ⟨by rw [zki (fun j u hj => hin9 j u (by omega))], M.bel⟩
theorem qsc {w : World} {so : Option Addr} {ca : Nat} {ts : List Dt} (hR : Rt w so ts) (hD : ∀ t ∈ ts, t.rd w) (hl : ts.length ≤ 1000000000) {f : FuncId} {cs : List Value} {p : Dt → Bool} (hF : Asks Tryz.prog f cs w ts p) : Calls Tryz.prog 46 #[.slice so ts.length ca, .func (.func f) #[] cs.toArray] w fun e w' => e = .returned (.bool (ts.any p)) ∧ Below w.heap.size w w' := by
 have M : Mg w w ([]) := Mg.start w
 refine qs (l := [(0, .slice so ts.length ca), (1, .func (.func f) #[] cs.toArray)]) Tryz.func46 rfl Tryz.ntmps46 rfl rfl ?_
 intro Q hret hnorm hP a A
 refine wsk fun K1 hK1 => wrl (sda A λa A↦?_)
 refine qa (hK1 _ _ (wsk fun K2 hK2 => wrl ?_))
 iterate 2 refine sdm A λa A↦?_
 refine gcl A M (ef rfl rfl) (zgc (hR.below M.bel) (fun t ht => Dt.keep M.bel _ (hD t ht)) hl ⟨hF.inv, fun t w1 ht hb => hF.run t w1 ht (M.bel.trans (hb.mono M.bel.size))⟩) fun w4 hb3 M a A => ?_
 rcases tf (decide (0 ≤ qui p ts)) with hb5 | hb5
 ·
  have hb5' := of_decide_eq_true hb5
  refine sdc A kp hb5 λa A↦?_
  refine sda A λa A↦?_
  refine qa (hK2 _ _ (wp_ret (hret _ _ (en1 A rfl (qj rfl) ?_))))
  exact ⟨by rw [← zcd p ts]; simp_all, M.bel⟩
 ·
  have hb5' := of_decide_eq_false hb5
  refine sdc A kp hb5 λa A↦?_
  refine sda A λa A↦?_
  refine qa (hK2 _ _ (wp_ret (hret _ _ (en1 A rfl (qj rfl) ?_))))
  exact ⟨by rw [← zcd p ts]; simp_all, M.bel⟩
open Go.RowKit Go.Lib
theorem qpd {P : Program} {w : World} {b : Nat} : ∀ (l : List UInt8) (off : Nat) (acc : ByteArray), (∀ j, j < l.length → w.cell? ⟨b, off + j, none⟩ = some (.int .u8 (((l.getD j 0).toNat : Nat) : Int))) → (Extern.Bytes.loadBytes ⟨b, off, none⟩ l.length acc).run P w = .ok ⟨acc.data ++ l.toArray⟩ w
  | [], off, acc, _ => by
    simp [Extern.Bytes.loadBytes]
  | x :: l, off, acc, h => by
    have h0 := h 0 (by simp)
    have hl : (load ⟨b, off, none⟩).run P w = .ok (.int .u8 ((x.toNat : Nat) : Int)) w := by
      rw [Nat.add_zero] at h0
      have h1 : w.cell? ⟨b, off, none⟩ = some (.int .u8 ((x.toNat : Nat) : Int)) := by simpa using h0
      simp [go_sem, h1]
    have hn : ∀ j, j < l.length → w.cell? ⟨b, off + 1 + j, none⟩ = some (.int .u8 (((l.getD j 0).toNat : Nat) : Int)) := by
      intro j hj
      have h3 := h (j + 1) (by simpa using hj)
      rw [show off + (j + 1) = off + 1 + j by omega] at h3
      simpa using h3
    have ih := qpd (P := P) l (off + 1) (acc.push x) hn
    rw [List.length_cons, Extern.Bytes.loadBytes, Sem.run_bind, hl]
    simp only [Result.andThen_ok, xf, Int.toNat_natCast, UInt8.ofNat_toNat]
    rw [ih]
    congr 2
    simp
theorem qmb {P : Program} {w : World} {so : Option Addr} {l : List UInt8} {ca : Nat} (h : Rb w so l) : (Extern.Bytes.bytesOf (.slice so l.length ca)).run P w = .ok ⟨l.toArray⟩ w := by
  by_cases hl : l = []
  · subst hl
    cases so with
    | none => simp [Extern.Bytes.bytesOf]; rfl
    | some a => simp [Extern.Bytes.bytesOf, Extern.Bytes.loadBytes]; rfl
  · obtain ⟨b, off, rfl, _, h2⟩ := h.pos hl
    have := qpd (P := P) l off .empty h2
    simp only [Extern.Bytes.bytesOf]
    rw [this]
    simp
theorem qsd {P : Program} {w : World} {so sp : Option Addr} {a b : List UInt8} {ca cb : Nat} (ha : Rb w so a) (hb : Rb w sp b) : (Extern.BytealgCompare.compare #[.slice so a.length ca, .slice sp b.length cb]).run P w = .ok (.int .i64 (compareBytes a b)) w := by
  change Sem.run P (do pure (goInt (Extern.BytealgCompare.cmp (← Extern.Bytes.bytesOf (.slice so a.length ca)) (← Extern.Bytes.bytesOf (.slice sp b.length cb))))) w = _
  simp only [Sem.run_bind, Sem.run_pure, Result.andThen, qmb ha, qmb hb]
  rw [Go.Lib.cmp_eq]
  rfl
set_option maxHeartbeats 1000000 in
set_option maxRecDepth 100000 in
theorem zlh {w : World} {so sp : Option Addr} {a b : List UInt8} {ca cb : Nat} (ha : Rb w so a) (hb : Rb w sp b) : Calls Tryz.prog 117 #[.slice so a.length ca, .slice sp b.length cb] w fun e w' => e = .returned (.int .i64 (compareBytes a b)) ∧ Below w.heap.size w w' := by
  go_enter Tryz.func117, Tryz.ntmps117
  go_wp2
  rw [run_callFunc_extern Tryz.func150 (by kernel_rfl) (by kernel_rfl) (by kernel_rfl) (e := Extern.BytealgCompare.compare) (by kernel_rfl), qsd ha hb]
  simp only [Result.andThen]
  rw [Oper.upon_value]
  go_wp2
  go_ret
  exact ⟨rfl, Below.refl _ _⟩
theorem qmc {w : World} {s t : ByteArray} : Calls Tryz.prog 116 #[.string s, .string t] w fun e w' => e = .returned (.int .i64 (compareBytes s.data.toList t.data.toList)) ∧ Below w.heap.size w w' := (Tryz.strings_Compare s t w).mono fun e w' ⟨h, e2⟩ => ⟨h, e2 ▸ Below.refl _ _⟩
open Go.Lib
theorem zse {w : World} {so : Option Addr} {l : List UInt8} {i : Nat} (h : Rb w so l) (hi : i < l.length) : ∃ b off, so = some ⟨b, off, none⟩ ∧ b < w.heap.size ∧ ∀ j, j < l.length → w.cell? ⟨b, off + j, none⟩ = some (.int .u8 (((l.getD j 0).toNat : Nat) : Int)) :=
 h.pos (fun k => by rw [k] at hi; exact absurd hi (Nat.not_lt_zero _))
section
variable {P : Program} {w0 w : World} {L : List Ck} {l : List (Nat × Value)} {dst : Option Tmp} {ty : TypeId} {pos : String} {after : Array Edge} {guard : Option (Nat × Bool)} {v : Value}
theorem qzg {w' : World} {s d : TypeId} {x : Operand} {u : Value} (hx : ev l x = some u) (hr : (convert s d u).run P w = .ok v w') : Does P l ⟨dst, .convert s d x, ty, pos, after, guard⟩ w v w' := fun ρ h => by
  simp only [execOp, h x _ hx, Sem.run_bind, hr, Result.andThen_ok, Sem.run_pure]
theorem qmd (hM : Mg w0 w L) (k : Nat) {e : TypeId} {sz n cap : Nat} {so : Option Addr} {xs : List Value} (hk : L[k]? = some (.row e sz (.slice so n cap) n xs)) (hn : 0 < n) : ∃ g, so = some ⟨g, 0, none⟩ := by
  rcases (hM.has k hk).2 with ⟨_, h0⟩ | ⟨g, cap', cur, he, _⟩
  · omega
  · cases he; exact ⟨g, rfl⟩
end
section
variable {P : Program} {w0 w : World} {L : List Ck} {l : List (Nat × Value)} {ops : List Oper} {Q : Exit → Act → World → Prop} {a : Act} {n : Nat} {rest : List Oper} {d : Nat} {dst : Option Tmp} {ty : TypeId} {pos : String} {after : Array Edge} {guard : Option (Nat × Bool)}
/-- A text as bytes. -/
theorem qse (hA : Sl a n l) (hM : Mg w0 w L) {t t' : TypeId} {x : Operand} {s : ByteArray} {o : Oper} (ho : o = ⟨dst, .convert t t' x, ty, pos, after, guard⟩) (ht : P.underlying t = some .string) (hd : P.underlying t' = some (.slice BY)) (he : P.underlying BY = some (.int .u8)) (hx : ev l x = some (.string s)) (hg : zn l ops o = true) (hdst : o.dst = some d) (hdn : Nat.blt d n = true)
    (hk : ∀ so cap w', Rb w' so s.data.toList → Mg w0 w' L → ∀ a', Sl a' n ((d, .slice so s.data.toList.length cap) :: l) → wpList P ops.toArray Q rest a' w') : wpList P ops.toArray Q (o :: rest) a w := by
  subst ho
  have hr := Go.Lib.run_convert_string_bytes (P := P) w t t' BY s ht hd he
  have hb : Below w.heap.size w (bytesWorld w BY s) := ⟨rfl, rfl, rfl, by rw [bytesWorld_size]; omega, fun j hj => bytesWorld_at_old w BY s j hj⟩
  refine vw hA hg hdst hdn (v := .slice (some ⟨w.heap.size, 0, none⟩) s.data.toList.length (grownCap w s.size 0 BY)) (w' := bytesWorld w BY s) (qzg hx (by rw [kz]; exact hr)) (hk _ _ _ ⟨fun _ => ⟨w.heap.size, 0, rfl, by rw [bytesWorld_size]; omega, fun j hj => ?_⟩⟩ (hM.call hb))
  rw [kz] at hj
  rw [Nat.zero_add]
  exact bytesWorld_cell w BY s j hj
end
/-! ### Encode -/
section
variable {k n : Int} {q : Q6} {s : ByteArray} {mr ml : Nat}
end
end Go.Proofs.YtjlpecapebhgjaaGreatDoor.G
namespace Go.Proofs.YtjlpecapebhgjaaGreatDoor
open Go.RowKit
set_option linter.unusedVariables false
set_option linter.unusedSimpArgs false
set_option maxRecDepth 100000
theorem EqN_is1_31 : Is1 Tryz.prog 31 := ⟨⟨_, Tryz.underlying31, rfl⟩, by kernel_rfl⟩
theorem EqN_is1_4 : Is1 Tryz.prog 4 := ⟨⟨_, Tryz.underlying4, rfl⟩, by kernel_rfl⟩
theorem EqN_fld_33_0 : FieldAt Tryz.prog 33 0 0 := ⟨_, _, Tryz.underlying33, rfl, rfl, by kernel_rfl⟩
theorem EqN_fld_33_1 : FieldAt Tryz.prog 33 1 1 := ⟨_, _, Tryz.underlying33, rfl, rfl, by kernel_rfl⟩
theorem EqN_fld_33_2 : FieldAt Tryz.prog 33 2 2 := ⟨_, _, Tryz.underlying33, rfl, rfl, by kernel_rfl⟩
theorem EqN_fld_35_0 : FieldAt Tryz.prog 35 0 0 := ⟨_, _, Tryz.underlying35, rfl, rfl, by kernel_rfl⟩
theorem EqN_fld_35_1 : FieldAt Tryz.prog 35 1 3 := ⟨_, _, Tryz.underlying35, rfl, rfl, by kernel_rfl⟩
theorem EqN_isS_33 : IsS Tryz.prog 33 3 := ⟨⟨_, Tryz.underlying33⟩, by kernel_rfl⟩
theorem EqN_isS_35 : IsS Tryz.prog 35 6 := ⟨⟨_, Tryz.underlying35⟩, by kernel_rfl⟩
theorem qmf (u : Rat) : Q6.rat u 0 = ⟨rb u.num, words u.num.natAbs, words u.den, false, [], [1]⟩ := by
 unfold Q6.rat
 have h0 : words (0 : Rat).num.natAbs = [] := by show words 0 = []; exact words_zero
 have h1 : words (0 : Rat).den = [1] := by show words 1 = [1]; exact vq
 rw [h0, h1]
 rfl
theorem zmc {u x : Rat} (hu : xm u) (hx : xm x) : zed ⟨rb u.num, words u.num.natAbs, words u.den, false, [], [1]⟩ ⟨rb x.num, words x.num.natAbs, words x.den, false, [], [1]⟩ = (yf u x, 0) := by
 rw [← qmf, ← qmf, zjf hu hx]
theorem zmd : xm 0 := by
 refine ⟨?_, ?_⟩
 ·
  show (words 0).length ≤ 512; rw [words_zero]; decide
 ·
  show (words 1).length ≤ 512; rw [vq]; decide
theorem qvh {u : Rat} (hu : xm u) : LenQ ⟨rb u.num, words u.num.natAbs, words u.den, false, [], [1]⟩ := by rw [← qmf]; exact qlf hu zmd
theorem zgd {u x : Rat} (h : qii (rb u.num) (words u.num.natAbs) (words u.den) (rb x.num) (words x.num.natAbs) (words x.den) = true) : yf u x = 0 := by
 unfold qii at h
 simp only [Bool.and_eq_true, beq_iff_eq, decide_eq_true_eq] at h
 rw [zqi h.1 h.2.1 h.2.2]
 unfold yf
 rw [if_neg Rat.lt_irrefl, if_pos rfl]
theorem qjb {w : World} {b b' : Bool} {t q t' q' : List Nat} {a1 a2 : Option Addr} {ac1 ac2 : Nat} (ha1 : Sc w a1 ac1 t) (ha2 : Sc w a2 ac2 q) {u1 u2 : Option Addr} {uc1 uc2 : Nat} (hu1 : Sc w u1 uc1 t') (hu2 : Sc w u2 uc2 q') (l1 : t.length ≤ 9223372036854775807) (l2 : q.length ≤ 9223372036854775807) (l3 : t'.length ≤ 9223372036854775807) (l4 : q'.length ≤ 9223372036854775807) {r : Bool} (hr : qii b t q b' t' q' = r) :
  Calls Tryz.prog 179 #[.agg #[.bool b, .slice a1 t.length ac1, .slice a2 q.length ac2], .agg #[.bool b', .slice u1 t'.length uc1, .slice u2 q'.length uc2]] w fun e w' => e = .returned (.bool r) ∧ Below w.heap.size w w' := by
 have V : St w w [] [(u2, q'), (u1, t'), (a2, q), (a1, t)] [] := ((((St.start w).addR ha1.rd).addR ha2.rd).addR hu1.rd).addR hu2.rd
 refine qs (l := [(0, .agg #[.bool b, .slice a1 t.length ac1, .slice a2 q.length ac2]), (1, .agg #[.bool b', .slice u1 t'.length uc1, .slice u2 q'.length uc2])]) Tryz.func179 rfl Tryz.ntmps179 rfl rfl ?_
 intro Q hret hnorm hP a A
 refine wsk fun K1 hK1 => wrl (jg A V rfl rfl rfl pg (qr rfl rfl) rfl ?_)
 intro g2 w3 V a A
 refine jg A V rfl rfl rfl pg (qr rfl rfl) rfl ?_
 intro g4 w5 V a A
 refine sda A λa A↦?_
 refine qa (hK1 _ _ (wsk fun K6 hK6 => wrl (sdo (v := .pointer (some ⟨g2, 0, none⟩)) A (qb EqN_fld_33_0 rfl rfl) λa A↦?_)))
 refine sdo A (zb V EqN_is1_4 rfl 1 rfl rfl) λa A↦?_
 refine sdo (v := .pointer (some ⟨g4, 0, none⟩)) A (qb EqN_fld_33_0 rfl rfl) λa A↦?_
 refine sdo A (zb V EqN_is1_4 rfl 0 rfl rfl) λa A↦?_
 rcases tf ((b == b')) with hb7 | hb7
 ·
  have hb7' := eq_of_beq hb7
  refine sdo (v := .bool true) A (qg rfl rfl (fun w => ((qeg Tryz.underlying4) w).trans (by rw [hb7]))) λa A↦?_
  refine sdm A λa A↦?_
  refine sdo (v := .pointer (some ⟨g2, 1, none⟩)) A (qb EqN_fld_33_1 rfl rfl) λa A↦?_
  refine sdo A (zb V EqN_is1_31 rfl 1 rfl rfl) λa A↦?_
  refine sdo (v := .pointer (some ⟨g4, 1, none⟩)) A (qb EqN_fld_33_1 rfl rfl) λa A↦?_
  refine sdo A (zb V EqN_is1_31 rfl 0 rfl rfl) λa A↦?_
  rcases tf (decide (t = t')) with hb8 | hb8
  ·
   have hb8' := of_decide_eq_true hb8
   refine sct A (ef rfl rfl) (uw _ _ (V.rd 3 rfl) (V.rd 1 rfl) l1 l3 hb8) ?_
   rintro _ w10 ⟨rfl, hb9⟩
   replace V := V.call hb9
   refine ⟨_, rfl, ?_⟩
   intro a A
   refine sdk (v := .bool true) A λa A↦?_
   refine sdm A λa A↦?_
   refine sdo (v := .pointer (some ⟨g2, 2, none⟩)) A (qb EqN_fld_33_2 rfl rfl) λa A↦?_
   refine sdo A (zb V EqN_is1_31 rfl 1 rfl rfl) λa A↦?_
   refine sdo (v := .pointer (some ⟨g4, 2, none⟩)) A (qb EqN_fld_33_2 rfl rfl) λa A↦?_
   refine sdo A (zb V EqN_is1_31 rfl 0 rfl rfl) λa A↦?_
   rcases tf (decide (q = q')) with hb11 | hb11
   ·
    have hb11' := of_decide_eq_true hb11
    refine sct A (ef rfl rfl) (uw _ _ (V.rd 2 rfl) (V.rd 0 rfl) l2 l4 hb11) ?_
    rintro _ w13 ⟨rfl, hb12⟩
    replace V := V.call hb12
    refine ⟨_, rfl, ?_⟩
    intro a A
    refine sdk (v := .bool true) A λa A↦?_
    refine sda A λa A↦?_
    refine qa (hK6 _ _ (wp_ret (hret _ _ (en1 A rfl (qj rfl) ?_))))
    subst hr
    exact ⟨by unfold qii; rw [hb7, hb8, hb11]; try rfl, V.bel⟩
   ·
    have hb11' := of_decide_eq_false hb11
    refine sct A (ef rfl rfl) (uw _ _ (V.rd 2 rfl) (V.rd 0 rfl) l2 l4 hb11) ?_
    rintro _ w15 ⟨rfl, hb14⟩
    replace V := V.call hb14
    refine ⟨_, rfl, ?_⟩
    intro a A
    refine sdk (v := .bool false) A λa A↦?_
    refine sda A λa A↦?_
    refine qa (hK6 _ _ (wp_ret (hret _ _ (en1 A rfl (qj rfl) ?_))))
    subst hr
    exact ⟨by unfold qii; rw [hb7, hb8, hb11]; try rfl, V.bel⟩
  ·
   have hb8' := of_decide_eq_false hb8
   refine sct A (ef rfl rfl) (uw _ _ (V.rd 3 rfl) (V.rd 1 rfl) l1 l3 hb8) ?_
   rintro _ w17 ⟨rfl, hb16⟩
   replace V := V.call hb16
   refine ⟨_, rfl, ?_⟩
   intro a A
   refine sdk (v := .bool false) A λa A↦?_
   refine sdm A λa A↦?_
   iterate 5 refine zg A rfl rfl rfl λa A↦?_
   refine sdk (v := .bool false) A λa A↦?_
   refine sda A λa A↦?_
   refine qa (hK6 _ _ (wp_ret (hret _ _ (en1 A rfl (qj rfl) ?_))))
   subst hr
   exact ⟨by unfold qii; rw [hb7, hb8]; try rfl, V.bel⟩
 ·
  have hb7' := ne_of_beq_false hb7
  refine sdo (v := .bool false) A (qg rfl rfl (fun w => ((qeg Tryz.underlying4) w).trans (by rw [hb7]))) λa A↦?_
  refine sdm A λa A↦?_
  iterate 5 refine zg A rfl rfl rfl λa A↦?_
  refine sdk (v := .bool false) A λa A↦?_
  refine sdm A λa A↦?_
  iterate 5 refine zg A rfl rfl rfl λa A↦?_
  refine sdk (v := .bool false) A λa A↦?_
  refine sda A λa A↦?_
  refine qa (hK6 _ _ (wp_ret (hret _ _ (en1 A rfl (qj rfl) ?_))))
  subst hr
  exact ⟨by unfold qii; rw [hb7]; try rfl, V.bel⟩
theorem qpe {w : World} {b : Bool} {t q : List Nat} {a1 a2 : Option Addr} {ac1 ac2 : Nat} (ha1 : Sc w a1 ac1 t) (ha2 : Sc w a2 ac2 q) : Calls Tryz.prog 181 #[.agg #[.bool b, .slice a1 t.length ac1, .slice a2 q.length ac2]] w (AnsV w ⟨b, t, q, false, [], [1]⟩) := by
 have V : St w w [] [(a2, q), (a1, t)] [] := ((St.start w).addR ha1.rd).addR ha2.rd
 refine qs (l := [(0, .agg #[.bool b, .slice a1 t.length ac1, .slice a2 q.length ac2])]) Tryz.func181 rfl Tryz.ntmps181 rfl rfl ?_
 intro Q hret hnorm hP a A
 refine wsk fun K1 hK1 => wrl (jg A V rfl rfl rfl pg (qr rfl rfl) rfl ?_)
 intro g2 w3 V a A
 refine jg (vs := [.bool false, .slice none 0 0, .slice none 0 0, .bool false, .slice none 0 0, .slice none 0 0]) (t := 35) A V rfl rfl rfl pg (ql (z := .agg #[.bool false, .slice none 0 0, .slice none 0 0, .bool false, .slice none 0 0, .slice none 0 0]) (by kernel_rfl) rfl) rfl ?_
 intro g4 w5 V a A
 refine qa (hK1 _ _ (wsk fun K6 hK6 => jh (S := fun w1 => St w w1 [(g2, [.bool b, .slice a1 t.length ac1, .slice a2 q.length ac2])] [(a2, q), (a1, t)] []) (by kernel_rfl) ?_))
 replace V := V.drew
 refine qe A 0 rfl rfl rfl rfl hP (V.partD (cn (cc .slnil)) 0 rfl (.refl _)) (fun w1 V => zw V EqN_isS_33 rfl 0 rfl (cs := [.bool b, .slice a1 t.length ac1, .slice a2 q.length ac2]) rfl rfl) λa A↦?_
 refine qh (by kernel_rfl) (qn A 1 rfl rfl rfl rfl (qi  rfl rfl (fun w => by kernel_rfl)) ((show Calls Tryz.prog 24 #[.int .i64 (0)] _ (AnsV _ (Q6.whole false 0)) from zli (k := 0) (by decide))) ?_)
 rintro _ w10 ⟨p7_1, p7_c1, p7_2, p7_c2, p7_3, p7_c3, p7_4, p7_c4, rfl, hn8, hb9⟩
 replace V := V.call hb9
 replace V := V.addR hn8.s1.rd
 replace V := V.addR hn8.s2.rd
 replace V := V.addR hn8.s3.rd
 replace V := V.addR hn8.s4.rd
 refine ⟨_, rfl, (V.partD (cn (cc .slnil)) 4 rfl (.refl _)), ?_⟩
 intro a A
 refine qe (v := .agg #[.bool false, .slice p7_3 0 p7_c3, .slice p7_4 1 p7_c4]) A 2 rfl rfl rfl rfl hP (V.partD (cn (cc .slnil)) 4 rfl (.refl _)) (fun w1 V => qte rfl (fun w => by kernel_rfl)) λa A↦?_
 refine qe (v := .agg #[.bool b, .slice a1 t.length ac1, .slice a2 q.length ac2, .bool false, .slice p7_3 0 p7_c3, .slice p7_4 1 p7_c4]) A 3 rfl rfl rfl rfl hP (V.partD (cn (cc .slnil)) 4 rfl (.refl _)) (fun w1 V => zp rfl (fun w => by kernel_rfl)) λa A↦?_
 refine qh (by kernel_rfl) (zy (us := [.bool b, .slice a1 t.length ac1, .slice a2 q.length ac2, .bool false, .slice p7_3 0 p7_c3, .slice p7_4 1 p7_c4]) A V 4 rfl rfl rfl (qt rfl rfl rfl (by kernel_rfl) V 0 rfl rfl rfl) 0 rfl rfl rfl rfl ?_)
 intro w11 V
 refine ⟨(V.partD (cn (cc .slnil)) 4 rfl (.refl _)), ?_⟩
 refine ze (by kernel_rfl) ?_
 refine hK6 _ _ (wp_ret (hret _ _ (en1 A rfl (xu V EqN_isS_35 rfl 0 rfl (cs := [.bool b, .slice a1 t.length ac1, .slice a2 q.length ac2, .bool false, .slice p7_3 0 p7_c3, .slice p7_4 1 p7_c4]) rfl rfl) ?_)))
 exact ⟨a1, ac1, a2, ac2, p7_3, p7_c3, p7_4, p7_c4, rfl, ⟨⟨(V.rd 5 rfl), ha1.nil, ha1.cap⟩, ⟨(V.rd 4 rfl), ha2.nil, ha2.cap⟩, ⟨(V.rd 1 rfl), hn8.s3.nil, hn8.s3.cap⟩, ⟨(V.rd 0 rfl), hn8.s4.nil, hn8.s4.cap⟩⟩, V.bel⟩
theorem qpf {w : World} {u x : Rat} (hu : xm u) (hx : xm x) {a1 a2 : Option Addr} {ac1 ac2 : Nat} (ha1 : Sc w a1 ac1 (words u.num.natAbs)) (ha2 : Sc w a2 ac2 (words u.den)) {e1 e2 : Option Addr} {ec1 ec2 : Nat} (he1 : Sc w e1 ec1 (words x.num.natAbs)) (he2 : Sc w e2 ec2 (words x.den)) : Calls Tryz.prog 148 #[.agg #[.bool ((rb u.num)), .slice a1 (words u.num.natAbs).length ac1, .slice a2 (words u.den).length ac2], .agg #[.bool ((rb x.num)), .slice e1 (words x.num.natAbs).length ec1, .slice e2 (words x.den).length ec2]] w fun e w' => e = .returned (.int .i64 (yf u x)) ∧ Below w.heap.size w w' := by
 have V : St w w [] [(e2, words x.den), (e1, words x.num.natAbs), (a2, words u.den), (a1, words u.num.natAbs)] [] := ((((St.start w).addR ha1.rd).addR ha2.rd).addR he1.rd).addR he2.rd
 refine qs (l := [(0, .agg #[.bool ((rb u.num)), .slice a1 ((words u.num.natAbs).length) ac1, .slice a2 ((words u.den).length) ac2]), (1, .agg #[.bool ((rb x.num)), .slice e1 ((words x.num.natAbs).length) ec1, .slice e2 ((words x.den).length) ec2])]) Tryz.func148 rfl Tryz.ntmps148 rfl rfl ?_
 intro Q hret hnorm hP a A
 refine wsk fun K1 hK1 => wrl (jg A V rfl rfl rfl pg (qr rfl rfl) rfl ?_)
 intro g2 w3 V a A
 refine jg A V rfl rfl rfl pg (qr rfl rfl) rfl ?_
 intro g4 w5 V a A
 refine sda A λa A↦?_
 refine qa (hK1 _ _ (wsk fun K6 hK6 => wsk fun K7 hK7 => wrl (sdo A (zw V EqN_isS_33 rfl 1 rfl (cs := [.bool ((rb u.num)), .slice a1 ((words u.num.natAbs).length) ac1, .slice a2 ((words u.den).length) ac2]) rfl rfl) λa A↦?_)))
 refine sdo A (zw V EqN_isS_33 rfl 0 rfl (cs := [.bool ((rb x.num)), .slice e1 ((words x.num.natAbs).length) ec1, .slice e2 ((words x.den).length) ec2]) rfl rfl) λa A↦?_
 rcases tf (qii (rb u.num) (words u.num.natAbs) (words u.den) (rb x.num) (words x.num.natAbs) (words x.den)) with hb8 | hb8
 ·
  refine sct A (ef rfl rfl) (qjb ⟨(V.rd 3 rfl), ha1.nil, ha1.cap⟩ ⟨(V.rd 2 rfl), ha2.nil, ha2.cap⟩ ⟨(V.rd 1 rfl), he1.nil, he1.cap⟩ ⟨(V.rd 0 rfl), he2.nil, he2.cap⟩ (Nat.le_trans hu.1 (by decide)) (Nat.le_trans hu.2 (by decide)) (Nat.le_trans hx.1 (by decide)) (Nat.le_trans hx.2 (by decide)) hb8) ?_
  rintro _ w10 ⟨rfl, hb9⟩
  replace V := V.call hb9
  refine ⟨_, rfl, ?_⟩
  intro a A
  refine qa (hK7 _ _ (wp_cond_true (A.ev rfl) ?_))
  refine wsk fun K11 hK11 => wrl (sda A λa A↦?_)
  refine qa (hK11 _ _ (wp_ret (hret _ _ (en1 A rfl (qj rfl) ?_))))
  exact ⟨by rw [zgd hb8], V.bel⟩
 ·
  refine sct A (ef rfl rfl) (qjb ⟨(V.rd 3 rfl), ha1.nil, ha1.cap⟩ ⟨(V.rd 2 rfl), ha2.nil, ha2.cap⟩ ⟨(V.rd 1 rfl), he1.nil, he1.cap⟩ ⟨(V.rd 0 rfl), he2.nil, he2.cap⟩ (Nat.le_trans hu.1 (by decide)) (Nat.le_trans hu.2 (by decide)) (Nat.le_trans hx.1 (by decide)) (Nat.le_trans hx.2 (by decide)) hb8) ?_
  rintro _ w13 ⟨rfl, hb12⟩
  replace V := V.call hb12
  refine ⟨_, rfl, ?_⟩
  intro a A
  refine qa (hK7 _ _ (wp_cond_false (A.ev rfl) ?_))
  refine wp_skip (hK6 _ _ (wsk fun K14 hK14 => jh (S := fun w1 => St w w1 [(g4, [.bool ((rb x.num)), .slice e1 ((words x.num.natAbs).length) ec1, .slice e2 ((words x.den).length) ec2]), (g2, [.bool ((rb u.num)), .slice a1 ((words u.num.natAbs).length) ac1, .slice a2 ((words u.den).length) ac2])] [(e2, words x.den), (e1, words x.num.natAbs), (a2, words u.den), (a1, words u.num.natAbs)] []) (by kernel_rfl) ?_))
  replace V := V.drew
  refine qe A 0 rfl rfl rfl rfl hP V (fun w1 V => zw V EqN_isS_33 rfl 1 rfl (cs := [.bool ((rb u.num)), .slice a1 ((words u.num.natAbs).length) ac1, .slice a2 ((words u.den).length) ac2]) rfl rfl) λa A↦?_
  refine qe A 2 rfl rfl rfl rfl hP V (fun w1 V => zw V EqN_isS_33 rfl 0 rfl (cs := [.bool ((rb x.num)), .slice e1 ((words x.num.natAbs).length) ec1, .slice e2 ((words x.den).length) ec2]) rfl rfl) λa A↦?_
  refine qh (by kernel_rfl) (qn A 1 rfl rfl rfl rfl (qi  rfl rfl (fun w => by kernel_rfl)) (qpe ⟨(V.rd 3 rfl), ha1.nil, ha1.cap⟩ ⟨(V.rd 2 rfl), ha2.nil, ha2.cap⟩) ?_)
  rintro _ w18 ⟨p15_1, p15_c1, p15_2, p15_c2, p15_3, p15_c3, p15_4, p15_c4, rfl, hn16, hb17⟩
  replace V := V.call hb17
  replace V := V.addR hn16.s1.rd
  replace V := V.addR hn16.s2.rd
  replace V := V.addR hn16.s3.rd
  replace V := V.addR hn16.s4.rd
  refine ⟨_, rfl, (V.partD (.refl _) 4 rfl (.refl _)), ?_⟩
  intro a A
  refine qh (by kernel_rfl) (qn A 3 rfl rfl rfl rfl (qi  rfl rfl (fun w => by kernel_rfl)) (qpe ⟨(V.rd 5 rfl), he1.nil, he1.cap⟩ ⟨(V.rd 4 rfl), he2.nil, he2.cap⟩) ?_)
  rintro _ w22 ⟨p19_1, p19_c1, p19_2, p19_c2, p19_3, p19_c3, p19_4, p19_c4, rfl, hn20, hb21⟩
  replace V := V.call hb21
  replace V := V.addR hn20.s1.rd
  replace V := V.addR hn20.s2.rd
  replace V := V.addR hn20.s3.rd
  replace V := V.addR hn20.s4.rd
  refine ⟨_, rfl, (V.partD (.refl _) 8 rfl (.refl _)), ?_⟩
  intro a A
  refine qh (by kernel_rfl) (qn A 4 rfl rfl rfl rfl (qi  rfl rfl (fun w => by kernel_rfl)) (((zmc hu hx) ▸ zmb (show Nm _ ⟨rb u.num, words u.num.natAbs, words u.den, false, [], [1]⟩ p15_1 p15_c1 p15_2 p15_c2 p15_3 p15_c3 p15_4 p15_c4 from ⟨⟨(V.rd 7 rfl), hn16.s1.nil, hn16.s1.cap⟩, ⟨(V.rd 6 rfl), hn16.s2.nil, hn16.s2.cap⟩, ⟨(V.rd 5 rfl), hn16.s3.nil, hn16.s3.cap⟩, ⟨(V.rd 4 rfl), hn16.s4.nil, hn16.s4.cap⟩⟩) (qvh hu) (show Nm _ ⟨rb x.num, words x.num.natAbs, words x.den, false, [], [1]⟩ p19_1 p19_c1 p19_2 p19_c2 p19_3 p19_c3 p19_4 p19_c4 from ⟨⟨(V.rd 3 rfl), hn20.s1.nil, hn20.s1.cap⟩, ⟨(V.rd 2 rfl), hn20.s2.nil, hn20.s2.cap⟩, ⟨(V.rd 1 rfl), hn20.s3.nil, hn20.s3.cap⟩, ⟨(V.rd 0 rfl), hn20.s4.nil, hn20.s4.cap⟩⟩) (qvh hx))) ?_)
  rintro _ w24 ⟨rfl, hb23⟩
  replace V := V.call hb23
  refine ⟨_, rfl, (V.partD (.refl _) 8 rfl (.refl _)), ?_⟩
  intro a A
  refine qe A 5 rfl rfl rfl rfl hP (V.partD (.refl _) 8 rfl (.refl _)) (fun w1 V => qp rfl) λa A↦?_
  refine qe (v := .int .i64 (yf u x)) A 6 rfl rfl rfl rfl hP (V.partD (.refl _) 8 rfl (.refl _)) (fun w1 V => zd (vs := [.int .i64 (yf u x), .int .i64 0]) rfl rfl) λa A↦?_
  refine qe (v := .int .i64 0) A 7 rfl rfl rfl rfl hP (V.partD (.refl _) 8 rfl (.refl _)) (fun w1 V => zd (vs := [.int .i64 (yf u x), .int .i64 0]) rfl rfl) λa A↦?_
  refine qe A 8 rfl rfl rfl rfl hP (V.partD (.refl _) 8 rfl (.refl _)) (fun w1 V => jf rfl) λa A↦?_
  refine qe A 9 rfl rfl rfl rfl hP (V.partD (.refl _) 8 rfl (.refl _)) (fun w1 V => jf rfl) λa A↦?_
  refine ze (by kernel_rfl) ?_
  refine hK14 _ _ (wsk fun K25 hK25 => wrl (sdm A λa A↦?_))
  refine sda A λa A↦?_
  refine qa (hK25 _ _ (wp_ret (hret _ _ (en1 A rfl (qj rfl) ?_))))
  exact ⟨rfl, V.bel⟩
theorem qzj {w : World} {u v x y : Rat} {a1 a2 a3 a4 : Option Addr} {ac1 ac2 ac3 ac4 : Nat} (ha : Nm w (Q6.rat u v) a1 ac1 a2 ac2 a3 ac3 a4 ac4) {u1 u2 u3 u4 : Option Addr} {uc1 uc2 uc3 uc4 : Nat} (hb : Nm w (Q6.rat x y) u1 uc1 u2 uc2 u3 uc3 u4 uc4) (hu : xm u) (hv : xm v) (hx : xm x) (hy : xm y) : Calls Tryz.prog 115 #[qgh (Q6.rat u v) a1 ac1 a2 ac2 a3 ac3 a4 ac4, qgh (Q6.rat x y) u1 uc1 u2 uc2 u3 uc3 u4 uc4] w fun e w' => e = .returned (.int .i64 (if yf u x = 0 then yf v y else yf u x)) ∧ Below w.heap.size w w' := by
 have V : St w w [] [(u4, words y.den), (u3, words y.num.natAbs), (u2, words x.den), (u1, words x.num.natAbs), (a4, words v.den), (a3, words v.num.natAbs), (a2, words u.den), (a1, words u.num.natAbs)] [] := ((((((((St.start w).addR ha.s1.rd).addR ha.s2.rd).addR ha.s3.rd).addR ha.s4.rd).addR hb.s1.rd).addR hb.s2.rd).addR hb.s3.rd).addR hb.s4.rd
 refine qs (l := [(0, .agg #[.bool (rb u.num), .slice a1 ((words u.num.natAbs).length) ac1, .slice a2 ((words u.den).length) ac2, .bool (rb v.num), .slice a3 ((words v.num.natAbs).length) ac3, .slice a4 ((words v.den).length) ac4]), (1, .agg #[.bool (rb x.num), .slice u1 ((words x.num.natAbs).length) uc1, .slice u2 ((words x.den).length) uc2, .bool (rb y.num), .slice u3 ((words y.num.natAbs).length) uc3, .slice u4 ((words y.den).length) uc4])]) Tryz.func115 rfl Tryz.ntmps115 rfl rfl ?_
 intro Q hret hnorm hP a A
 refine wsk fun K1 hK1 => wrl (jg A V rfl rfl rfl pg (qr rfl rfl) rfl ?_)
 intro g2 w3 V a A
 refine jg A V rfl rfl rfl pg (qr rfl rfl) rfl ?_
 intro g4 w5 V a A
 refine sda A λa A↦?_
 refine qa (hK1 _ _ (wsk fun K6 hK6 => wsk fun K7 hK7 => wrl (sdo (v := .pointer (some ⟨g2, 0, none⟩)) A (qb EqN_fld_35_0 rfl rfl) λa A↦?_)))
 refine sdo A (zw V EqN_isS_33 rfl 1 rfl (cs := [.bool (rb u.num), .slice a1 ((words u.num.natAbs).length) ac1, .slice a2 ((words u.den).length) ac2]) rfl rfl) λa A↦?_
 refine sdo (v := .pointer (some ⟨g4, 0, none⟩)) A (qb EqN_fld_35_0 rfl rfl) λa A↦?_
 refine sdo A (zw V EqN_isS_33 rfl 0 rfl (cs := [.bool (rb x.num), .slice u1 ((words x.num.natAbs).length) uc1, .slice u2 ((words x.den).length) uc2]) rfl rfl) λa A↦?_
 refine sct A (ef rfl rfl) (qpf hu hx ⟨(V.rd 7 rfl), ha.s1.nil, ha.s1.cap⟩ ⟨(V.rd 6 rfl), ha.s2.nil, ha.s2.cap⟩ ⟨(V.rd 3 rfl), hb.s1.nil, hb.s1.cap⟩ ⟨(V.rd 2 rfl), hb.s2.nil, hb.s2.cap⟩) ?_
 rintro _ w9 ⟨rfl, hb8⟩
 replace V := V.call hb8
 refine ⟨_, rfl, ?_⟩
 intro a A
 refine sda A λa A↦?_
 refine qa (hK7 _ _ (wsk fun K10 hK10 => wrl (sdm A λa A↦?_)))
 rcases tf ((yf u x != 0)) with hb11 | hb11
 ·
  have hb11' := bne_iff_ne.1 hb11
  refine sdc A jo hb11 λa A↦?_
  refine qa (hK10 _ _ (wp_cond_true (A.ev rfl) ?_))
  refine wsk fun K12 hK12 => wrl (sdm A λa A↦?_)
  refine sda A λa A↦?_
  refine qa (hK12 _ _ (wp_ret (hret _ _ (en1 A rfl (qj rfl) ?_))))
  exact ⟨by rw [if_neg hb11'], V.bel⟩
 ·
  have hb11' := bne_eq_false_iff_eq.1 hb11
  refine sdc A jo hb11 λa A↦?_
  refine qa (hK10 _ _ (wp_cond_false (A.ev rfl) ?_))
  refine wp_skip (hK6 _ _ (wsk fun K13 hK13 => wrl (sdo (v := .pointer (some ⟨g2, 3, none⟩)) A (qb EqN_fld_35_1 rfl rfl) λa A↦?_)))
  refine sdo A (zw V EqN_isS_33 rfl 1 rfl (cs := [.bool (rb v.num), .slice a3 ((words v.num.natAbs).length) ac3, .slice a4 ((words v.den).length) ac4]) rfl rfl) λa A↦?_
  refine sdo (v := .pointer (some ⟨g4, 3, none⟩)) A (qb EqN_fld_35_1 rfl rfl) λa A↦?_
  refine sdo A (zw V EqN_isS_33 rfl 0 rfl (cs := [.bool (rb y.num), .slice u3 ((words y.num.natAbs).length) uc3, .slice u4 ((words y.den).length) uc4]) rfl rfl) λa A↦?_
  refine sct A (ef rfl rfl) (qpf hv hy ⟨(V.rd 5 rfl), ha.s3.nil, ha.s3.cap⟩ ⟨(V.rd 4 rfl), ha.s4.nil, ha.s4.cap⟩ ⟨(V.rd 1 rfl), hb.s3.nil, hb.s3.cap⟩ ⟨(V.rd 0 rfl), hb.s4.nil, hb.s4.cap⟩) ?_
  rintro _ w15 ⟨rfl, hb14⟩
  replace V := V.call hb14
  refine ⟨_, rfl, ?_⟩
  intro a A
  refine sda A λa A↦?_
  refine qa (hK13 _ _ (wp_ret (hret _ _ (en1 A rfl (qj rfl) ?_))))
  exact ⟨by rw [if_pos hb11'], V.bel⟩
end Go.Proofs.YtjlpecapebhgjaaGreatDoor
namespace Go.Proofs.YtjlpecapebhgjaaGreatDoor.G
open Go.RowKit
set_option linter.unusedVariables false
set_option linter.unusedSimpArgs false
set_option maxRecDepth 100000
theorem EqA_is1_118 : Is1 Tryz.prog 118 := ⟨⟨_, Tryz.underlying118, rfl⟩, by kernel_rfl⟩
theorem EqA_is1_31 : Is1 Tryz.prog 31 := ⟨⟨_, Tryz.underlying31, rfl⟩, by kernel_rfl⟩
theorem EqA_is1_4 : Is1 Tryz.prog 4 := ⟨⟨_, Tryz.underlying4, rfl⟩, by kernel_rfl⟩
theorem EqA_is1_5 : Is1 Tryz.prog 5 := ⟨⟨_, Tryz.underlying5, rfl⟩, by kernel_rfl⟩
theorem EqA_fld_33_0 : FieldAt Tryz.prog 33 0 0 := ⟨_, _, Tryz.underlying33, rfl, rfl, by kernel_rfl⟩
theorem EqA_fld_33_1 : FieldAt Tryz.prog 33 1 1 := ⟨_, _, Tryz.underlying33, rfl, rfl, by kernel_rfl⟩
theorem EqA_fld_33_2 : FieldAt Tryz.prog 33 2 2 := ⟨_, _, Tryz.underlying33, rfl, rfl, by kernel_rfl⟩
theorem zch {w : World} {n : Int} : Calls Tryz.prog 63 #[.int .i64 n] w fun e w' => e = .returned (.bool false) ∧ Below w.heap.size w w' := by
 have M : Mg w w ([]) := Mg.start w
 refine qs (l := [(0, .int .i64 n)]) Tryz.func63 rfl Tryz.ntmps63 rfl rfl ?_
 intro Q hret hnorm hP a A
 refine wsk fun K1 hK1 => wrl (sda A λa A↦?_)
 refine qa (hK1 _ _ (wsk fun K2 hK2 => wrl ?_))
 iterate 2 refine sdm A λa A↦?_
 refine sdo (v := .bool false) A (qg rfl rfl (fun w => (jo w).trans (by rw [show ((n != n)) = false from (bne_self_eq_false n)]))) λa A↦?_
 refine sda A λa A↦?_
 refine qa (hK2 _ _ (wp_ret (hret _ _ (en1 A rfl (qj rfl) ?_))))
 exact ⟨rfl, M.bel⟩
theorem qbd {w : World} {m n : Int} : Calls Tryz.prog 37 #[.int .i64 m, .int .i64 n] w fun e w' => e = .returned (.int .i64 (yg m n)) ∧ Below w.heap.size w w' := by
 have M : Mg w w ([]) := Mg.start w
 refine qs (l := [(0, .int .i64 m), (1, .int .i64 n)]) Tryz.func37 rfl Tryz.ntmps37 rfl rfl ?_
 intro Q hret hnorm hP a A
 refine wsk fun K1 hK1 => wrl (sda A λa A↦?_)
 refine qa (hK1 _ _ (wsk fun K2 hK2 => wrl (sdm A λa A↦?_)))
 refine gcl A M (ef rfl rfl) (zch) fun w4 hb3 M a A => ?_
 refine sda A λa A↦?_
 refine qa (hK2 _ _ (wsk fun K5 hK5 => wrl (sdm A λa A↦?_)))
 refine gcl A M (ef rfl rfl) (zch) fun w7 hb6 M a A => ?_
 refine sda A λa A↦?_
 refine qa (hK5 _ _ (wsk fun K8 hK8 => wsk fun K9 hK9 => wrl (sdm A λa A↦?_)))
 refine qa (hK9 _ _ (wp_cond_false (A.ev rfl) ?_))
 refine wp_skip (hK8 _ _ (wsk fun K10 hK10 => wsk fun K11 hK11 => wrl (sdm A λa A↦?_)))
 refine qa (hK11 _ _ (wp_cond_false (A.ev rfl) ?_))
 refine wp_skip (hK10 _ _ (wsk fun K12 hK12 => wsk fun K13 hK13 => wrl ?_))
 iterate 2 refine sdm A λa A↦?_
 rcases tf (decide (m < n)) with hb14 | hb14
 ·
  have hb14' := of_decide_eq_true hb14
  refine sdc A zq hb14 λa A↦?_
  refine qa (hK13 _ _ (wp_cond_true (A.ev rfl) ?_))
  refine wsk fun K15 hK15 => wrl (sda A λa A↦?_)
  refine qa (hK15 _ _ (wp_ret (hret _ _ (en1 A rfl (qj rfl) ?_))))
  exact ⟨by rw [show yg m n = -1 from by unfold yg; (repeat' split) <;> omega], M.bel⟩
 ·
  have hb14' := of_decide_eq_false hb14
  refine sdc A zq hb14 λa A↦?_
  refine qa (hK13 _ _ (wp_cond_false (A.ev rfl) ?_))
  refine wp_skip (hK12 _ _ (wsk fun K16 hK16 => wsk fun K17 hK17 => wrl ?_))
  iterate 2 refine sdm A λa A↦?_
  rcases tf (decide (n < m)) with hb18 | hb18
  ·
   have hb18' := of_decide_eq_true hb18
   refine sdc A xi hb18 λa A↦?_
   refine qa (hK17 _ _ (wp_cond_true (A.ev rfl) ?_))
   refine wsk fun K19 hK19 => wrl (sda A λa A↦?_)
   refine qa (hK19 _ _ (wp_ret (hret _ _ (en1 A rfl (qj rfl) ?_))))
   exact ⟨by rw [show yg m n = 1 from by unfold yg; (repeat' split) <;> omega], M.bel⟩
  ·
   have hb18' := of_decide_eq_false hb18
   refine sdc A xi hb18 λa A↦?_
   refine qa (hK17 _ _ (wp_cond_false (A.ev rfl) ?_))
   refine wp_skip (hK16 _ _ (wsk fun K20 hK20 => wrl (sda A λa A↦?_)))
   refine qa (hK20 _ _ (wp_ret (hret _ _ (en1 A rfl (qj rfl) ?_))))
   exact ⟨by rw [show yg m n = 0 from by unfold yg; (repeat' split) <;> omega], M.bel⟩
theorem ve {w : World} {h n : Int} : Calls Tryz.prog 111 #[.int .u64 h, .int .u64 n] w fun e w' => e = .returned (.int .u64 (hw h n)) ∧ Below w.heap.size w w' := by
 have M : Mg w w ([]) := Mg.start w
 refine qs (l := [(0, .int .u64 h), (1, .int .u64 n)]) Tryz.func111 rfl Tryz.ntmps111 rfl rfl ?_
 intro Q hret hnorm hP a A
 refine wsk fun K1 hK1 => wrl (sda A λa A↦?_)
 refine qa (hK1 _ _ (wsk fun K2 hK2 => wrl ?_))
 iterate 2 refine sdm A λa A↦?_
 refine sdo (v := .int .u64 (bits .xor .u64 h n)) A (qg rfl rfl (ar_xor rfl)) λa A↦?_
 refine sdo (v := .int .u64 (IntKind.u64.wrap (bits .xor .u64 h n * 1099511628211))) A (qg rfl rfl (ar_mul rfl)) λa A↦?_
 refine sda A λa A↦?_
 refine qa (hK2 _ _ (wsk fun K3 hK3 => wrl ?_))
 iterate 2 refine sdm A λa A↦?_
 refine sdo (v := .int .u64 ((IntKind.u64.wrap (bits .xor .u64 h n * 1099511628211)) / 2 ^ 32)) A (qg rfl rfl (ar_shr (n := 32) rfl rfl rfl)) λa A↦?_
 refine sdo (v := .int .u64 (bits .xor .u64 (IntKind.u64.wrap (bits .xor .u64 h n * 1099511628211)) ((IntKind.u64.wrap (bits .xor .u64 h n * 1099511628211)) / 2 ^ 32))) A (qg rfl rfl (ar_xor rfl)) λa A↦?_
 refine sda A λa A↦?_
 refine qa (hK3 _ _ (wp_ret (hret _ _ (en1 A rfl (qj rfl) ?_))))
 exact ⟨rfl, M.bel⟩
theorem zsf {w : World} {so : Option Addr} {l : List Nat} {i : Nat} (h : Rd w so l) (hi : i < l.length) : ∃ b off, so = some ⟨b, off, none⟩ ∧ b < w.heap.size ∧ ∀ j, j < l.length → w.cell? ⟨b, off + j, none⟩ = some (.int .u32 ((l.getD j 0 : Nat) : Int)) :=
 h.pos (fun k => by rw [k] at hi; exact absurd hi (Nat.not_lt_zero _))
theorem qke {w : World} {h : Int} {so : Option Addr} {ca : Nat} {l : List UInt8} (hb : Rb w so l) (hl : l.length ≤ 9223372036854775807) : Calls Tryz.prog 113 #[.int .u64 h, .slice so l.length ca] w fun e w' => e = .returned (.int .u64 (hwS h l)) ∧ Below w.heap.size w w' := by
 have M : Mg w w ([]) := Mg.start w
 refine qs (l := [(0, .int .u64 h), (1, .slice so l.length ca)]) Tryz.func113 rfl Tryz.ntmps113 rfl rfl ?_
 intro Q hret hnorm hP a A
 refine wsk fun K1 hK1 => wrl (sda A λa A↦?_)
 refine qa (hK1 _ _ (wsk fun K2 hK2 => wrl ?_))
 iterate 2 refine sdm A λa A↦?_
 refine sdo A (qy Tryz.underlying36 rfl) λa A↦?_
 refine sdo (v := .int .u64 (((l.length : Nat) : Int))) A (jq rfl (ar_conv Tryz.underlying3 Tryz.underlying67 (in_u64 (by omega) (by omega)))) λa A↦?_
 refine gcl A M (ef rfl rfl) (ve) fun w4 hb3 M a A => ?_
 refine sda A λa A↦?_
 refine qa (hK2 _ _ (wsk fun K5 hK5 => wsk fun K6 hK6 => wrl (sdm A λa A↦?_)))
 refine sdo A (qy Tryz.underlying36 rfl) λa A↦?_
 refine sdm A λa A↦?_
 refine qa (hK6 _ _ (wp_block (jp (fun m_ a w1 => ∃ (i : Nat) (m : Int), m_ = 1 + (l.length - i) ∧ (i ≤ l.length ∧ hwS h l = hwB m (l.drop i)) ∧ Sl a 24 [(0, .int .u64 m), (1, .slice so l.length ca), (4, .int .u64 0), (7, .int .u64 h), (8, .slice so l.length ca), (9, .int .i64 (((l.length : Nat) : Int))), (10, .int .u64 (((l.length : Nat) : Int))), (11, .int .u64 (hw h (((l.length : Nat) : Int)))), (12, .slice so l.length ca), (13, .int .i64 (((l.length : Nat) : Int))), (14, .int .i64 (((i : Nat) : Int)))] ∧ Mg w w1 ([])) _ ⟨0, hw h ((l.length : Nat) : Int), rfl, ⟨Nat.zero_le _, rfl⟩, A.keep _ (by repeat' constructor), M⟩ ?_)))
 clear M A
 rintro m_ a w7 ⟨i, m, rfl, hinv9, A, M⟩ K8 hK8
 obtain ⟨hi0, hin9⟩ := hinv9
 refine wsk fun K10 hK10 => wrl ?_
 rcases tf (decide (((i : Nat) : Int) < ((l.length : Nat) : Int))) with hb11 | hb11
 ·
  have hb11' := of_decide_eq_true hb11
  refine sdc A zq hb11 λa A↦?_
  refine qa (hK10 _ _ (wsk fun K12 hK12 => wp_cond_true (A.ev rfl) ?_))
  refine wp_skip (hK12 _ _ (wsk fun K13 hK13 => wp_block (wsk fun K14 hK14 => wrl ?_)))
  obtain ⟨bx, ox, hx1, hx2, hx3⟩ := zse (i := i) hb (by omega)
  have hX8 : (l.getD i 0).toNat < 256 := UInt8.toNat_lt _
  refine sdo (v := .pointer (some ⟨bx, ox + i, none⟩)) A (jj (k := i) Tryz.underlying36 (by kernel_rfl) rfl rfl rfl hx1 (by omega)) λa A↦?_
  refine sdo A (vy M hx2 (hx3 i (by omega)) EqA_is1_5 rfl) λa A↦?_
  refine sda A λa A↦?_
  refine qa (hK14 _ _ (wrl ?_))
  iterate 2 refine sdm A λa A↦?_
  refine sdo (v := .int .u64 ((((l.getD i 0).toNat : Nat) : Int))) A (jq rfl (ar_conv Tryz.underlying5 Tryz.underlying67 (in_u64 (by omega) (by omega)))) λa A↦?_
  refine gcl A M (ef rfl rfl) (ve) fun w16 hb15 M a A => ?_
  refine sda A λa A↦?_
  refine qa (hK13 _ _ (wrl (sdo (v := .int .i64 (((i + 1 : Nat) : Int))) A (qg rfl rfl (fun w => (vg (yy (by omega) (by omega)) w).trans (by rw [show (((i : Nat) : Int) + 1 : Int) = ((i + 1 : Nat) : Int) from by omega]))) λa A↦?_)))
  refine sdm A λa A↦?_
  refine qa ?_
  refine hK8 _ _ _ (by omega) ⟨i + 1, hw m ((((l.getD i 0).toNat : Nat) : Int)), rfl, ⟨by omega, by rw [hin9, zwe (by omega)]⟩, A.keep _ (by repeat' constructor), M⟩
 ·
  have hb11' := of_decide_eq_false hb11
  refine sdc A zq hb11 λa A↦?_
  refine qa (hK10 _ _ (wsk fun K17 hK17 => wp_cond_false (A.ev rfl) ?_))
  refine wp_exit (hK5 _ _ (wsk fun K18 hK18 => wrl (sdm A λa A↦?_)))
  refine sda A λa A↦?_
  refine qa (hK18 _ _ (wp_ret (hret _ _ (en1 A rfl (qj rfl) ?_))))
  exact ⟨by rw [show hwS h l = m from by rw [hin9, zra (by omega)]], M.bel⟩
theorem qkf {w : World} {h : Int} {so : Option Addr} {ca : Nat} {l : List Nat} (hb : Rd w so l) (hl : l.length ≤ 9223372036854775807) : Calls Tryz.prog 147 #[.int .u64 h, .slice so l.length ca] w fun e w' => e = .returned (.int .u64 (hwN h l)) ∧ Below w.heap.size w w' := by
 have M : Mg w w ([]) := Mg.start w
 refine qs (l := [(0, .int .u64 h), (1, .slice so l.length ca)]) Tryz.func147 rfl Tryz.ntmps147 rfl rfl ?_
 intro Q hret hnorm hP a A
 refine wsk fun K1 hK1 => wrl (sda A λa A↦?_)
 refine qa (hK1 _ _ (wsk fun K2 hK2 => wrl ?_))
 iterate 2 refine sdm A λa A↦?_
 refine sdo A (qy Tryz.underlying31 rfl) λa A↦?_
 refine sdo (v := .int .u64 (((l.length : Nat) : Int))) A (jq rfl (ar_conv Tryz.underlying3 Tryz.underlying67 (in_u64 (by omega) (by omega)))) λa A↦?_
 refine gcl A M (ef rfl rfl) (ve) fun w4 hb3 M a A => ?_
 refine sda A λa A↦?_
 refine qa (hK2 _ _ (wsk fun K5 hK5 => wsk fun K6 hK6 => wrl (sdm A λa A↦?_)))
 refine sdo A (qy Tryz.underlying31 rfl) λa A↦?_
 refine sdm A λa A↦?_
 refine qa (hK6 _ _ (wp_block (jp (fun m_ a w1 => ∃ (i : Nat) (m : Int), m_ = 1 + (l.length - i) ∧ (i ≤ l.length ∧ hwN h l = hwL m (l.drop i)) ∧ Sl a 24 [(0, .int .u64 m), (1, .slice so l.length ca), (4, .int .u64 0), (7, .int .u64 h), (8, .slice so l.length ca), (9, .int .i64 (((l.length : Nat) : Int))), (10, .int .u64 (((l.length : Nat) : Int))), (11, .int .u64 (hw h (((l.length : Nat) : Int)))), (12, .slice so l.length ca), (13, .int .i64 (((l.length : Nat) : Int))), (14, .int .i64 (((i : Nat) : Int)))] ∧ Mg w w1 ([])) _ ⟨0, hw h ((l.length : Nat) : Int), rfl, ⟨Nat.zero_le _, rfl⟩, A.keep _ (by repeat' constructor), M⟩ ?_)))
 clear M A
 rintro m_ a w7 ⟨i, m, rfl, hinv9, A, M⟩ K8 hK8
 obtain ⟨hi0, hin9⟩ := hinv9
 refine wsk fun K10 hK10 => wrl ?_
 rcases tf (decide (((i : Nat) : Int) < ((l.length : Nat) : Int))) with hb11 | hb11
 ·
  have hb11' := of_decide_eq_true hb11
  refine sdc A zq hb11 λa A↦?_
  refine qa (hK10 _ _ (wsk fun K12 hK12 => wp_cond_true (A.ev rfl) ?_))
  refine wp_skip (hK12 _ _ (wsk fun K13 hK13 => wp_block (wsk fun K14 hK14 => wrl ?_)))
  obtain ⟨bx, ox, hx1, hx2, hx3⟩ := zsf (i := i) hb (by omega)
  have hX8 : l.getD i 0 < 4294967296 := Dig.getD hb.dig i
  refine sdo (v := .pointer (some ⟨bx, ox + i, none⟩)) A (jj (k := i) Tryz.underlying31 (by kernel_rfl) rfl rfl rfl hx1 (by omega)) λa A↦?_
  refine sdo A (vy M hx2 (hx3 i (by omega)) EqA_is1_118 rfl) λa A↦?_
  refine sda A λa A↦?_
  refine qa (hK14 _ _ (wrl ?_))
  iterate 2 refine sdm A λa A↦?_
  refine sdo (v := .int .u64 (((l.getD i 0 : Nat) : Int))) A (jq rfl (ar_conv Tryz.underlying118 Tryz.underlying67 (in_u64 (by omega) (by omega)))) λa A↦?_
  refine gcl A M (ef rfl rfl) (ve) fun w16 hb15 M a A => ?_
  refine sda A λa A↦?_
  refine qa (hK13 _ _ (wrl (sdo (v := .int .i64 (((i + 1 : Nat) : Int))) A (qg rfl rfl (fun w => (vg (yy (by omega) (by omega)) w).trans (by rw [show (((i : Nat) : Int) + 1 : Int) = ((i + 1 : Nat) : Int) from by omega]))) λa A↦?_)))
  refine sdm A λa A↦?_
  refine qa ?_
  refine hK8 _ _ _ (by omega) ⟨i + 1, hw m (((l.getD i 0 : Nat) : Int)), rfl, ⟨by omega, by rw [hin9, zwd (by omega)]⟩, A.keep _ (by repeat' constructor), M⟩
 ·
  have hb11' := of_decide_eq_false hb11
  refine sdc A zq hb11 λa A↦?_
  refine qa (hK10 _ _ (wsk fun K17 hK17 => wp_cond_false (A.ev rfl) ?_))
  refine wp_exit (hK5 _ _ (wsk fun K18 hK18 => wrl (sdm A λa A↦?_)))
  refine sda A λa A↦?_
  refine qa (hK18 _ _ (wp_ret (hret _ _ (en1 A rfl (qj rfl) ?_))))
  exact ⟨by rw [show hwN h l = m from by rw [hin9, zqj (by omega)]], M.bel⟩
theorem zci {w : World} {h : Int} {b : Bool} {o1 o2 : Option Addr} {c1 c2 : Nat} {t q : List Nat} (h1 : Rd w o1 t) (h2 : Rd w o2 q) (l1 : t.length ≤ 9223372036854775807) (l2 : q.length ≤ 9223372036854775807) : Calls Tryz.prog 112 #[.int .u64 h, .agg #[.bool b, .slice o1 t.length c1, .slice o2 q.length c2]] w fun e w' => e = .returned (.int .u64 (hwF h b t q)) ∧ Below w.heap.size w w' := by
 have M : Mg w w ([]) := Mg.start w
 refine qs (l := [(0, .int .u64 h), (1, .agg #[.bool b, .slice o1 t.length c1, .slice o2 q.length c2])]) Tryz.func112 rfl Tryz.ntmps112 rfl rfl ?_
 intro Q hret hnorm hP a A
 refine wsk fun K1 hK1 => wrl (zx (vs := [.bool b, .slice o1 t.length c1, .slice o2 q.length c2]) (t := 33) A M rfl rfl rfl pg (qr rfl rfl) (by decide) ?_)
 intro g2 w3 M a A
 refine sda A λa A↦?_
 refine qa (hK1 _ _ (wsk fun K4 hK4 => wrl (sda A λa A↦?_)))
 refine qa (hK4 _ _ (wsk fun K5 hK5 => wsk fun K6 hK6 => wrl (sdo (v := .pointer (some ⟨g2, 0, none⟩)) A (qb EqA_fld_33_0 rfl rfl) λa A↦?_)))
 refine sdo A (qk M EqA_is1_4 rfl 0 rfl rfl) λa A↦?_
 refine qa (hK6 _ _ ?_)
 refine wp_cond_split (t := b) (A.ev rfl) (fun hc7 => ?_) (fun hc7 => ?_)
 ·
  refine wrl (sda A λa A↦?_)
  refine qa (hK5 _ _ (wsk fun K8 hK8 => jh (S := fun w1 => Mg w w1 (.obj g2 (.cells #[.bool b, .slice o1 t.length c1, .slice o2 q.length c2] 33) :: [])) (by kernel_rfl) ?_))
  replace M := M.drew
  refine qe A 0 rfl rfl rfl rfl hP (M.sub (cc (List.nil_sublist _))) (fun w1 M => qp rfl) λa A↦?_
  refine qe A 1 rfl rfl rfl rfl hP (M.sub (cc (List.nil_sublist _))) (fun w1 M => qp rfl) λa A↦?_
  refine qe (v := .pointer (some ⟨g2, 1, none⟩)) A 3 rfl rfl rfl rfl hP (M.sub (cc (List.nil_sublist _))) (fun w1 M => qb EqA_fld_33_1 rfl rfl) λa A↦?_
  refine qe A 4 rfl rfl rfl rfl hP (M.sub (cc (List.nil_sublist _))) (fun w1 M => qk M EqA_is1_31 rfl 0 rfl rfl) λa A↦?_
  refine qe (v := .pointer (some ⟨g2, 2, none⟩)) A 6 rfl rfl rfl rfl hP (M.sub (cc (List.nil_sublist _))) (fun w1 M => qb EqA_fld_33_2 rfl rfl) λa A↦?_
  refine qe A 7 rfl rfl rfl rfl hP (M.sub (cc (List.nil_sublist _))) (fun w1 M => qk M EqA_is1_31 rfl 0 rfl rfl) λa A↦?_
  refine qh (by kernel_rfl) (qn A 2 rfl rfl rfl rfl (qi rfl rfl (fun w => by kernel_rfl)) (ve) ?_)
  rintro _ w10 ⟨rfl, hb9⟩
  replace M := M.call hb9
  refine ⟨_, rfl, (M.sub (cc (List.nil_sublist _))), ?_⟩
  intro a A
  refine qh (by kernel_rfl) (qn A 5 rfl rfl rfl rfl (qi rfl rfl (fun w => by kernel_rfl)) (qkf (h1.below M.bel) l1) ?_)
  rintro _ w11 ⟨rfl, hbl1⟩
  replace M := M.call hbl1
  refine ⟨_, rfl, (M.sub (cc (List.nil_sublist _))), ?_⟩
  intro a A
  refine qh (by kernel_rfl) (qn A 8 rfl rfl rfl rfl (qi rfl rfl (fun w => by kernel_rfl)) (qkf (h2.below M.bel) l2) ?_)
  rintro _ w12 ⟨rfl, hbl2⟩
  replace M := M.call hbl2
  refine ⟨_, rfl, (M.sub (cc (List.nil_sublist _))), ?_⟩
  intro a A
  refine qe A 9 rfl rfl rfl rfl hP (M.sub (cc (List.nil_sublist _))) (fun w1 M => jf rfl) λa A↦?_
  refine ze (by kernel_rfl) ?_
  refine hK8 _ _ (wp_ret (hret _ _ (en1 A rfl (qj rfl) ?_)))
  exact ⟨by rw [show hwF h b t q = hwN (hwN (hw h 1) t) q from by unfold hwF; rw [hc7]; rfl], M.bel⟩
 ·
  refine wp_skip (hK5 _ _ (wsk fun K13 hK13 => jh (S := fun w1 => Mg w w1 (.obj g2 (.cells #[.bool b, .slice o1 t.length c1, .slice o2 q.length c2] 33) :: [])) (by kernel_rfl) ?_))
  replace M := M.drew
  refine qe A 0 rfl rfl rfl rfl hP (M.sub (cc (List.nil_sublist _))) (fun w1 M => qp rfl) λa A↦?_
  refine qe A 1 rfl rfl rfl rfl hP (M.sub (cc (List.nil_sublist _))) (fun w1 M => qp rfl) λa A↦?_
  refine qe (v := .pointer (some ⟨g2, 1, none⟩)) A 3 rfl rfl rfl rfl hP (M.sub (cc (List.nil_sublist _))) (fun w1 M => qb EqA_fld_33_1 rfl rfl) λa A↦?_
  refine qe A 4 rfl rfl rfl rfl hP (M.sub (cc (List.nil_sublist _))) (fun w1 M => qk M EqA_is1_31 rfl 0 rfl rfl) λa A↦?_
  refine qe (v := .pointer (some ⟨g2, 2, none⟩)) A 6 rfl rfl rfl rfl hP (M.sub (cc (List.nil_sublist _))) (fun w1 M => qb EqA_fld_33_2 rfl rfl) λa A↦?_
  refine qe A 7 rfl rfl rfl rfl hP (M.sub (cc (List.nil_sublist _))) (fun w1 M => qk M EqA_is1_31 rfl 0 rfl rfl) λa A↦?_
  refine qh (by kernel_rfl) (qn A 2 rfl rfl rfl rfl (qi rfl rfl (fun w => by kernel_rfl)) (ve) ?_)
  rintro _ w15 ⟨rfl, hb14⟩
  replace M := M.call hb14
  refine ⟨_, rfl, (M.sub (cc (List.nil_sublist _))), ?_⟩
  intro a A
  refine qh (by kernel_rfl) (qn A 5 rfl rfl rfl rfl (qi rfl rfl (fun w => by kernel_rfl)) (qkf (h1.below M.bel) l1) ?_)
  rintro _ w16 ⟨rfl, hbl1⟩
  replace M := M.call hbl1
  refine ⟨_, rfl, (M.sub (cc (List.nil_sublist _))), ?_⟩
  intro a A
  refine qh (by kernel_rfl) (qn A 8 rfl rfl rfl rfl (qi rfl rfl (fun w => by kernel_rfl)) (qkf (h2.below M.bel) l2) ?_)
  rintro _ w17 ⟨rfl, hbl2⟩
  replace M := M.call hbl2
  refine ⟨_, rfl, (M.sub (cc (List.nil_sublist _))), ?_⟩
  intro a A
  refine qe A 9 rfl rfl rfl rfl hP (M.sub (cc (List.nil_sublist _))) (fun w1 M => jf rfl) λa A↦?_
  refine ze (by kernel_rfl) ?_
  refine hK13 _ _ (wp_ret (hret _ _ (en1 A rfl (qj rfl) ?_)))
  exact ⟨by rw [show hwF h b t q = hwN (hwN (hw h 0) t) q from by unfold hwF; rw [hc7]; rfl], M.bel⟩
theorem zme {w : World} {y z : Nu} (hy : y.nm w) (hz : z.nm w) (h1 : qyh y.q) (h2 : qyh z.q) : Calls Tryz.prog 115 #[y.val, z.val] w fun e w' => e = .returned (.int .i64 (zjg y.q z.q)) ∧ Below w.heap.size w w' := by
 obtain ⟨q, o1, c1, o2, c2, o3, c3, o4, c4⟩ := y
 obtain ⟨q', p1, d1, p2, d2, p3, d3, p4, d4⟩ := z
 obtain ⟨u, v, rfl, hu, hv⟩ := h1
 obtain ⟨x, y, rfl, hx, hy'⟩ := h2
 refine (qzj hy hz hu hv hx hy').mono fun e w' ⟨h, b⟩ => ⟨h.trans ?_, b⟩
 unfold zjg lex
 rw [ud, ud, qkb, qkb]
end Go.Proofs.YtjlpecapebhgjaaGreatDoor.G
