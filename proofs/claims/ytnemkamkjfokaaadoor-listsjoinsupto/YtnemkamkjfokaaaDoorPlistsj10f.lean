/- A number as it lies in a row of cells. Data as trees: as they lie in memory, and as they are. Steps over data: what is read of a node, and of a list of them. How much a datum holds. The order of data, told on trees: it is one, and 0 for the same trees alone. Where data lie, and rows of data. Steps over rows of any kind, and steps that tell what they keep. Walks of the size of data. The library's contracts, as theorems of this program. Walks of what makes a node sound. Walks of sound data. The library's contracts, as theorems of this program. Rows of words and of bytes that are new. Walks of copies of lists and numbers. Walks of copies of data. Lists of data as they are: linked, taken apart, found. Walks of what is found in a slice of data, and of lists that are taken apart. Walks of lists that are taken apart. A range over a function: steps within a round, and slices.Backward. slices.Backward over data. Items, linked one behind the other. Which lists are sound, and what the calls answer. Walks of the items of lists. Walks of lists that are joined, and of new lists. -/
import Derived.Test.YtnemkamkjfokaaaDoorPlistsj10c
import Derived.Test.YtnemkamkjfokaaaDoorPlistsj10d
import Derived.Test.YtnemkamkjfokaaaDoorPlistsj10e
import Derived.Lib.ValidU
import Derived.Lib.Bytealg
import Derived.Test.YtnemkamkjfokaaaDoorProg
import Derived.Shelf.Small.Utf8
import Derived.Shelf.Small.Bits
import Derived.Shelf.LaysM
import Derived.Shelf.Strconv.Clone
import Derived.Shelf.Unicode.ValidAny
import Derived.RangeFuncNested
import Derived.RangeFuncLeaves
import Derived.LoopNIn
import Derived.Test.YtnemkamkjfokaaaDoorArith
namespace Go.Proofs.YtnemkamkjfokaaaDoor.G
open Go.RowKit
set_option linter.unusedVariables false
set_option linter.unusedSimpArgs false

/-- A number as it lies in a row of cells. -/
structure Nu where
  q : Q6
  o1 : Option Addr
  c1 : Nat
  o2 : Option Addr
  c2 : Nat
  o3 : Option Addr
  c3 : Nat
  o4 : Option Addr
  c4 : Nat
def Nu.nm (w : World) (y : Nu) : Prop := Nm w y.q y.o1 y.c1 y.o2 y.c2 y.o3 y.c3 y.o4 y.c4
theorem Nu.below {w w' : World} {y : Nu} (h : y.nm w) (hb : Below w.heap.size w w') : y.nm w' := ⟨h.s1.below hb, h.s2.below hb, h.s3.below hb, h.s4.below hb⟩
def Nu.val (y : Nu) : Value := quj y.q y.o1 y.c1 y.o2 y.c2 y.o3 y.c3 y.o4 y.c4
theorem xi {P : Program} {w : World} {l : List (Nat × Value)} {dst : Option Tmp} {ty : TypeId} {pos : String} {after : Array Edge} {guard : Option (Nat × Bool)} {x : Operand} {a : Addr} (hx : ev l x = some (.pointer (some a))) : Does P l ⟨dst, .nilCheck x, ty, pos, after, guard⟩ w (.pointer (some a)) w := fun ρ h => by
  simp only [execOp, h x _ hx, Sem.run_pure]
/-- A node, but for what is below it. -/
structure Nd where
  k : Int
  n : Int
  y : Nu
  s : ByteArray
  ro : Option Addr
  rc : Nat
  rl : List UInt8
  lo : Option Addr
  lc : Nat
/-- A datum as it lies in memory. -/
inductive Dt where
  | mk (d : Nd) (ts : List Dt)
def Dt.d : Dt → Nd
  | .mk d _ => d
def Dt.ts : Dt → List Dt
  | .mk _ ts => ts
def Nd.cells (d : Nd) (m : Nat) : List Value := [.int .i64 d.k, .int .i64 d.n, .bool d.y.q.b1, .slice d.y.o1 d.y.q.t1.length d.y.c1, .slice d.y.o2 d.y.q.q1.length d.y.c2, .bool d.y.q.b2, .slice d.y.o3 d.y.q.t2.length d.y.c3, .slice d.y.o4 d.y.q.q2.length d.y.c4, .string d.s, .slice d.ro d.rl.length d.rc, .slice d.lo m d.lc]
def Dt.cells (t : Dt) : List Value := t.d.cells t.ts.length
/-- A datum as it is. -/
inductive Tr where
  | mk (k n : Int) (q : Q6) (s : ByteArray) (rl : List UInt8) (ts : List Tr)
def Tr.k : Tr → Int
  | .mk k _ _ _ _ _ => k
def Tr.n : Tr → Int
  | .mk _ n _ _ _ _ => n
def Tr.q : Tr → Q6
  | .mk _ _ q _ _ _ => q
def Tr.s : Tr → ByteArray
  | .mk _ _ _ s _ _ => s
def Tr.rl : Tr → List UInt8
  | .mk _ _ _ _ r _ => r
def Tr.ts : Tr → List Tr
  | .mk _ _ _ _ _ ts => ts
mutual
def Dt.tr : Dt → Tr
  | .mk d ts => .mk d.k d.n d.y.q d.s d.rl (Dt.trs ts)
def Dt.trs : List Dt → List Tr
  | [] => []
  | t :: ts => t.tr :: Dt.trs ts
end
theorem Dt.trs_map : ∀ ts : List Dt, Dt.trs ts = ts.map Dt.tr
  | [] => by simp [Dt.trs]
  | t :: ts => by simp [Dt.trs, Dt.trs_map ts]
mutual
theorem Dt.indT {P : Dt → Prop} (h : ∀ d ts, (∀ t ∈ ts, P t) → P (.mk d ts)) : ∀ t, P t
  | .mk d ts => h d ts (Dt.indL h ts)
theorem Dt.indL {P : Dt → Prop} (h : ∀ d ts, (∀ t ∈ ts, P t) → P (.mk d ts)) : ∀ ts : List Dt, ∀ t ∈ ts, P t
  | [], t, ht => by cases ht
  | u :: us, t, ht => by
    rcases List.mem_cons.1 ht with e | e
    · rw [e]; exact Dt.indT h u
    · exact Dt.indL h us t e
end
mutual
theorem Tr.indT {P : Tr → Prop} (h : ∀ k n q s rl ts, (∀ t ∈ ts, P t) → P (.mk k n q s rl ts)) : ∀ t, P t
  | .mk k n q s rl ts => h k n q s rl ts (Tr.indL h ts)
theorem Tr.indL {P : Tr → Prop} (h : ∀ k n q s rl ts, (∀ t ∈ ts, P t) → P (.mk k n q s rl ts)) : ∀ ts : List Tr, ∀ t ∈ ts, P t
  | [], t, ht => by cases ht
  | u :: us, t, ht => by
    rcases List.mem_cons.1 ht with e | e
    · rw [e]; exact Tr.indT h u
    · exact Tr.indL h us t e
end
/-- These cells stand there. -/
def Here (w : World) (b o : Nat) (cs : List Value) : Prop := b < w.heap.size ∧ ∀ j v, cs[j]? = some v → w.cell? ⟨b, o + j, none⟩ = some v
theorem Here.below {w w' : World} {b o : Nat} {cs : List Value} (h : Here w b o cs) (hb : Below w.heap.size w w') : Here w' b o cs := ⟨Nat.lt_of_lt_of_le h.1 hb.size, fun j v hj => (hb.cell h.1).trans (h.2 j v hj)⟩
/-- A slice reads as these data, one behind the other. -/
def Rt (w : World) (lo : Option Addr) (ts : List Dt) : Prop := ts ≠ [] → ∃ b o, lo = some ⟨b, o, none⟩ ∧ ∀ i t, ts[i]? = some t → Here w b (o + i * 11) t.cells
theorem Rt.below {w w' : World} {lo : Option Addr} {ts : List Dt} (h : Rt w lo ts) (hb : Below w.heap.size w w') : Rt w' lo ts := fun hne => by
  obtain ⟨b, o, e, h2⟩ := h hne
  exact ⟨b, o, e, fun i t hi => (h2 i t hi).below hb⟩
structure NdOk (w : World) (d : Nd) : Prop where
  num : d.y.nm w
  len : LenQ d.y.q
  raw : Rb w d.ro d.rl
  rcap : d.rl.length ≤ d.rc
  rmax : d.rc ≤ 9223372036854775807
  k0 : -9223372036854775808 ≤ d.k
  k1 : d.k ≤ 9223372036854775807
  n0 : -9223372036854775808 ≤ d.n
  n1 : d.n ≤ 9223372036854775807
  smax : d.s.size ≤ 9223372036854775807
theorem NdOk.below {w w' : World} {d : Nd} (h : NdOk w d) (hb : Below w.heap.size w w') : NdOk w' d := { h with num := Nu.below h.num hb, raw := h.raw.below hb }
mutual
/-- A datum reads so. -/
def Dt.rd (w : World) : Dt → Prop
  | .mk d ts => NdOk w d ∧ ts.length ≤ d.lc ∧ d.lc ≤ 9223372036854775807 ∧ Rt w d.lo ts ∧ Dt.rds w ts
def Dt.rds (w : World) : List Dt → Prop
  | [] => True
  | t :: ts => t.rd w ∧ Dt.rds w ts
end
theorem Dt.rds_iff {w : World} : ∀ {ts : List Dt}, Dt.rds w ts ↔ ∀ t ∈ ts, t.rd w
  | [] => by simp [Dt.rds]
  | t :: ts => by simp [Dt.rds, Dt.rds_iff (ts := ts)]
theorem Dt.rd_iff {w : World} {d : Nd} {ts : List Dt} : (Dt.mk d ts).rd w ↔ NdOk w d ∧ ts.length ≤ d.lc ∧ d.lc ≤ 9223372036854775807 ∧ Rt w d.lo ts ∧ ∀ t ∈ ts, t.rd w := by
  rw [← Dt.rds_iff]; unfold Dt.rd; exact Iff.rfl
theorem Dt.keep {w w' : World} (hb : Below w.heap.size w w') : ∀ t : Dt, t.rd w → t.rd w' :=
  Dt.indT fun d ts ih h => by
    rw [Dt.rd_iff] at h ⊢
    exact ⟨h.1.below hb, h.2.1, h.2.2.1, h.2.2.2.1.below hb, fun t ht => ih t ht (h.2.2.2.2 t ht)⟩
theorem Dt.tr_mk (d : Nd) (ts : List Dt) : (Dt.mk d ts).tr = .mk d.k d.n d.y.q d.s d.rl (ts.map Dt.tr) := by rw [Dt.tr, Dt.trs_map]
/-! ### Sound data -/
mutual
/-- How many nodes are left, and whether it was within the limits. -/
def zu (dp left : Int) : Tr → Bool × Int
  | .mk k _ _ _ _ ts => if left - 1 < 0 ∨ 200 < dp then (false, left - 1) else vq dp (decide (k = 8)) 0 (left - 1) ts
def vq (dp : Int) (pr : Bool) (i : Nat) (left : Int) : List Tr → Bool × Int
  | [] => (true, left)
  | t :: ts => if (zu (if pr = true ∧ i = 1 then dp else dp + 1) left t).1 = true then vq dp pr (i + 1) (zu (if pr = true ∧ i = 1 then dp else dp + 1) left t).2 ts else (false, (zu (if pr = true ∧ i = 1 then dp else dp + 1) left t).2)
end
mutual
/-- Is each node so? -/
def jt (p : Tr → Bool) : Tr → Bool
  | .mk k n q s rl ts => p (.mk k n q s rl ts) && yg p ts
def yg (p : Tr → Bool) : List Tr → Bool
  | [] => true
  | t :: ts => jt p t && yg p ts
end
theorem qaa : ∀ t : Tr, ∀ dp left : Int, (zu dp left t).1 = true → 0 ≤ (zu dp left t).2 := by
  refine Tr.indT fun k n q s rl ts ih dp left h => ?_
  rw [zu] at h ⊢
  by_cases hc : left - 1 < 0 ∨ 200 < dp
  · rw [if_pos hc] at h; cases h
  · rw [if_neg hc] at h ⊢
    have hl : 0 ≤ left - 1 := by omega
    generalize left - 1 = m at h hl ⊢
    generalize decide (k = 8) = pr at h ⊢
    have key : ∀ (us : List Tr), (∀ t ∈ us, ∀ dp left : Int, (zu dp left t).1 = true → 0 ≤ (zu dp left t).2) → ∀ (i : Nat) (m : Int), 0 ≤ m → (vq dp pr i m us).1 = true → 0 ≤ (vq dp pr i m us).2 := by
      intro us
      induction us with
      | nil => intro _ i m hm _; exact hm
      | cons t us ih2 =>
        intro hu i m hm h
        rw [vq] at h ⊢
        by_cases ht : (zu (if pr = true ∧ i = 1 then dp else dp + 1) m t).1 = true
        · rw [if_pos ht] at h ⊢
          exact ih2 (fun x hx => hu x (List.mem_cons_of_mem _ hx)) _ _ (hu t List.mem_cons_self _ _ ht) h
        · rw [if_neg ht] at h; cases h
    exact key ts ih 0 m hl h
/-- Within the limits, and sound at each node. -/
def qp (p : Tr → Bool) (t : Tr) : Bool := (zu 1 20000 t).1 && jt p t
section
variable {P : Program} {w0 w : World} {L : List Ck} {l : List (Nat × Value)} {dst : Option Tmp} {ty : TypeId} {pos : String} {after : Array Edge} {guard : Option (Nat × Bool)} {v : Value}
theorem kw (hM : Mg w0 w L) {b o o' j : Nat} {cs : List Value} (hH : Here w0 b o cs) {t : TypeId} (ht : Is1 P t) {x : Operand} (hx : ev l x = some (.pointer (some ⟨b, o', none⟩))) (ho : o' = o + j) (hv : cs[j]? = some v) : Does P l ⟨dst, .load t x, ty, pos, after, guard⟩ w v w := by
  subst ho
  exact jc hx (xg ht ((hM.bel.cell hH.1).trans (hH.2 j v hv)))
theorem zd (hM : Mg w0 w L) {b o n : Nat} {cs : List Value} (hH : Here w0 b o cs) {t : TypeId} (ht : IsS P t n) {x : Operand} (hx : ev l x = some (.pointer (some ⟨b, o, none⟩))) (hl : cs.length = n) : Does P l ⟨dst, .load t x, ty, pos, after, guard⟩ w (.agg cs.toArray) w :=
  jc hx (xf ht cs hl (fun j v hj => (hM.bel.cell hH.1).trans (hH.2 j v hj)))
theorem zp {t e : TypeId} {sz : Nat} (hu : P.underlying t = some (.slice e)) (he : (P.info? e).map (·.size) = some sz) {x i : Operand} {so : Option Addr} {g off n c k : Nat} {z : Int} (hx : ev l x = some (.slice so n c)) (hi : ev l i = some (.int .i64 z)) (hz : z = (k : Nat)) (hso : so = some ⟨g, off, none⟩) (hk : k < n) :
    Does P l ⟨dst, .indexAddr t x i, ty, pos, after, guard⟩ w (.pointer (some ⟨g, off + k * sz, none⟩)) w := by
  subst hz hso
  exact vd (l := l) (dst := dst) (ty := ty) (pos := pos) (after := after) (guard := guard) (w := w) hx hi (qaj hu he hk)
end
/-- A child of a node. -/
theorem kid {w : World} {d : Nd} {ts : List Dt} (h : (Dt.mk d ts).rd w) {i : Nat} (hi : i < ts.length) : ∃ t b o, ts[i]? = some t ∧ t ∈ ts ∧ t.rd w ∧ d.lo = some ⟨b, o, none⟩ ∧ Here w b (o + i * 11) t.cells := by
  rw [Dt.rd_iff] at h
  have hne : ts ≠ [] := fun e => by subst e; simp at hi
  obtain ⟨b, o, e, h2⟩ := h.2.2.2.1 hne
  have ht := List.getElem?_eq_getElem hi
  exact ⟨ts[i], b, o, ht, List.getElem_mem hi, h.2.2.2.2 _ (List.getElem_mem hi), e, h2 i _ ht⟩
theorem ks {ts : List Dt} {i : Nat} {t : Dt} (h : ts[i]? = some t) : (ts.map Dt.tr).drop i = t.tr :: (ts.map Dt.tr).drop (i + 1) := by
  obtain ⟨hi, rfl⟩ := List.getElem?_eq_some_iff.1 h
  rw [List.drop_eq_getElem_cons (by simpa using hi)]
  simp
theorem ug {ts : List Dt} {i : Nat} (h : ¬ i < ts.length) : (ts.map Dt.tr).drop i = [] := List.drop_of_length_le (by simp; omega)
theorem qlb : ∀ t : Tr, ∀ dp left : Int, (zu dp left t).2 ≤ left := by
  refine Tr.indT fun k n q s rl ts ih dp left => ?_
  rw [zu]
  split
  · show left - 1 ≤ left; omega
  · have key : ∀ (us : List Tr), (∀ t ∈ us, ∀ dp left : Int, (zu dp left t).2 ≤ left) → ∀ (i : Nat) (m : Int), (vq dp (decide (k = 8)) i m us).2 ≤ m := by
      intro us
      induction us with
      | nil => intro _ i m; exact Int.le_refl _
      | cons t us ih2 =>
        intro hu i m
        rw [vq]
        generalize (if decide (k = 8) = true ∧ i = 1 then dp else dp + 1) = D
        have h1 := hu t List.mem_cons_self D m
        split
        · exact Int.le_trans (ih2 (fun x hx => hu x (List.mem_cons_of_mem _ hx)) _ _) h1
        · exact h1
    have := key ts ih 0 (left - 1)
    omega
theorem qfc {dp m D : Int} {pr : Bool} {i : Nat} {ts : List Dt} {t : Dt} (hi : ts[i]? = some t) (hD : (if pr = true ∧ i = 1 then dp else dp + 1) = D) (h : (zu D m t.tr).1 = true) : vq dp pr i m ((ts.map Dt.tr).drop i) = vq dp pr (i + 1) (zu D m t.tr).2 ((ts.map Dt.tr).drop (i + 1)) := by
  rw [ks hi, vq, hD, if_pos h]
theorem uh {dp m D : Int} {pr : Bool} {i : Nat} {ts : List Dt} {t : Dt} (hi : ts[i]? = some t) (hD : (if pr = true ∧ i = 1 then dp else dp + 1) = D) (h : (zu D m t.tr).1 = false) : vq dp pr i m ((ts.map Dt.tr).drop i) = (false, (zu D m t.tr).2) := by
  rw [ks hi, vq, hD, if_neg (by rw [h]; decide)]
theorem qab {dp left : Int} {d : Nd} {ts : List Dt} (h1 : ¬ left - 1 < 0) (h2 : ¬ 200 < dp) : zu dp left (Dt.mk d ts).tr = vq dp (decide (d.k = 8)) 0 (left - 1) ((ts.map Dt.tr).drop 0) := by
  rw [Dt.tr_mk, zu, if_neg (by omega), List.drop_zero]
theorem qnc {dp left : Int} {d : Nd} {ts : List Dt} (h : left - 1 < 0 ∨ 200 < dp) : zu dp left (Dt.mk d ts).tr = (false, left - 1) := by
  rw [Dt.tr_mk, zu, if_pos h]
theorem qfd {p : Tr → Bool} {d : Nd} {ts : List Dt} : jt p (Dt.mk d ts).tr = (p (Dt.mk d ts).tr && yg p ((ts.map Dt.tr).drop 0)) := by
  rw [Dt.tr_mk, jt, List.drop_zero]
theorem qnd {p : Tr → Bool} {i : Nat} {ts : List Dt} {t : Dt} (hi : ts[i]? = some t) : yg p ((ts.map Dt.tr).drop i) = (jt p t.tr && yg p ((ts.map Dt.tr).drop (i + 1))) := by
  rw [ks hi, yg]
/-- A fraction without words. -/
def qba (b : Bool) (m m' : Nat) : Bool := !b && (decide (m = 0) && decide (m' = 0))
/-- Nothing beside the kind. -/
def xj (n : Int) (b1 : Bool) (m1 m2 : Nat) (b2 : Bool) (m3 m4 : Nat) (s : ByteArray) (mr ml : Nat) : Bool := decide (n = 0) && (qba b1 m1 m2 && (qba b2 m3 m4 && (decide (s = ⟨#[]⟩) && (decide (mr = 0) && decide (ml = 0)))))
def qfe (n : Int) : Bool := decide (0 ≤ n ∧ n ≤ 1114111 ∧ (n < 55296 ∨ 57343 < n))
/-- A text of characters. -/
def okS (s : ByteArray) : Bool := Lib.validD s.data.toList
/-- Sound by its kind. -/
def zw (k n : Int) (q : Q6) (s : ByteArray) (mr ml : Nat) : Bool :=
  if k = 1 ∨ k = 10 then xj n q.b1 q.t1.length q.q1.length q.b2 q.t2.length q.q2.length s mr ml
  else if k = 2 then decide (n = 0 ∨ n = 1) && xj 0 q.b1 q.t1.length q.q1.length q.b2 q.t2.length q.q2.length s mr ml
  else if k = 3 then qla q && xj n false 0 0 false 0 0 s mr ml
  else if k = 4 then qfe n && xj 0 q.b1 q.t1.length q.q1.length q.b2 q.t2.length q.q2.length s mr ml
  else if k = 5 ∨ k = 6 ∨ k = 11 then okS s && xj n q.b1 q.t1.length q.q1.length q.b2 q.t2.length q.q2.length ⟨#[]⟩ mr ml
  else if k = 7 then xj n q.b1 q.t1.length q.q1.length q.b2 q.t2.length q.q2.length s 0 ml
  else if k = 8 then decide (ml = 2) && xj n q.b1 q.t1.length q.q1.length q.b2 q.t2.length q.q2.length s mr 0
  else if k = 9 then xj n q.b1 q.t1.length q.q1.length q.b2 q.t2.length q.q2.length s mr 0
  else false
def qg : Tr → Bool
  | .mk k n q s rl ts => zw k n q s rl.length ts.length
theorem ui {d : Nd} {ts : List Dt} : qg (Dt.mk d ts).tr = zw d.k d.n d.y.q d.s d.rl.length ts.length := by
  rw [Dt.tr_mk, qg, List.length_map]
mutual
/-- How much a datum holds. -/
def Tr.bulk : Tr → Nat
  | .mk _ _ q s rl ts => s.size + rl.length + (q.t1.length + q.q1.length + (q.t2.length + q.q2.length)) + 1 + Tr.bulks ts
def Tr.bulks : List Tr → Nat
  | [] => 0
  | t :: ts => t.bulk + Tr.bulks ts
end
theorem xu {k n : Int} {q : Q6} {s : ByteArray} {rl : List UInt8} {ts : List Tr} : (Tr.mk k n q s rl ts).bulk = s.size + rl.length + (q.t1.length + q.q1.length + (q.t2.length + q.q2.length)) + 1 + Tr.bulks ts := by rw [Tr.bulk]
theorem uj : ∀ {ts : List Tr} {t : Tr}, t ∈ ts → t.bulk ≤ Tr.bulks ts
  | u :: us, t, h => by
    rw [Tr.bulks]
    rcases List.mem_cons.1 h with e | e
    · subst e; omega
    · have := uj e; omega
theorem qrj {d : Nd} {ts : List Dt} {t : Dt} (h : t ∈ ts) : t.tr.bulk + d.s.size + 1 ≤ (Dt.mk d ts).tr.bulk := by
  rw [Dt.tr_mk, xu]
  have := uj (List.mem_map_of_mem (f := Dt.tr) h)
  omega
open Go.RowKit Go.Lib
/-! ### The order of trees -/
/-! ### The same trees -/
def Q6.none : Q6 := ⟨false, [], [], false, [], []⟩
/-! ### Trees as they lie in memory -/
theorem Dt.eta (t : Dt) : Dt.mk t.d t.ts = t := by cases t; rfl
theorem Dt.tr_eta (t : Dt) : t.tr = .mk t.d.k t.d.n t.d.y.q t.d.s t.d.rl (t.ts.map Dt.tr) := by rw [← Dt.tr_mk, Dt.eta]
theorem qpa {w : World} {t : Dt} (h : t.rd w) {i : Nat} (hi : i < t.ts.length) : ∃ t1 b o, t.ts[i]? = some t1 ∧ t1 ∈ t.ts ∧ t1.rd w ∧ t.d.lo = some ⟨b, o, none⟩ ∧ Here w b (o + i * 11) (t1.d.cells t1.ts.length) := kid (d := t.d) (by rw [Dt.eta]; exact h) hi
theorem Dt.okT {w : World} {t : Dt} (h : t.rd w) : NdOk w t.d ∧ t.ts.length ≤ 9223372036854775807 := by
  rw [← Dt.eta t, Dt.rd_iff] at h
  exact ⟨h.1, Nat.le_trans h.2.1 h.2.2.1⟩
theorem qne {t c : Dt} (h : c ∈ t.ts) : c.tr.bulk + t.d.s.size + 1 ≤ t.tr.bulk := by
  have := qrj (d := t.d) h
  rwa [Dt.eta] at this
/-! ### The law -/
/-! ### The hash -/
/-- A slice that has something lies in a block of p. -/
def In {α : Type} (p : Nat → Prop) (so : Option Addr) (l : List α) : Prop := l ≠ [] → ∀ b o, so = some ⟨b, o, none⟩ → p b
theorem In.mono {α : Type} {p q : Nat → Prop} {so : Option Addr} {l : List α} (h : In p so l) (hp : ∀ b, p b → q b) : In q so l := fun hne b o e => hp b (h hne b o e)
structure Nd.at_ (p : Nat → Prop) (d : Nd) : Prop where
  i1 : In p d.y.o1 d.y.q.t1
  i2 : In p d.y.o2 d.y.q.q1
  i3 : In p d.y.o3 d.y.q.t2
  i4 : In p d.y.o4 d.y.q.q2
  i5 : In p d.ro d.rl
mutual
/-- All memory of a datum lies in blocks of p. -/
def Dt.at_ (p : Nat → Prop) : Dt → Prop
  | .mk d ts => d.at_ p ∧ In p d.lo ts ∧ Dt.ats p ts
def Dt.ats (p : Nat → Prop) : List Dt → Prop
  | [] => True
  | t :: ts => t.at_ p ∧ Dt.ats p ts
end
theorem Dt.ats_iff {p : Nat → Prop} : ∀ {ts : List Dt}, Dt.ats p ts ↔ ∀ t ∈ ts, t.at_ p
  | [] => by simp [Dt.ats]
  | t :: ts => by simp [Dt.ats, Dt.ats_iff (ts := ts)]
theorem Dt.at_iff {p : Nat → Prop} {d : Nd} {ts : List Dt} : (Dt.mk d ts).at_ p ↔ d.at_ p ∧ In p d.lo ts ∧ ∀ t ∈ ts, t.at_ p := by
  rw [← Dt.ats_iff]; unfold Dt.at_; exact Iff.rfl
theorem Nd.at_mono {p q : Nat → Prop} {d : Nd} (h : d.at_ p) (hp : ∀ b, p b → q b) : d.at_ q := ⟨h.i1.mono hp, h.i2.mono hp, h.i3.mono hp, h.i4.mono hp, h.i5.mono hp⟩
theorem Dt.at_mono {p q : Nat → Prop} (hp : ∀ b, p b → q b) : ∀ t : Dt, t.at_ p → t.at_ q :=
  Dt.indT fun d ts ih h => by
    rw [Dt.at_iff] at h ⊢
    exact ⟨Nd.at_mono h.1 hp, h.2.1.mono hp, fun t ht => ih t ht (h.2.2 t ht)⟩
/-- The cells of these blocks are kept. -/
def Kept (p : Nat → Prop) (w w' : World) : Prop := w.heap.size ≤ w'.heap.size ∧ ∀ b i v, p b → w.cell? ⟨b, i, none⟩ = some v → w'.cell? ⟨b, i, none⟩ = some v
theorem qvd {p : Nat → Prop} {w w' : World} {so : Option Addr} {l : List Nat} (h : Rd w so l) (hi : In p so l) (hk : Kept p w w') : Rd w' so l := by
  refine ⟨h.dig, fun hne => ?_⟩
  obtain ⟨b, off, h1, h2, h3⟩ := h.pos hne
  exact ⟨b, off, h1, Nat.lt_of_lt_of_le h2 hk.1, fun j hj => hk.2 _ _ _ (hi hne _ _ h1) (h3 j hj)⟩
theorem qnf {p : Nat → Prop} {w w' : World} {so : Option Addr} {l : List UInt8} (h : Rb w so l) (hi : In p so l) (hk : Kept p w w') : Rb w' so l := by
  refine ⟨fun hne => ?_⟩
  obtain ⟨b, off, h1, h2, h3⟩ := h.pos hne
  exact ⟨b, off, h1, Nat.lt_of_lt_of_le h2 hk.1, fun j hj => hk.2 _ _ _ (hi hne _ _ h1) (h3 j hj)⟩
theorem va {p : Nat → Prop} {w w' : World} {so : Option Addr} {c : Nat} {l : List Nat} (h : Sc w so c l) (hi : In p so l) (hk : Kept p w w') : Sc w' so c l := ⟨qvd h.rd hi hk, h.nil, h.cap⟩
theorem NdOk.kept {p : Nat → Prop} {w w' : World} {d : Nd} (h : NdOk w d) (hi : d.at_ p) (hk : Kept p w w') : NdOk w' d := { h with num := ⟨va h.num.s1 hi.i1 hk, va h.num.s2 hi.i2 hk, va h.num.s3 hi.i3 hk, va h.num.s4 hi.i4 hk⟩, raw := qnf h.raw hi.i5 hk }
theorem Rt.kept {p : Nat → Prop} {w w' : World} {lo : Option Addr} {ts : List Dt} (h : Rt w lo ts) (hi : In p lo ts) (hk : Kept p w w') : Rt w' lo ts := fun hne => by
  obtain ⟨b, o, e, h2⟩ := h hne
  exact ⟨b, o, e, fun i t hi' => ⟨Nat.lt_of_lt_of_le (h2 i t hi').1 hk.1, fun j v hj => hk.2 _ _ _ (hi hne _ _ e) ((h2 i t hi').2 j v hj)⟩⟩
/-- Where all its memory is kept, a datum km. -/
theorem Dt.kept {p : Nat → Prop} {w w' : World} (hk : Kept p w w') : ∀ t : Dt, t.rd w → t.at_ p → t.rd w' :=
  Dt.indT fun d ts ih h hi => by
    rw [Dt.rd_iff] at h ⊢
    rw [Dt.at_iff] at hi
    exact ⟨h.1.kept hi.1 hk, h.2.1, h.2.2.1, h.2.2.2.1.kept hi.2.1 hk, fun t ht => ih t ht (h.2.2.2.2 t ht) (hi.2.2 t ht)⟩
theorem kx {w : World} {so : Option Addr} {l : List Nat} (h : Rd w so l) : In (· < w.heap.size) so l := fun hne b o e => by
  obtain ⟨b', off, h1, h2, _⟩ := h.pos hne
  rw [h1] at e; cases e; exact h2
theorem qlc {w : World} {so : Option Addr} {l : List UInt8} (h : Rb w so l) : In (· < w.heap.size) so l := fun hne b o e => by
  obtain ⟨b', off, h1, h2, _⟩ := h.pos hne
  rw [h1] at e; cases e; exact h2
theorem qpb {w : World} {lo : Option Addr} {ts : List Dt} (h : Rt w lo ts) : In (· < w.heap.size) lo ts := fun hne b o e => by
  obtain ⟨b', o', h1, h2⟩ := h hne
  rw [h1] at e; cases e
  cases ts with
  | nil => exact absurd rfl hne
  | cons t ts => exact (h2 0 t rfl).1
/-- What is there lies in what there is. -/
theorem Dt.at_lt {w : World} : ∀ t : Dt, t.rd w → t.at_ (· < w.heap.size) :=
  Dt.indT fun d ts ih h => by
    rw [Dt.rd_iff] at h
    rw [Dt.at_iff]
    exact ⟨⟨kx h.1.num.s1.rd, kx h.1.num.s2.rd, kx h.1.num.s3.rd, kx h.1.num.s4.rd, qlc h.1.raw⟩, qpb h.2.2.2.1, fun t ht => ih t ht (h.2.2.2.2 t ht)⟩
theorem Kept.trans {p : Nat → Prop} {w w' w'' : World} (h : Kept p w w') (k : Kept p w' w'') : Kept p w w'' := ⟨Nat.le_trans h.1 k.1, fun b i v hb hc => k.2 b i v hb (h.2 b i v hb hc)⟩
theorem Kept.mono {p q : Nat → Prop} {w w' : World} (h : Kept p w w') (hq : ∀ b, q b → p b) : Kept q w w' := ⟨h.1, fun b i v hb hc => h.2 b i v (hq b hb) hc⟩
theorem vv (w : World) (g o : Nat) (cs : List Value) : Kept (· ≠ g) w (w.setCells g o cs) := by
  induction cs generalizing w o with
  | nil => exact ⟨Nat.le_refl _, fun _ _ _ _ h => h⟩
  | cons c cs ih =>
    refine Kept.trans ⟨by simp, fun b i v hb hc => ?_⟩ (ih (w.setCell ⟨g, o, none⟩ c) (o + 1))
    have : (w.setCell ⟨g, o, none⟩ c).cell? ⟨b, i, none⟩ = w.cell? ⟨b, i, none⟩ := by
      unfold World.cell?
      rw [Below.heap_setCell w ⟨g, o, none⟩ c b hb]
    rw [this]; exact hc
/-! ### Rows of data -/
def cellsOf (ts : List Dt) : List Value := ts.flatMap Dt.cells
theorem xv (t : Dt) : t.cells.length = 11 := rfl
theorem xk : ∀ ts : List Dt, (cellsOf ts).length = ts.length * 11
  | [] => rfl
  | t :: ts => by
    have := xk ts
    unfold cellsOf at this ⊢
    rw [List.flatMap_cons, List.length_append, xv, this, List.length_cons]; omega
theorem xr (a b : List Dt) : cellsOf (a ++ b) = cellsOf a ++ cellsOf b := List.flatMap_append
theorem qic (t : Dt) : cellsOf [t] = t.cells := by unfold cellsOf; rw [List.flatMap_singleton]
theorem ke : ∀ (ts : List Dt) (i : Nat), (cellsOf ts).drop (i * 11) = cellsOf (ts.drop i)
  | ts, 0 => by rw [Nat.zero_mul]; rfl
  | [], i + 1 => by simp [cellsOf]
  | t :: ts, i + 1 => by
    have := ke ts i
    rw [List.drop_succ_cons, ← this]
    unfold cellsOf
    rw [List.flatMap_cons, show (i + 1) * 11 = t.cells.length + i * 11 by rw [xv]; omega, List.drop_append, List.drop_of_length_le (by omega), Nat.add_sub_cancel_left, List.nil_append]
theorem yt : ∀ (ts : List Dt) (i : Nat), (cellsOf ts).take (i * 11) = cellsOf (ts.take i)
  | ts, 0 => by rw [Nat.zero_mul]; rfl
  | [], i + 1 => by simp [cellsOf]
  | t :: ts, i + 1 => by
    have := yt ts i
    rw [List.take_succ_cons]
    unfold cellsOf at this ⊢
    rw [List.flatMap_cons, List.flatMap_cons, show (i + 1) * 11 = t.cells.length + i * 11 by rw [xv]; omega, List.take_length_add_append, this]
theorem xe {ts : List Dt} {i : Nat} {t : Dt} (h : ts[i]? = some t) : ((cellsOf ts).drop (i * 11)).take 11 = t.cells := by
  obtain ⟨hi, rfl⟩ := List.getElem?_eq_some_iff.1 h
  rw [ke, List.drop_eq_getElem_cons hi]
  unfold cellsOf
  rw [List.flatMap_cons, show 11 = (ts[i]).cells.length from rfl, List.take_left]
theorem yu {ts : List Dt} {i j : Nat} {t : Dt} {v : Value} (h : ts[i]? = some t) (hj : t.cells[j]? = some v) : (cellsOf ts)[i * 11 + j]? = some v := by
  have hlt : j < 11 := by have := (List.getElem?_eq_some_iff.1 hj).1; rwa [xv] at this
  rw [← xe h, List.getElem?_take, if_pos hlt, List.getElem?_drop] at hj
  exact hj
theorem qid {ts : List Dt} {i : Nat} (t : Dt) (h : i < ts.length) : over (cellsOf ts) (i * 11) t.cells = cellsOf (ts.set i t) := by
  rw [qvc (by rw [xk, xv]; omega), xv, show i * 11 + 11 = (i + 1) * 11 by omega, ke, yt, List.set_eq_take_append_cons_drop, if_pos h, xr]
  rw [show t :: ts.drop (i + 1) = [t] ++ ts.drop (i + 1) from rfl, xr, qic, List.append_assoc]
theorem xw {w : World} {B : Nat} {e : TypeId} {so : Option Addr} {n cap : Nat} {ts : List Dt} (h : w.ownsRow B e 11 (.slice so n cap) n (cellsOf ts)) : Rt w so ts ∧ n = ts.length ∧ n ≤ cap ∧ cap ≤ 9223372036854775807 := by
  have hn : n = ts.length := by have := h.1; rw [xk] at this; omega
  refine ⟨fun hne => ?_, hn, ?_⟩
  · rcases h.2 with ⟨e1, e2⟩ | ⟨g, cap', cur, e1, hg, hc, h1, h2, h3, h4⟩
    · subst e2; exact absurd (List.length_eq_zero_iff.1 hn.symm) hne
    · cases e1
      refine ⟨g, 0, rfl, fun i t hi => ⟨(Array.getElem?_eq_some_iff.1 hc).1, fun j v hj => ?_⟩⟩
      have hlt : j < 11 := by have := (List.getElem?_eq_some_iff.1 hj).1; rwa [xv] at this
      have hil := (List.getElem?_eq_some_iff.1 hi).1
      have h5 := yu hi hj
      rw [← h4, List.getElem?_take, if_pos (by omega)] at h5
      rw [show (⟨g, 0 + i * 11 + j, none⟩ : Addr) = ⟨g, i * 11 + j, none⟩ by rw [Nat.zero_add], cell_of_row w g _ cur e (0, 0) hc]
      simpa using h5
  · rcases h.2 with ⟨e1, e2⟩ | ⟨g, cap', cur, e1, hg, hc, h1, h2, h3, h4⟩
    · cases e1; exact ⟨Nat.le_refl _, by omega⟩
    · cases e1; refine ⟨h1, Nat.le_trans h2 ?_⟩; decide
section
variable {P : Program} {w0 w : World} {L : List Ck} {l : List (Nat × Value)} {dst : Option Tmp} {ty : TypeId} {pos : String} {after : Array Edge} {guard : Option (Nat × Bool)} {v : Value}
/-- A slice reads as these cells, so many elements. -/
def Rc (w : World) (so : Option Addr) (cs : List Value) : Prop := cs ≠ [] → ∃ b off, so = some ⟨b, off, none⟩ ∧ ∀ p u, cs[p]? = some u → w.cell? ⟨b, off + p, none⟩ = some u
theorem Rc.below {w w' : World} {so : Option Addr} {cs : List Value} (h : Rc w so cs) (hb : Below w.heap.size w w') : Rc w' so cs := fun hne => by
  obtain ⟨b, off, e, h2⟩ := h hne
  exact ⟨b, off, e, fun p u hp => (hb.cell (cell_lt (h2 p u hp))).trans (h2 p u hp)⟩
theorem qxj {w : World} {so : Option Addr} {ts : List Dt} (h : Rt w so ts) : Rc w so (cellsOf ts) := fun hne => by
  obtain ⟨b, o, e, h2⟩ := h (fun k => hne (by rw [k]; rfl))
  refine ⟨b, o, e, fun p u hp => ?_⟩
  have hlt : p < ts.length * 11 := by have := (List.getElem?_eq_some_iff.1 hp).1; rwa [xk] at this
  have hi : p / 11 < ts.length := by omega
  have ht := List.getElem?_eq_getElem hi
  have hp2 : p = p / 11 * 11 + p % 11 := by omega
  have h3 := (h2 (p / 11) _ ht).2 (p % 11) u (by
    have h4 := xe ht
    rw [← h4, List.getElem?_take, if_pos (by omega), List.getElem?_drop, ← hp2]; exact hp)
  rw [show o + p = o + p / 11 * 11 + p % 11 by omega]; exact h3
theorem qsa {w : World} {B : Nat} {e : TypeId} {sz n cap : Nat} {so : Option Addr} {xs : List Value} (h : w.ownsRow B e sz (.slice so n cap) n xs) : Rc w so xs := fun hne => by
  rcases h.2 with ⟨e1, e2⟩ | ⟨g, cap', cur, e1, hg, hc, h1, h2, h3, h4⟩
  · subst e2; exact absurd (List.length_eq_zero_iff.1 (by rw [h.1]; simp)) hne
  · cases e1
    exact ⟨g, 0, rfl, fun p u hp => by rw [Nat.zero_add, World.ownsRow.cellAt h p (by have := (List.getElem?_eq_some_iff.1 hp).1; rw [h.1] at this; exact this)]; exact hp⟩
theorem qbb {e t : TypeId} {sz by_ : Nat} {z : Value} {x y : Operand} (ht : P.underlying t = some (.slice e)) (hinfo : (P.info? e).map (fun i => (i.zero, i.size, i.bytes)) = some (some z, sz, by_)) (hzc : z.cells.size = sz) (hsz : Nat.ble 1 sz = true) (hby : Nat.ble by_ 1000 = true) (hM : Mg w0 w L) (k : Nat) {q : Nat} {xs : List Value} (hk : L[k]? = some (.row e sz v q xs)) (hx : ev l x = some v) {so : Option Addr} {m c2 : Nat} {news : List Value} (hy : ev l y = some (.slice so m c2)) (hnl : news.length = m * sz) (hr : Rc w so news) (h1 : ∀ u ∈ news, u.oneCell' = true) (hlen : q + m ≤ 1000000000) :
    ∃ v' w', Does P l ⟨dst, .call ⟨.builtin .append, #[x, y], #[t, t]⟩, ty, pos, after, guard⟩ w v' w' ∧ Mg w0 w' (L.set k (.row e sz v' (q + m) (xs ++ news))) := by
  obtain ⟨i, hi, hzz⟩ := Option.map_eq_some_iff.1 hinfo
  simp only [Prod.mk.injEq] at hzz
  obtain ⟨hz, hs, hb⟩ := hzz
  have hrow := hM.has k hk
  by_cases hm : m = 0
  · subst hm
    have h0 : news = [] := List.length_eq_zero_iff.1 (by rw [hnl]; simp)
    subst h0
    obtain ⟨so1, cap, hle, rfl⟩ : ∃ so1 cap, q ≤ cap ∧ v = .slice so1 q cap := by
      rcases hrow.2 with ⟨rfl, rfl⟩ | ⟨g, cap, cur, rfl, _, _, h, _⟩
      · exact ⟨none, 0, Nat.le_refl _, rfl⟩
      · exact ⟨_, cap, h, rfl⟩
    have h2 : (sizeOf e).run P w = .ok sz w := by simp [sizeOf, typeInfo, hi, hs]
    refine ⟨.slice so1 q cap, w, ?_, ?_⟩
    · intro ρ h
      cases so <;> cases so1 <;> simp [execOp, resolve, invoke, builtin, h x _ hx, h y _ hy, Builtin.append_, run_underlying ht, h2, Builtin.lenOf, Builtin.firstCells, loadCells, loadCellsFrom, storeCells, hle]
    · rw [show L.set k (.row e sz (.slice so1 q cap) (q + 0) (xs ++ [])) = L from by rw [List.append_nil]; exact qhi hk]
      exact hM
  · have hne : news ≠ [] := fun e0 => by
      rw [e0] at hnl
      have h5 := Nat.le_of_ble_eq_true hsz
      have : 0 < m * sz := Nat.mul_pos (by omega) h5
      simp at hnl; omega
    obtain ⟨b, off, rfl, hcell⟩ := hr hne
    have hbig : (q + m) * by_ ≤ 140737488355328 := Nat.le_trans (Nat.mul_le_mul hlen (Nat.le_of_ble_eq_true hby)) (by decide)
    obtain ⟨g, cap, w', hr, hown, hgr, hat, hlt⟩ := run_append_lies (P := P) w t ty w0.heap.size e i z sz by_ ht hi hz hs hb hzc (Nat.le_of_ble_eq_true hsz) v q xs hrow ⟨b, off, none⟩ m c2 news hnl (fun p u hp => by
        rw [jp]
        exact hcell p u hp) h1 (by omega) (by unfold maxLen; omega) hbig hM.bel.size w.heap.size rfl
    refine ⟨.slice (some ⟨g, 0, none⟩) (q + m) cap, w', fun ρ h => ?_, hM.turn k hk (by simp) hgr hown (fun d hd ha => ?_)⟩
    · simp [execOp, resolve, invoke, builtin, h x _ hx, h y _ hy, hr]
    · have hl := Ck.lt (hM.all d hd)
      have key : ∀ z, d.at_ = some z → v.ownBlock ≠ some z → g ≠ z := fun z hz hne e => by
        subst e
        rcases hat with h | h
        · exact hne h
        · have := (hl g hz).2; omega
      cases d with
      | obj g' o' => exact fun e => key g' rfl ha (by simpa [Value.ownBlock] using e)
      | row e' sz' v' n' xs' =>
        right
        intro e
        have e2 : v'.ownBlock = some g := e.symm
        rcases ha with ha | ha
        · exact key g e2 (by rw [ha]; simp) rfl
        · exact key g e2 (fun h => ha (h.trans e2.symm)) rfl
      | bld b' bs' => exact ⟨ha.1, fun e => key b' rfl ha.2 (by simpa [Value.ownBlock] using e)⟩
/-- A row of nothing. -/
theorem Mg.nilRow (h : Mg w0 w L) (hb : yq L) (e : TypeId) (sz : Nat) : Mg w0 w (.row e sz (.slice none 0 0) 0 [] :: L) := by
  refine h.add (Below.refl _ _) ⟨by simp, .inl ⟨rfl, rfl⟩⟩ (fun k hk => by cases hk) (.inr (.inl ⟨_, _, _, _, _, rfl, .inr hb⟩))
theorem qld {w : World} {B : Nat} {e : TypeId} {sz n cap : Nat} {so : Option Addr} {xs : List Value} (h : w.ownsRow B e sz (.slice so n cap) n xs) {α : Type} (l : List α) : In (B ≤ ·) so l := fun _ b o e1 => by
  rcases h.2 with ⟨e2, _⟩ | ⟨g, cap', cur, e2, hg, _⟩
  · cases e2; cases e1
  · cases e2; cases e1; exact hg
theorem qdf (t : Dt) : ∀ u ∈ t.cells, u.oneCell' = true := by
  intro u hu
  unfold Dt.cells Nd.cells at hu
  simp only [List.mem_cons, List.not_mem_nil, or_false] at hu
  rcases hu with h | h | h | h | h | h | h | h | h | h | h <;> subst h <;> rfl
theorem kf (ts : List Dt) : ∀ u ∈ cellsOf ts, u.oneCell' = true := by
  intro u hu
  unfold cellsOf at hu
  obtain ⟨t, _, ht⟩ := List.mem_flatMap.1 hu
  exact qdf t u ht
section
variable {ops : List Oper} {Q : Exit → Act → World → Prop} {a : Act} {n : Nat} {o : Oper} {rest : List Oper} {d : Nat}
/-- A new block: all that was there is kept. -/
theorem qle (hA : Sl a n l) (hM : Mg w0 w L) (hg : qy l ops o = true) (hdst : o.dst = some d) (hd : Nat.blt d n = true) {vs : List Value} {t : TypeId} (val : Nat → Value) (he : Does P l o w (val w.heap.size) (w.alloc (.cells vs.toArray t))) (ht : t ≠ BY)
    (hk : ∀ g w', Mg w0 w' (.obj g (.cells vs.toArray t) :: L) → w.heap.size ≤ g → Below w.heap.size w w' → ∀ a', Sl a' n ((d, val g) :: l) → wpList P ops.toArray Q rest a' w') : wpList P ops.toArray Q (o :: rest) a w :=
  zr hA hg hdst hd he (hk _ _ (hM.addObj _ (vm ht)) (Nat.le_refl _) ((Below.refl _ w).alloc (Nat.le_refl _) _))
/-- A store into a block: the others are kept. -/
theorem jw (hA : Sl a n l) (hM : Mg w0 w L) (hg : qy l ops o = true) (hdst : o.dst = none) {g q : Nat} {cs vs us : List Value} {e : TypeId} (he : Sets P l o w (w.setCells g q cs)) (k : Nat) (hk0 : L[k]? = some (.obj g (.cells vs.toArray e))) (hus : over vs q cs = us) {L' : List Ck} (hL : L.set k (.obj g (.cells us.toArray e)) = L')
    (hk : ∀ w', Mg w0 w' L' → Kept (· ≠ g) w w' → wpList P ops.toArray Q rest a w') : wpList P ops.toArray Q (o :: rest) a w :=
  uy hA hg hdst he (hk _ (by subst hus hL; exact Mg.puts cs w L vs q hM k hk0) (vv _ _ _ _))
/-- .. into a row. -/
theorem qpc (hA : Sl a n l) (hM : Mg w0 w L) (hg : qy l ops o = true) (hdst : o.dst = none) {g q m cap : Nat} {cs xs us : List Value} {e : TypeId} {sz : Nat} (he : Sets P l o w (w.setCells g q cs)) (k : Nat) (hk0 : L[k]? = some (.row e sz (.slice (some ⟨g, 0, none⟩) m cap) m xs)) (hus : over xs q cs = us) {L' : List Ck} (hL : L.set k (.row e sz (.slice (some ⟨g, 0, none⟩) m cap) m us) = L')
    (hk : ∀ w', Mg w0 w' L' → Kept (· ≠ g) w w' → wpList P ops.toArray Q rest a w') : wpList P ops.toArray Q (o :: rest) a w :=
  uy hA hg hdst he (hk _ (by subst hus hL; exact Mg.rowPuts cs w L xs q hM k hk0) (vv _ _ _ _))
end
section
variable {ops : List Oper} {Q : Exit → Act → World → Prop} {a : Act} {n : Nat} {o : Oper} {S : World → Prop} {md : Region.Mode} {fuel : Nat} {listed : Array Bool}
theorem qie (hA : Sl a n l) (hM : Mg w0 w L) (i : Nat) (hi : ops[i]? = some o) (hg : qy l ops o = true) (hdst : o.dst = none) {g q : Nat} {cs vs us : List Value} {e : TypeId} (he : Sets P l o w (w.setCells g q cs)) (k : Nat) (hk0 : L[k]? = some (.obj g (.cells vs.toArray e))) (hus : over vs q cs = us) {L' : List Ck} (hL : L.set k (.obj g (.cells us.toArray e)) = L')
    (hk : ∀ w', Mg w0 w' L' → Kept (· ≠ g) w w' → S w' ∧ wpAnyH P md ops.toArray Q S fuel (listed.setIfInBounds i true) a w') : wpOp P ops.toArray Q i (fun a' w' => S w' ∧ wpAnyH P md ops.toArray Q S fuel (listed.setIfInBounds i true) a' w') a w := by
  have h := hk _ (by subst hus hL; exact Mg.puts cs w L vs q hM k hk0) (vv _ _ _ _)
  exact qkh hA i hi hg hdst he h.1 h.2
theorem ky (hA : Sl a n l) (hM : Mg w0 w L) (i : Nat) (hi : ops[i]? = some o) (hg : qy l ops o = true) (hdst : o.dst = none) {g q m cap : Nat} {cs xs us : List Value} {e : TypeId} {sz : Nat} (he : Sets P l o w (w.setCells g q cs)) (k : Nat) (hk0 : L[k]? = some (.row e sz (.slice (some ⟨g, 0, none⟩) m cap) m xs)) (hus : over xs q cs = us) {L' : List Ck} (hL : L.set k (.row e sz (.slice (some ⟨g, 0, none⟩) m cap) m us) = L')
    (hk : ∀ w', Mg w0 w' L' → S w' ∧ wpAnyH P md ops.toArray Q S fuel (listed.setIfInBounds i true) a w') : wpOp P ops.toArray Q i (fun a' w' => S w' ∧ wpAnyH P md ops.toArray Q S fuel (listed.setIfInBounds i true) a' w') a w := by
  have h := hk _ (by subst hus hL; exact Mg.rowPuts cs w L xs q hM k hk0)
  exact qkh hA i hi hg hdst he h.1 h.2
end
end
set_option maxRecDepth 100000
theorem TrA_is1_22 : Is1 Tryd.prog 22 := ⟨⟨_, Tryd.underlying22, rfl⟩, by kernel_rfl⟩
theorem TrA_is1_3 : Is1 Tryd.prog 3 := ⟨⟨_, Tryd.underlying3, rfl⟩, by kernel_rfl⟩
theorem TrA_fld_31_0 : FieldAt Tryd.prog 31 0 0 := ⟨_, _, Tryd.underlying31, rfl, rfl, by kernel_rfl⟩
theorem TrA_fld_31_5 : FieldAt Tryd.prog 31 5 10 := ⟨_, _, Tryd.underlying31, rfl, rfl, by kernel_rfl⟩
/-- The walk of the size of a datum. -/
def FitsAt (t : Dt) : Prop := ∀ {w0 w : World} {b o gl : Nat} {left dp : Int} {T : List Ck}, t.rd w0 → Here w0 b o t.cells → Mg w0 w (.obj gl (.cells #[.int .i64 left] 3) :: T) → 0 ≤ left → left ≤ 20000 → 0 ≤ dp → dp ≤ 201 → Calls Tryd.prog 36 #[.pointer (some ⟨b, o, none⟩), .int .i64 dp, .pointer (some ⟨gl, 0, none⟩)] w fun e w' => e = .returned (.bool (zu dp left t.tr).1) ∧ Mg w0 w' (.obj gl (.cells #[.int .i64 (zu dp left t.tr).2] 3) :: T)
theorem qlf : ∀ t : Dt, FitsAt t := Dt.indT fun d ts ih => by
 intro w0 w b o gl left dp T hrd hH hM0 hl0 hl1 hd0 hd1
 replace hH : Here w0 b o (d.cells ts.length) := hH
 have hok := (Dt.rd_iff.1 hrd)
 have hk0 := hok.1.k0
 have hk1 := hok.1.k1
 have hlen : ts.length ≤ 9223372036854775807 := Nat.le_trans hok.2.1 hok.2.2.1
 have M : Mg w0 w (.obj gl (.cells #[.int .i64 left] 3) :: T) := hM0
 refine qx (l := [(0, .pointer (some ⟨b, o, none⟩)), (1, .int .i64 dp), (2, .pointer (some ⟨gl, 0, none⟩))]) Tryd.func36 rfl Tryd.ntmps36 rfl rfl ?_
 intro Q hret hnorm hP a A
 refine wsk fun K1 hK1 => wrl (sda A λa A↦?_)
 refine qa (hK1 _ _ (wsk fun K2 hK2 => wrl (sdm A λa A↦?_)))
 refine sdo A (xi rfl) λa A↦?_
 refine sdo A (qs M TrA_is1_3 rfl 0 rfl rfl) λa A↦?_
 refine sdo (v := .int .i64 (left - 1)) A (qh rfl rfl (qui (vt (by omega) (by omega)))) λa A↦?_
 refine sdo A (xi rfl) λa A↦?_
 refine qt (us := [.int .i64 (left - 1)]) (L' := (.obj gl (.cells #[.int .i64 (left - 1)] 3) :: T)) A M rfl rfl (qi rfl rfl rfl (by kernel_rfl) M 0 rfl rfl rfl) 0 rfl rfl rfl ?_
 intro w3 M
 refine qa (hK2 _ _ (wsk fun K4 hK4 => wsk fun K5 hK5 => wrl (sdm A λa A↦?_)))
 refine sdo A (xi rfl) λa A↦?_
 refine sdo A (qs M TrA_is1_3 rfl 0 rfl rfl) λa A↦?_
 rcases tf (decide (left - 1 < 0)) with hb6 | hb6
 ·
  have hb6' := of_decide_eq_true hb6
  refine sdc A zq hb6 λa A↦?_
  refine sdm A λa A↦?_
  iterate 2 refine qj A rfl rfl rfl λa A↦?_
  refine sdk (v := .bool true) A λa A↦?_
  refine qa (hK5 _ _ (wp_cond_true (A.ev rfl) ?_))
  refine wsk fun K7 hK7 => wrl (sda A λa A↦?_)
  refine qa (hK7 _ _ (wp_ret (hret _ _ (en1 A rfl (qf rfl) ?_))))
  rw [qnc (by omega)]
  exact ⟨rfl, M⟩
 ·
  have hb6' := of_decide_eq_false hb6
  refine sdc A zq hb6 λa A↦?_
  iterate 2 refine sdm A λa A↦?_
  rcases tf (decide (200 < dp)) with hb8 | hb8
  ·
   have hb8' := of_decide_eq_true hb8
   refine sdc A vf hb8 λa A↦?_
   refine sdk (v := .bool true) A λa A↦?_
   refine qa (hK5 _ _ (wp_cond_true (A.ev rfl) ?_))
   refine wsk fun K9 hK9 => wrl (sda A λa A↦?_)
   refine qa (hK9 _ _ (wp_ret (hret _ _ (en1 A rfl (qf rfl) ?_))))
   rw [qnc (by omega)]
   exact ⟨rfl, M⟩
  ·
   have hb8' := of_decide_eq_false hb8
   refine sdc A vf hb8 λa A↦?_
   refine sdk (v := .bool false) A λa A↦?_
   refine qa (hK5 _ _ (wp_cond_false (A.ev rfl) ?_))
   refine wp_skip (hK4 _ _ (wsk fun K10 hK10 => wsk fun K11 hK11 => wrl (sdm A λa A↦?_)))
   refine sdo A (xi rfl) λa A↦?_
   refine sdo (v := .pointer (some ⟨b, o + 10, none⟩)) A (qb TrA_fld_31_5 rfl rfl) λa A↦?_
   refine sdo A (kw (j := 10) M hH TrA_is1_22 rfl rfl rfl) λa A↦?_
   refine sdo A (qw Tryd.underlying22 rfl) λa A↦?_
   refine sdm A λa A↦?_
   refine qa (hK11 _ _ (wp_block (jg (fun m_ a w1 => ∃ (i : Nat) (m : Int), m_ = 1 + (ts.length - i) ∧ (i ≤ ts.length ∧ vq dp (decide (d.k = 8)) 0 (left - 1) ((ts.map Dt.tr).drop 0) = vq dp (decide (d.k = 8)) i m ((ts.map Dt.tr).drop i) ∧ 0 ≤ m ∧ m ≤ 20000) ∧ Sl a 53 [(0, .pointer (some ⟨b, o, none⟩)), (1, .int .i64 dp), (2, .pointer (some ⟨gl, 0, none⟩)), (9, .pointer (some ⟨gl, 0, none⟩)), (10, .pointer (some ⟨gl, 0, none⟩)), (11, .int .i64 left), (12, .int .i64 (left - 1)), (13, .pointer (some ⟨gl, 0, none⟩)), (14, .pointer (some ⟨gl, 0, none⟩)), (15, .pointer (some ⟨gl, 0, none⟩)), (16, .int .i64 (left - 1)), (17, .bool false), (18, .bool false), (19, .int .i64 dp), (20, .bool false), (21, .bool false), (22, .pointer (some ⟨b, o, none⟩)), (23, .pointer (some ⟨b, o, none⟩)), (24, .pointer (some ⟨b, o + 10, none⟩)), (25, .slice d.lo ts.length d.lc), (26, .int .i64 (((ts.length : Nat) : Int))), (27, .int .i64 (((i : Nat) : Int)))] ∧ Mg w0 w1 (.obj gl (.cells #[.int .i64 m] 3) :: T)) _ ⟨0, left - 1, rfl, ⟨Nat.zero_le _, rfl, by omega, by omega⟩, A.keep _ (by repeat' constructor), M⟩ ?_)))
   clear M A
   rintro m_ a w12 ⟨i, m, rfl, hinv14, A, M⟩ K13 hK13
   obtain ⟨hi0, hin9, hm0, hm1⟩ := hinv14
   refine wsk fun K15 hK15 => wrl ?_
   rcases tf (decide (((i : Nat) : Int) < ((ts.length : Nat) : Int))) with hb16 | hb16
   ·
    have hb16' := of_decide_eq_true hb16
    refine sdc A zq hb16 λa A↦?_
    refine qa (hK15 _ _ (wsk fun K17 hK17 => wp_cond_true (A.ev rfl) ?_))
    refine wp_skip (hK17 _ _ (wsk fun K18 hK18 => wp_block (wsk fun K19 hK19 => wrl (sdm A λa A↦?_))))
    refine sda A λa A↦?_
    refine qa (hK19 _ _ (wsk fun K20 hK20 => wrl (sdm A λa A↦?_)))
    refine sdo (v := .int .i64 (dp + 1)) A (qh rfl rfl (xb (vt (by omega) (by omega)))) λa A↦?_
    refine sda A λa A↦?_
    refine qa (hK20 _ _ (wsk fun K21 hK21 => wsk fun K22 hK22 => wrl (sdm A λa A↦?_)))
    refine sdo A (xi rfl) λa A↦?_
    refine sdo (v := .pointer (some ⟨b, o, none⟩)) A (qb TrA_fld_31_0 rfl rfl) λa A↦?_
    refine sdo A (kw (j := 0) M hH TrA_is1_3 rfl rfl rfl) λa A↦?_
    rcases tf ((d.k == 8)) with hb23 | hb23
    ·
     have hb23' := eq_of_beq hb23
     refine sdc A qn hb23 λa A↦?_
     iterate 2 refine sdm A λa A↦?_
     rcases tf ((((i : Nat) : Int) == 1)) with hb24 | hb24
     ·
      have hb24' := eq_of_beq hb24
      refine sdc A qn hb24 λa A↦?_
      refine sdk (v := .bool true) A λa A↦?_
      refine qa (hK22 _ _ (wp_cond_true (A.ev rfl) ?_))
      refine wrl (sdm A λa A↦?_)
      refine sda A λa A↦?_
      refine qa (hK21 _ _ (wsk fun K25 hK25 => ?_))
      obtain ⟨t1, b1, o1, hi1, hm1, hr1, hl1, hH1⟩ := kid hrd (i := i) (by omega)
      have hD : (if decide (d.k = 8) = true ∧ i = 1 then dp else dp + 1) = dp := if_pos ⟨decide_eq_true hb23', by omega⟩
      refine wrl (sdm A λa A↦?_)
      refine sdo A (xi rfl) λa A↦?_
      refine sdo (v := .pointer (some ⟨b, o + 10, none⟩)) A (qb TrA_fld_31_5 rfl rfl) λa A↦?_
      refine sdo A (kw (j := 10) M hH TrA_is1_22 rfl rfl rfl) λa A↦?_
      refine sdm A λa A↦?_
      refine sdo (v := .pointer (some ⟨b1, o1 + i * 11, none⟩)) A (zp (k := i) Tryd.underlying22 (by kernel_rfl) rfl rfl rfl hl1 (by omega)) λa A↦?_
      iterate 2 refine sdm A λa A↦?_
      refine sct A (ef rfl rfl) (ih t1 hm1 hr1 hH1 M (by omega) (by omega) (by omega) (by omega)) ?_
      rintro _ w27 ⟨rfl, hM26⟩
      replace M : Mg w0 w27 (.obj gl (.cells #[.int .i64 ((zu (dp) m t1.tr).2)] 3) :: T) := hM26
      refine ⟨_, rfl, ?_⟩
      intro a A
      refine sdo (v := .bool (!((zu (dp) m t1.tr).1))) A (zm rfl zv) λa A↦?_
      refine qa (hK25 _ _ ?_)
      refine wp_cond_split (t := !((zu (dp) m t1.tr).1)) (A.ev rfl) (fun hc28 => ?_) (fun hc28 => ?_)
      ·
       refine wsk fun K29 hK29 => wrl (sda A λa A↦?_)
       refine qa (hK29 _ _ (wp_ret (hret _ _ (en1 A rfl (qf rfl) ?_))))
       have hr9 : (zu (dp) m t1.tr).1 = false := by simpa using hc28
       have e9 : zu dp left (Dt.mk d ts).tr = (false, (zu (dp) m t1.tr).2) := by rw [qab (by omega) (by omega), hin9, uh hi1 hD hr9]
       rw [e9]
       exact ⟨rfl, M⟩
      ·
       refine wp_skip (hK18 _ _ (wrl (sdo (v := .int .i64 (((i + 1 : Nat) : Int))) A (qh rfl rfl (fun w => (xb (vt (by omega) (by omega)) w).trans (by rw [show (((i : Nat) : Int) + 1 : Int) = ((i + 1 : Nat) : Int) from by omega]))) λa A↦?_)))
       refine sdm A λa A↦?_
       refine qa ?_
       have hr9 : (zu (dp) m t1.tr).1 = true := by simpa using hc28
       have hp9 := qaa t1.tr _ _ hr9
       have hl9 := qlb t1.tr (dp) m
       refine hK13 _ _ _ (by omega) ⟨i + 1, (zu (dp) m t1.tr).2, rfl, ⟨by omega, by rw [hin9, qfc hi1 hD hr9], by omega, by omega⟩, A.keep _ (by repeat' constructor), M⟩
     ·
      have hb24' := ne_of_beq_false hb24
      refine sdc A qn hb24 λa A↦?_
      refine sdk (v := .bool false) A λa A↦?_
      refine qa (hK22 _ _ (wp_cond_false (A.ev rfl) ?_))
      refine wp_skip (hK21 _ _ (wsk fun K30 hK30 => ?_))
      obtain ⟨t1, b1, o1, hi1, hm1, hr1, hl1, hH1⟩ := kid hrd (i := i) (by omega)
      have hD : (if decide (d.k = 8) = true ∧ i = 1 then dp else dp + 1) = dp + 1 := if_neg (fun e => by omega)
      refine wrl (sdm A λa A↦?_)
      refine sdo A (xi rfl) λa A↦?_
      refine sdo (v := .pointer (some ⟨b, o + 10, none⟩)) A (qb TrA_fld_31_5 rfl rfl) λa A↦?_
      refine sdo A (kw (j := 10) M hH TrA_is1_22 rfl rfl rfl) λa A↦?_
      refine sdm A λa A↦?_
      refine sdo (v := .pointer (some ⟨b1, o1 + i * 11, none⟩)) A (zp (k := i) Tryd.underlying22 (by kernel_rfl) rfl rfl rfl hl1 (by omega)) λa A↦?_
      iterate 2 refine sdm A λa A↦?_
      refine sct A (ef rfl rfl) (ih t1 hm1 hr1 hH1 M (by omega) (by omega) (by omega) (by omega)) ?_
      rintro _ w32 ⟨rfl, hM31⟩
      replace M : Mg w0 w32 (.obj gl (.cells #[.int .i64 ((zu (dp + 1) m t1.tr).2)] 3) :: T) := hM31
      refine ⟨_, rfl, ?_⟩
      intro a A
      refine sdo (v := .bool (!((zu (dp + 1) m t1.tr).1))) A (zm rfl zv) λa A↦?_
      refine qa (hK30 _ _ ?_)
      refine wp_cond_split (t := !((zu (dp + 1) m t1.tr).1)) (A.ev rfl) (fun hc33 => ?_) (fun hc33 => ?_)
      ·
       refine wsk fun K34 hK34 => wrl (sda A λa A↦?_)
       refine qa (hK34 _ _ (wp_ret (hret _ _ (en1 A rfl (qf rfl) ?_))))
       have hr9 : (zu (dp + 1) m t1.tr).1 = false := by simpa using hc33
       have e9 : zu dp left (Dt.mk d ts).tr = (false, (zu (dp + 1) m t1.tr).2) := by rw [qab (by omega) (by omega), hin9, uh hi1 hD hr9]
       rw [e9]
       exact ⟨rfl, M⟩
      ·
       refine wp_skip (hK18 _ _ (wrl (sdo (v := .int .i64 (((i + 1 : Nat) : Int))) A (qh rfl rfl (fun w => (xb (vt (by omega) (by omega)) w).trans (by rw [show (((i : Nat) : Int) + 1 : Int) = ((i + 1 : Nat) : Int) from by omega]))) λa A↦?_)))
       refine sdm A λa A↦?_
       refine qa ?_
       have hr9 : (zu (dp + 1) m t1.tr).1 = true := by simpa using hc33
       have hp9 := qaa t1.tr _ _ hr9
       have hl9 := qlb t1.tr (dp + 1) m
       refine hK13 _ _ _ (by omega) ⟨i + 1, (zu (dp + 1) m t1.tr).2, rfl, ⟨by omega, by rw [hin9, qfc hi1 hD hr9], by omega, by omega⟩, A.keep _ (by repeat' constructor), M⟩
    ·
     have hb23' := ne_of_beq_false hb23
     refine sdc A qn hb23 λa A↦?_
     refine sdm A λa A↦?_
     iterate 2 refine qj A rfl rfl rfl λa A↦?_
     refine sdk (v := .bool false) A λa A↦?_
     refine qa (hK22 _ _ (wp_cond_false (A.ev rfl) ?_))
     refine wp_skip (hK21 _ _ (wsk fun K35 hK35 => ?_))
     obtain ⟨t1, b1, o1, hi1, hm1, hr1, hl1, hH1⟩ := kid hrd (i := i) (by omega)
     have hD : (if decide (d.k = 8) = true ∧ i = 1 then dp else dp + 1) = dp + 1 := if_neg (fun e => hb23' (of_decide_eq_true e.1))
     refine wrl (sdm A λa A↦?_)
     refine sdo A (xi rfl) λa A↦?_
     refine sdo (v := .pointer (some ⟨b, o + 10, none⟩)) A (qb TrA_fld_31_5 rfl rfl) λa A↦?_
     refine sdo A (kw (j := 10) M hH TrA_is1_22 rfl rfl rfl) λa A↦?_
     refine sdm A λa A↦?_
     refine sdo (v := .pointer (some ⟨b1, o1 + i * 11, none⟩)) A (zp (k := i) Tryd.underlying22 (by kernel_rfl) rfl rfl rfl hl1 (by omega)) λa A↦?_
     iterate 2 refine sdm A λa A↦?_
     refine sct A (ef rfl rfl) (ih t1 hm1 hr1 hH1 M (by omega) (by omega) (by omega) (by omega)) ?_
     rintro _ w37 ⟨rfl, hM36⟩
     replace M : Mg w0 w37 (.obj gl (.cells #[.int .i64 ((zu (dp + 1) m t1.tr).2)] 3) :: T) := hM36
     refine ⟨_, rfl, ?_⟩
     intro a A
     refine sdo (v := .bool (!((zu (dp + 1) m t1.tr).1))) A (zm rfl zv) λa A↦?_
     refine qa (hK35 _ _ ?_)
     refine wp_cond_split (t := !((zu (dp + 1) m t1.tr).1)) (A.ev rfl) (fun hc38 => ?_) (fun hc38 => ?_)
     ·
      refine wsk fun K39 hK39 => wrl (sda A λa A↦?_)
      refine qa (hK39 _ _ (wp_ret (hret _ _ (en1 A rfl (qf rfl) ?_))))
      have hr9 : (zu (dp + 1) m t1.tr).1 = false := by simpa using hc38
      have e9 : zu dp left (Dt.mk d ts).tr = (false, (zu (dp + 1) m t1.tr).2) := by rw [qab (by omega) (by omega), hin9, uh hi1 hD hr9]
      rw [e9]
      exact ⟨rfl, M⟩
     ·
      refine wp_skip (hK18 _ _ (wrl (sdo (v := .int .i64 (((i + 1 : Nat) : Int))) A (qh rfl rfl (fun w => (xb (vt (by omega) (by omega)) w).trans (by rw [show (((i : Nat) : Int) + 1 : Int) = ((i + 1 : Nat) : Int) from by omega]))) λa A↦?_)))
      refine sdm A λa A↦?_
      refine qa ?_
      have hr9 : (zu (dp + 1) m t1.tr).1 = true := by simpa using hc38
      have hp9 := qaa t1.tr _ _ hr9
      have hl9 := qlb t1.tr (dp + 1) m
      refine hK13 _ _ _ (by omega) ⟨i + 1, (zu (dp + 1) m t1.tr).2, rfl, ⟨by omega, by rw [hin9, qfc hi1 hD hr9], by omega, by omega⟩, A.keep _ (by repeat' constructor), M⟩
   ·
    have hb16' := of_decide_eq_false hb16
    refine sdc A zq hb16 λa A↦?_
    refine qa (hK15 _ _ (wsk fun K40 hK40 => wp_cond_false (A.ev rfl) ?_))
    refine wp_exit (hK10 _ _ (wsk fun K41 hK41 => wrl (sda A λa A↦?_)))
    refine qa (hK41 _ _ (wp_ret (hret _ _ (en1 A rfl (qf rfl) ?_))))
    have e9 : zu dp left (Dt.mk d ts).tr = (true, m) := by rw [qab (by omega) (by omega), hin9, ug (by omega), vq]
    rw [e9]
    exact ⟨rfl, M⟩
end Go.Proofs.YtnemkamkjfokaaaDoor.G
namespace Go.Proofs
open Go.Shelf
def Tryd.lays119_ren : Go.Shelf.Ren := ⟨fun | 119 => 46 | n => n, fun | 21 => 21 | 4 => 4 | n => n, fun | n => n⟩
theorem Tryd.lays119 : Go.Proofs.Lays.n119 Tryd.prog Tryd.lays119_ren := {
  mixed := by kernel_rfl
  f119 := Tryd.func46.trans (congrArg some (by kernel_rfl))
  t4 := Tryd.underlying4
  a4 := Tryd.isAgg4
  z4 := Tryd.sizeOf4
  v4 := Tryd.zeroValue4
  t21 := Tryd.underlying21
  a21 := Tryd.isAgg21
  z21 := Tryd.sizeOf21
  v21 := Tryd.zeroValue21 }
theorem Tryd.utf8_ValidRune (r : Int) (w : World) :
    Calls Tryd.prog 46 #[.int .i32 r] w fun e w' => e = .returned (.bool (Lib.validRune r)) ∧ w' = w := Any.utf8_ValidRune Tryd.lays119 r w
def Tryd.laysValid_ren : Go.Shelf.Ren := ⟨fun | 196 => 43 | 259 => 47 | n => n, fun | 9 => 9 | 4 => 4 | 3 => 3 | 5 => 5 | 12 => 12 | 119 => 76 | 0 => 0 | 46 => 80 | 139 => 79 | 138 => 78 | 53 => 84 | n => n, fun | 3 => 0 | 4 => 1 | n => n⟩
theorem Tryd.laysValid : Go.Proofs.Lays.n196 Tryd.prog Tryd.laysValid_ren := {
  mixed := by kernel_rfl
  f196 := Tryd.func43.trans (congrArg some (by kernel_rfl))
  f259 := Tryd.func47.trans (congrArg some (by kernel_rfl))
  t0 := Tryd.underlying0
  a0 := Tryd.isAgg0
  z0 := Tryd.sizeOf0
  v0 := Tryd.zeroValue0
  t3 := Tryd.underlying3
  a3 := Tryd.isAgg3
  z3 := Tryd.sizeOf3
  v3 := Tryd.zeroValue3
  t4 := Tryd.underlying4
  a4 := Tryd.isAgg4
  z4 := Tryd.sizeOf4
  v4 := Tryd.zeroValue4
  t5 := Tryd.underlying5
  a5 := Tryd.isAgg5
  z5 := Tryd.sizeOf5
  v5 := Tryd.zeroValue5
  t9 := Tryd.underlying9
  a9 := Tryd.isAgg9
  z9 := Tryd.sizeOf9
  v9 := Tryd.zeroValue9
  t12 := Tryd.underlying12
  a12 := Tryd.isAgg12
  z12 := Tryd.sizeOf12
  v12 := Tryd.zeroValue12
  t46 := Tryd.underlying80
  a46 := Tryd.isAgg80
  z46 := Tryd.sizeOf80
  v46 := Tryd.zeroValue80
  t53 := Tryd.underlying84
  a53 := Tryd.isAgg84
  z53 := Tryd.sizeOf84
  v53 := Tryd.zeroValue84
  t119 := Tryd.underlying76
  a119 := Tryd.isAgg76
  z119 := Tryd.sizeOf76
  t138 := Tryd.underlying78
  a138 := Tryd.isAgg78
  z138 := Tryd.sizeOf78
  v138 := Tryd.zeroValue78
  t139 := Tryd.underlying79
  a139 := Tryd.isAgg79
  z139 := Tryd.sizeOf79
  v139 := Tryd.zeroValue79
  g3 := by kernel_rfl
  g4 := by kernel_rfl }
end Go.Proofs
namespace Go.Proofs.YtnemkamkjfokaaaDoor.G
open Go.RowKit
set_option linter.unusedVariables false
set_option linter.unusedSimpArgs false
set_option maxRecDepth 100000
theorem TrB_is1_22 : Is1 Tryd.prog 22 := ⟨⟨_, Tryd.underlying22, rfl⟩, by kernel_rfl⟩
theorem TrB_is1_24 : Is1 Tryd.prog 24 := ⟨⟨_, Tryd.underlying24, rfl⟩, by kernel_rfl⟩
theorem TrB_is1_29 : Is1 Tryd.prog 29 := ⟨⟨_, Tryd.underlying29, rfl⟩, by kernel_rfl⟩
theorem TrB_is1_3 : Is1 Tryd.prog 3 := ⟨⟨_, Tryd.underlying3, rfl⟩, by kernel_rfl⟩
theorem TrB_is1_4 : Is1 Tryd.prog 4 := ⟨⟨_, Tryd.underlying4, rfl⟩, by kernel_rfl⟩
theorem TrB_is1_9 : Is1 Tryd.prog 9 := ⟨⟨_, Tryd.underlying9, rfl⟩, by kernel_rfl⟩
theorem TrB_fld_26_0 : FieldAt Tryd.prog 26 0 0 := ⟨_, _, Tryd.underlying26, rfl, rfl, by kernel_rfl⟩
theorem TrB_fld_26_1 : FieldAt Tryd.prog 26 1 1 := ⟨_, _, Tryd.underlying26, rfl, rfl, by kernel_rfl⟩
theorem TrB_fld_26_2 : FieldAt Tryd.prog 26 2 2 := ⟨_, _, Tryd.underlying26, rfl, rfl, by kernel_rfl⟩
theorem TrB_fld_28_0 : FieldAt Tryd.prog 28 0 0 := ⟨_, _, Tryd.underlying28, rfl, rfl, by kernel_rfl⟩
theorem TrB_fld_28_1 : FieldAt Tryd.prog 28 1 3 := ⟨_, _, Tryd.underlying28, rfl, rfl, by kernel_rfl⟩
theorem TrB_fld_31_0 : FieldAt Tryd.prog 31 0 0 := ⟨_, _, Tryd.underlying31, rfl, rfl, by kernel_rfl⟩
theorem TrB_fld_31_1 : FieldAt Tryd.prog 31 1 1 := ⟨_, _, Tryd.underlying31, rfl, rfl, by kernel_rfl⟩
theorem TrB_fld_31_2 : FieldAt Tryd.prog 31 2 2 := ⟨_, _, Tryd.underlying31, rfl, rfl, by kernel_rfl⟩
theorem TrB_fld_31_3 : FieldAt Tryd.prog 31 3 8 := ⟨_, _, Tryd.underlying31, rfl, rfl, by kernel_rfl⟩
theorem TrB_fld_31_4 : FieldAt Tryd.prog 31 4 9 := ⟨_, _, Tryd.underlying31, rfl, rfl, by kernel_rfl⟩
theorem TrB_fld_31_5 : FieldAt Tryd.prog 31 5 10 := ⟨_, _, Tryd.underlying31, rfl, rfl, by kernel_rfl⟩
theorem TrB_isS_26 : IsS Tryd.prog 26 3 := ⟨⟨_, Tryd.underlying26⟩, by kernel_rfl⟩
theorem TrB_isS_28 : IsS Tryd.prog 28 6 := ⟨⟨_, Tryd.underlying28⟩, by kernel_rfl⟩
theorem TrB_isS_31 : IsS Tryd.prog 31 11 := ⟨⟨_, Tryd.underlying31⟩, by kernel_rfl⟩
/-- The library's tables of characters are there. -/
def Tabs8 (w : World) : Prop := Lib.Utf8Tabs (Tryd.laysValid_ren.g 3) (Tryd.laysValid_ren.g 4) w
theorem Tabs8.below {w w' : World} (h : Tabs8 w) (hb : Below w.heap.size w w') : Tabs8 w' := Utf8Tabs_below h hb
theorem vh {w : World} {s : ByteArray} (hs : s.size ≤ 9223372036854775807) (hT : Tabs8 w) {b : Bool} (h : okS s = b) : Calls Tryd.prog 43 #[.string s] w fun e w' => e = .returned (.bool b) ∧ Below w.heap.size w w' := h ▸ Any.utf8_ValidString Tryd.laysValid s w hs hT
theorem qpd {w : World} {r : Int} : Calls Tryd.prog 46 #[.int .i32 r] w fun e w' => e = .returned (.bool (Lib.validRune r)) ∧ Below w.heap.size w w' := (Tryd.utf8_ValidRune r w).mono fun e w' ⟨h, e2⟩ => ⟨h, e2 ▸ Below.refl _ _⟩
theorem qff {P : Program} {s d : TypeId} (hs : P.underlying s = some (.int .i64)) (hd : P.underlying d = some (.int .i32)) {n : Int} (h0 : 0 ≤ n) (h1 : n ≤ 1114111) : ∀ w, (convert s d (.int .i64 n)).run P w = .ok (.int .i32 n) w := fun w => by
 simp [go_sem, run_underlying hs, run_underlying hd, convert]
 exact in_i32 (by omega) (by omega)
theorem qif {w : World} {n : Int} : Calls Tryd.prog 42 #[.int .i64 n] w fun e w' => e = .returned (.bool (qfe n)) ∧ Below w.heap.size w w' := by
 have M : Mg w w ([]) := Mg.start w
 refine qx (l := [(0, .int .i64 n)]) Tryd.func42 rfl Tryd.ntmps42 rfl rfl ?_
 intro Q hret hnorm hP a A
 refine wsk fun K1 hK1 => wrl (sda A λa A↦?_)
 refine qa (hK1 _ _ (wsk fun K2 hK2 => wrl (sdm A λa A↦?_)))
 rcases tf (decide (0 ≤ n)) with hb3 | hb3
 ·
  have hb3' := of_decide_eq_true hb3
  refine sdc A kv hb3 λa A↦?_
  iterate 2 refine sdm A λa A↦?_
  rcases tf (decide (n ≤ 1114111)) with hb4 | hb4
  ·
   have hb4' := of_decide_eq_true hb4
   refine sdc A yn hb4 λa A↦?_
   refine sdk (v := .bool true) A λa A↦?_
   iterate 2 refine sdm A λa A↦?_
   refine sdo (v := .int .i32 n) A (ym rfl (qff Tryd.underlying3 Tryd.underlying21 (by omega) (by omega))) λa A↦?_
   refine gcl A M (ef rfl rfl) (qpd) fun w5 hbv M a A => ?_
   refine sdo (v := .bool (Lib.validRune n)) A (xh rfl rfl rfl rfl) λa A↦?_
   refine sda A λa A↦?_
   refine qa (hK2 _ _ (wp_ret (hret _ _ (en1 A rfl (qf rfl) ?_))))
   exact ⟨by rw [show qfe n = Lib.validRune n from by unfold qfe; unfold Lib.validRune; exact decide_eq_decide.2 (by omega)], M.bel⟩
  ·
   have hb4' := of_decide_eq_false hb4
   refine sdc A yn hb4 λa A↦?_
   refine sdk (v := .bool false) A λa A↦?_
   refine sdm A λa A↦?_
   iterate 3 refine qj A rfl rfl rfl λa A↦?_
   refine sdk (v := .bool false) A λa A↦?_
   refine sda A λa A↦?_
   refine qa (hK2 _ _ (wp_ret (hret _ _ (en1 A rfl (qf rfl) ?_))))
   exact ⟨by rw [show qfe n = false from by unfold qfe; apply decide_eq_false; omega], M.bel⟩
 ·
  have hb3' := of_decide_eq_false hb3
  refine sdc A kv hb3 λa A↦?_
  refine sdm A λa A↦?_
  iterate 2 refine qj A rfl rfl rfl λa A↦?_
  refine sdk (v := .bool false) A λa A↦?_
  refine sdm A λa A↦?_
  iterate 3 refine qj A rfl rfl rfl λa A↦?_
  refine sdk (v := .bool false) A λa A↦?_
  refine sda A λa A↦?_
  refine qa (hK2 _ _ (wp_ret (hret _ _ (en1 A rfl (qf rfl) ?_))))
  exact ⟨by rw [show qfe n = false from by unfold qfe; apply decide_eq_false; omega], M.bel⟩
theorem vg {w : World} {b : Bool} {o1 o2 : Option Addr} {m1 m2 c1 c2 : Nat} (h1 : m1 ≤ 9223372036854775807) (h2 : m2 ≤ 9223372036854775807) {r : Bool} (hr : qba b m1 m2 = r) : Calls Tryd.prog 48 #[.agg #[.bool b, .slice o1 m1 c1, .slice o2 m2 c2]] w fun e w' => e = .returned (.bool r) ∧ Below w.heap.size w w' := by
 have M : Mg w w ([]) := Mg.start w
 refine qx (l := [(0, .agg #[.bool b, .slice o1 m1 c1, .slice o2 m2 c2])]) Tryd.func48 rfl Tryd.ntmps48 rfl rfl ?_
 intro Q hret hnorm hP a A
 refine wsk fun K1 hK1 => wrl (zn (vs := [.bool b, .slice o1 m1 c1, .slice o2 m2 c2]) (t := 26) A M rfl rfl rfl pg (zj rfl rfl) (by decide) ?_)
 intro g2 w3 M a A
 refine sda A λa A↦?_
 refine qa (hK1 _ _ (wsk fun K4 hK4 => wrl (sdo (v := .pointer (some ⟨g2, 0, none⟩)) A (qb TrB_fld_26_0 rfl rfl) λa A↦?_)))
 refine sdo A (qs M TrB_is1_4 rfl 0 rfl rfl) λa A↦?_
 rcases b with _ | _
 ·
  refine sdo (v := .bool true) A (zm rfl zv) λa A↦?_
  refine sdm A λa A↦?_
  refine sdo (v := .pointer (some ⟨g2, 1, none⟩)) A (qb TrB_fld_26_1 rfl rfl) λa A↦?_
  refine sdo A (qs M TrB_is1_24 rfl 0 rfl rfl) λa A↦?_
  refine sdo A (qw Tryd.underlying24 rfl) λa A↦?_
  rcases tf ((((m1 : Nat) : Int) == 0)) with hb5 | hb5
  ·
   have hb5' := eq_of_beq hb5
   refine sdc A qn hb5 λa A↦?_
   refine sdk (v := .bool true) A λa A↦?_
   refine sdm A λa A↦?_
   refine sdo (v := .pointer (some ⟨g2, 2, none⟩)) A (qb TrB_fld_26_2 rfl rfl) λa A↦?_
   refine sdo A (qs M TrB_is1_24 rfl 0 rfl rfl) λa A↦?_
   refine sdo A (qw Tryd.underlying24 rfl) λa A↦?_
   rcases tf ((((m2 : Nat) : Int) == 0)) with hb6 | hb6
   ·
    have hb6' := eq_of_beq hb6
    refine sdc A qn hb6 λa A↦?_
    refine sdk (v := .bool true) A λa A↦?_
    refine sda A λa A↦?_
    refine qa (hK4 _ _ (wp_ret (hret _ _ (en1 A rfl (qf rfl) ?_))))
    subst hr
    exact ⟨by unfold qba; simp_all; try omega, M.bel⟩
   ·
    have hb6' := ne_of_beq_false hb6
    refine sdc A qn hb6 λa A↦?_
    refine sdk (v := .bool false) A λa A↦?_
    refine sda A λa A↦?_
    refine qa (hK4 _ _ (wp_ret (hret _ _ (en1 A rfl (qf rfl) ?_))))
    subst hr
    exact ⟨by unfold qba; simp_all; try omega, M.bel⟩
  ·
   have hb5' := ne_of_beq_false hb5
   refine sdc A qn hb5 λa A↦?_
   refine sdk (v := .bool false) A λa A↦?_
   refine sdm A λa A↦?_
   iterate 4 refine qj A rfl rfl rfl λa A↦?_
   refine sdk (v := .bool false) A λa A↦?_
   refine sda A λa A↦?_
   refine qa (hK4 _ _ (wp_ret (hret _ _ (en1 A rfl (qf rfl) ?_))))
   subst hr
   exact ⟨by unfold qba; simp_all; try omega, M.bel⟩
 ·
  refine sdo (v := .bool false) A (zm rfl zv) λa A↦?_
  refine sdm A λa A↦?_
  iterate 4 refine qj A rfl rfl rfl λa A↦?_
  refine sdk (v := .bool false) A λa A↦?_
  refine sdm A λa A↦?_
  iterate 4 refine qj A rfl rfl rfl λa A↦?_
  refine sdk (v := .bool false) A λa A↦?_
  refine sda A λa A↦?_
  refine qa (hK4 _ _ (wp_ret (hret _ _ (en1 A rfl (qf rfl) ?_))))
  subst hr
  exact ⟨by unfold qba; simp_all; try omega, M.bel⟩
theorem qsb {w : World} {k n : Int} {b1 b2 : Bool} {o1 o2 o3 o4 ro lo : Option Addr} {m1 m2 m3 m4 mr ml c1 c2 c3 c4 rc lc : Nat} {s : ByteArray} (h1 : m1 ≤ 9223372036854775807) (h2 : m2 ≤ 9223372036854775807) (h3 : m3 ≤ 9223372036854775807) (h4 : m4 ≤ 9223372036854775807) {r : Bool} (hr : xj n b1 m1 m2 b2 m3 m4 s mr ml = r) : Calls Tryd.prog 44 #[.agg #[.int .i64 k, .int .i64 n, .bool b1, .slice o1 m1 c1, .slice o2 m2 c2, .bool b2, .slice o3 m3 c3, .slice o4 m4 c4, .string s, .slice ro mr rc, .slice lo ml lc]] w fun e w' => e = .returned (.bool r) ∧ Below w.heap.size w w' := by
 have M : Mg w w ([]) := Mg.start w
 refine qx (l := [(0, .agg #[.int .i64 k, .int .i64 n, .bool b1, .slice o1 m1 c1, .slice o2 m2 c2, .bool b2, .slice o3 m3 c3, .slice o4 m4 c4, .string s, .slice ro mr rc, .slice lo ml lc])]) Tryd.func44 rfl Tryd.ntmps44 rfl rfl ?_
 intro Q hret hnorm hP a A
 refine wsk fun K1 hK1 => wrl (zn (vs := [.int .i64 k, .int .i64 n, .bool b1, .slice o1 m1 c1, .slice o2 m2 c2, .bool b2, .slice o3 m3 c3, .slice o4 m4 c4, .string s, .slice ro mr rc, .slice lo ml lc]) (t := 31) A M rfl rfl rfl pg (zj rfl rfl) (by decide) ?_)
 intro g2 w3 M a A
 refine sda A λa A↦?_
 refine qa (hK1 _ _ (wsk fun K4 hK4 => wrl (sdo (v := .pointer (some ⟨g2, 1, none⟩)) A (qb TrB_fld_31_1 rfl rfl) λa A↦?_)))
 refine sdo A (qs M TrB_is1_3 rfl 0 rfl rfl) λa A↦?_
 rcases tf ((n == 0)) with hb5 | hb5
 ·
  have hb5' := eq_of_beq hb5
  refine sdc A qn hb5 λa A↦?_
  refine sdm A λa A↦?_
  refine sdo (v := .pointer (some ⟨g2, 2, none⟩)) A (qb TrB_fld_31_2 rfl rfl) λa A↦?_
  refine sdo (v := .pointer (some ⟨g2, 2, none⟩)) A (qb TrB_fld_28_0 rfl rfl) λa A↦?_
  refine sdo A (za M TrB_isS_26 rfl 0 rfl (cs := [.bool b1, .slice o1 m1 c1, .slice o2 m2 c2]) rfl rfl) λa A↦?_
  rcases tf (qba b1 m1 m2) with hb6 | hb6
  ·
   refine gcl A M (ef rfl rfl) (vg h1 h2 hb6) fun w8 hb7 M a A => ?_
   refine sdk (v := .bool true) A λa A↦?_
   refine sdm A λa A↦?_
   refine sdo (v := .pointer (some ⟨g2, 2, none⟩)) A (qb TrB_fld_31_2 rfl rfl) λa A↦?_
   refine sdo (v := .pointer (some ⟨g2, 5, none⟩)) A (qb TrB_fld_28_1 rfl rfl) λa A↦?_
   refine sdo A (za M TrB_isS_26 rfl 0 rfl (cs := [.bool b2, .slice o3 m3 c3, .slice o4 m4 c4]) rfl rfl) λa A↦?_
   rcases tf (qba b2 m3 m4) with hb9 | hb9
   ·
    refine gcl A M (ef rfl rfl) (vg h3 h4 hb9) fun w11 hb10 M a A => ?_
    refine sdk (v := .bool true) A λa A↦?_
    refine sdm A λa A↦?_
    refine sdo (v := .pointer (some ⟨g2, 8, none⟩)) A (qb TrB_fld_31_3 rfl rfl) λa A↦?_
    refine sdo A (qs M TrB_is1_9 rfl 0 rfl rfl) λa A↦?_
    rcases tf (decide (s = ⟨#[]⟩)) with hb12 | hb12
    ·
     have hb12' := of_decide_eq_true hb12
     refine sdo (v := .bool true) A (qh rfl rfl (fun w => (qia Tryd.underlying9 w).trans (by rw [hb12] <;> rfl))) λa A↦?_
     refine sdk (v := .bool true) A λa A↦?_
     refine sdm A λa A↦?_
     refine sdo (v := .pointer (some ⟨g2, 9, none⟩)) A (qb TrB_fld_31_4 rfl rfl) λa A↦?_
     refine sdo A (qs M TrB_is1_29 rfl 0 rfl rfl) λa A↦?_
     refine sdo A (qw Tryd.underlying29 rfl) λa A↦?_
     rcases tf ((((mr : Nat) : Int) == 0)) with hb13 | hb13
     ·
      have hb13' := eq_of_beq hb13
      refine sdc A qn hb13 λa A↦?_
      refine sdk (v := .bool true) A λa A↦?_
      refine sdm A λa A↦?_
      refine sdo (v := .pointer (some ⟨g2, 10, none⟩)) A (qb TrB_fld_31_5 rfl rfl) λa A↦?_
      refine sdo A (qs M TrB_is1_22 rfl 0 rfl rfl) λa A↦?_
      refine sdo A (qw Tryd.underlying22 rfl) λa A↦?_
      rcases tf ((((ml : Nat) : Int) == 0)) with hb14 | hb14
      ·
       have hb14' := eq_of_beq hb14
       refine sdc A qn hb14 λa A↦?_
       refine sdk (v := .bool true) A λa A↦?_
       refine sda A λa A↦?_
       refine qa (hK4 _ _ (wp_ret (hret _ _ (en1 A rfl (qf rfl) ?_))))
       subst hr
       exact ⟨by unfold xj; simp_all, M.bel⟩
      ·
       have hb14' := ne_of_beq_false hb14
       refine sdc A qn hb14 λa A↦?_
       refine sdk (v := .bool false) A λa A↦?_
       refine sda A λa A↦?_
       refine qa (hK4 _ _ (wp_ret (hret _ _ (en1 A rfl (qf rfl) ?_))))
       subst hr
       exact ⟨by unfold xj; simp_all, M.bel⟩
     ·
      have hb13' := ne_of_beq_false hb13
      refine sdc A qn hb13 λa A↦?_
      refine sdk (v := .bool false) A λa A↦?_
      refine sdm A λa A↦?_
      iterate 4 refine qj A rfl rfl rfl λa A↦?_
      refine sdk (v := .bool false) A λa A↦?_
      refine sda A λa A↦?_
      refine qa (hK4 _ _ (wp_ret (hret _ _ (en1 A rfl (qf rfl) ?_))))
      subst hr
      exact ⟨by unfold xj; simp_all, M.bel⟩
    ·
     have hb12' := of_decide_eq_false hb12
     refine sdo (v := .bool false) A (qh rfl rfl (fun w => (qia Tryd.underlying9 w).trans (by rw [hb12] <;> rfl))) λa A↦?_
     refine sdk (v := .bool false) A λa A↦?_
     refine sdm A λa A↦?_
     iterate 4 refine qj A rfl rfl rfl λa A↦?_
     refine sdk (v := .bool false) A λa A↦?_
     refine sdm A λa A↦?_
     iterate 4 refine qj A rfl rfl rfl λa A↦?_
     refine sdk (v := .bool false) A λa A↦?_
     refine sda A λa A↦?_
     refine qa (hK4 _ _ (wp_ret (hret _ _ (en1 A rfl (qf rfl) ?_))))
     subst hr
     exact ⟨by unfold xj; simp_all, M.bel⟩
   ·
    refine gcl A M (ef rfl rfl) (vg h3 h4 hb9) fun w16 hb15 M a A => ?_
    refine sdk (v := .bool false) A λa A↦?_
    refine sdm A λa A↦?_
    iterate 3 refine qj A rfl rfl rfl λa A↦?_
    refine sdk (v := .bool false) A λa A↦?_
    refine sdm A λa A↦?_
    iterate 4 refine qj A rfl rfl rfl λa A↦?_
    refine sdk (v := .bool false) A λa A↦?_
    refine sdm A λa A↦?_
    iterate 4 refine qj A rfl rfl rfl λa A↦?_
    refine sdk (v := .bool false) A λa A↦?_
    refine sda A λa A↦?_
    refine qa (hK4 _ _ (wp_ret (hret _ _ (en1 A rfl (qf rfl) ?_))))
    subst hr
    exact ⟨by unfold xj; simp_all, M.bel⟩
  ·
   refine gcl A M (ef rfl rfl) (vg h1 h2 hb6) fun w18 hb17 M a A => ?_
   refine sdk (v := .bool false) A λa A↦?_
   refine sdm A λa A↦?_
   iterate 4 refine qj A rfl rfl rfl λa A↦?_
   refine sdk (v := .bool false) A λa A↦?_
   refine sdm A λa A↦?_
   iterate 3 refine qj A rfl rfl rfl λa A↦?_
   refine sdk (v := .bool false) A λa A↦?_
   refine sdm A λa A↦?_
   iterate 4 refine qj A rfl rfl rfl λa A↦?_
   refine sdk (v := .bool false) A λa A↦?_
   refine sdm A λa A↦?_
   iterate 4 refine qj A rfl rfl rfl λa A↦?_
   refine sdk (v := .bool false) A λa A↦?_
   refine sda A λa A↦?_
   refine qa (hK4 _ _ (wp_ret (hret _ _ (en1 A rfl (qf rfl) ?_))))
   subst hr
   exact ⟨by unfold xj; simp_all, M.bel⟩
 ·
  have hb5' := ne_of_beq_false hb5
  refine sdc A qn hb5 λa A↦?_
  refine sdm A λa A↦?_
  iterate 4 refine qj A rfl rfl rfl λa A↦?_
  refine sdk (v := .bool false) A λa A↦?_
  refine sdm A λa A↦?_
  iterate 4 refine qj A rfl rfl rfl λa A↦?_
  refine sdk (v := .bool false) A λa A↦?_
  refine sdm A λa A↦?_
  iterate 3 refine qj A rfl rfl rfl λa A↦?_
  refine sdk (v := .bool false) A λa A↦?_
  refine sdm A λa A↦?_
  iterate 4 refine qj A rfl rfl rfl λa A↦?_
  refine sdk (v := .bool false) A λa A↦?_
  refine sdm A λa A↦?_
  iterate 4 refine qj A rfl rfl rfl λa A↦?_
  refine sdk (v := .bool false) A λa A↦?_
  refine sda A λa A↦?_
  refine qa (hK4 _ _ (wp_ret (hret _ _ (en1 A rfl (qf rfl) ?_))))
  subst hr
  exact ⟨by unfold xj; simp_all, M.bel⟩
theorem qbc {w : World} {d : Nd} {ts : List Dt} (hok : NdOk w d) (hT : Tabs8 w) : Calls Tryd.prog 37 #[.agg (d.cells ts.length).toArray] w fun e w' => e = .returned (.bool (zw d.k d.n d.y.q d.s d.rl.length ts.length)) ∧ Below w.heap.size w w' := by
 have hq1 := hok.len.l1
 have hq2 := hok.len.l2
 have hq3 := hok.len.l3
 have hq4 := hok.len.l4
 have M : Mg w w ([]) := Mg.start w
 refine qx (l := [(0, .agg (d.cells ts.length).toArray)]) Tryd.func37 rfl Tryd.ntmps37 rfl rfl ?_
 intro Q hret hnorm hP a A
 refine wsk fun K1 hK1 => wrl (zn (vs := [.int .i64 d.k, .int .i64 d.n, .bool d.y.q.b1, .slice d.y.o1 d.y.q.t1.length d.y.c1, .slice d.y.o2 d.y.q.q1.length d.y.c2, .bool d.y.q.b2, .slice d.y.o3 d.y.q.t2.length d.y.c3, .slice d.y.o4 d.y.q.q2.length d.y.c4, .string d.s, .slice d.ro d.rl.length d.rc, .slice d.lo ts.length d.lc]) (t := 31) A M rfl rfl rfl pg (zj rfl rfl) (by decide) ?_)
 intro g2 w3 M a A
 refine sda A λa A↦?_
 refine qa (hK1 _ _ (wsk fun K4 hK4 => wrl (sda A λa A↦?_)))
 refine qa (hK4 _ _ (wsk fun K5 hK5 => ?_))
 have hJ6 : ∀ a w1, (∃ (ok : Bool) (z1 : Int) (z2 : Bool) (y1 : Option Addr) (m1 : Nat) (e1 : Nat) (y2 : Option Addr) (m2 : Nat) (e2 : Nat) (z3 : Bool) (y3 : Option Addr) (m3 : Nat) (e3 : Nat) (y4 : Option Addr) (m4 : Nat) (e4 : Nat) (zs : ByteArray) (yr : Option Addr) (mr : Nat) (er : Nat) (yl : Option Addr) (ml : Nat) (el : Nat), (zw d.k d.n d.y.q d.s d.rl.length ts.length = (ok && xj z1 z2 m1 m2 z3 m3 m4 zs mr ml) ∧ m1 ≤ 9223372036854775807 ∧ m2 ≤ 9223372036854775807 ∧ m3 ≤ 9223372036854775807 ∧ m4 ≤ 9223372036854775807) ∧ Sl a 59 [(0, .agg (d.cells ts.length).toArray), (1, .pointer (some ⟨g2, 0, none⟩)), (2, .bool false), (3, .bool ok)] ∧ Mg w w1 (.obj g2 (.cells #[.int .i64 d.k, .int .i64 z1, .bool z2, .slice y1 m1 e1, .slice y2 m2 e2, .bool z3, .slice y3 m3 e3, .slice y4 m4 e4, .string zs, .slice yr mr er, .slice yl ml el] 31) :: [])) → K5 a w1 := by
  clear A M
  rintro a w7 ⟨ok, z1, z2, y1, m1, e1, y2, m2, e2, z3, y3, m3, e3, y4, m4, e4, zs, yr, mr, er, yl, ml, el, hf8, A, M⟩
  obtain ⟨hsh, hq1, hq2, hq3, hq4⟩ := hf8
  refine hK5 _ _ (wsk fun K9 hK9 => wrl ?_)
  iterate 2 refine sdm A λa A↦?_
  rcases ok with _ | _
  ·
   iterate 2 refine qj A rfl rfl rfl λa A↦?_
   refine sdk (v := .bool false) A λa A↦?_
   refine sda A λa A↦?_
   refine qa (hK9 _ _ (wp_ret (hret _ _ (en1 A rfl (qf rfl) ?_))))
   exact ⟨by rw [hsh]; rfl, M.bel⟩
  ·
   refine sdo A (za M TrB_isS_31 rfl 0 rfl (cs := [.int .i64 d.k, .int .i64 z1, .bool z2, .slice y1 m1 e1, .slice y2 m2 e2, .bool z3, .slice y3 m3 e3, .slice y4 m4 e4, .string zs, .slice yr mr er, .slice yl ml el]) rfl rfl) λa A↦?_
   refine gcl A M (ef rfl rfl) (qsb (by first | exact hq1 | omega) (by first | exact hq2 | omega) (by first | exact hq3 | omega) (by first | exact hq4 | omega) rfl) fun w11 hb10 M a A => ?_
   refine sdo (v := .bool (xj z1 z2 m1 m2 z3 m3 m4 zs mr ml)) A (xh rfl rfl rfl rfl) λa A↦?_
   refine sda A λa A↦?_
   refine qa (hK9 _ _ (wp_ret (hret _ _ (en1 A rfl (qf rfl) ?_))))
   exact ⟨by rw [hsh]; rfl, M.bel⟩
 refine wsk fun K12 hK12 => wrl (sdo (v := .pointer (some ⟨g2, 0, none⟩)) A (qb TrB_fld_31_0 rfl rfl) λa A↦?_)
 refine sdo A (qs M TrB_is1_3 rfl 0 rfl rfl) λa A↦?_
 refine qa (hK12 _ _ (wp_block (wsk fun K13 hK13 => wsk fun K14 hK14 => wrl ?_)))
 rcases tf ((d.k == 1)) with hb15 | hb15
 ·
  have hb15' := eq_of_beq hb15
  refine sdc A qn hb15 λa A↦?_
  refine sda A λa A↦?_
  refine qa (hK14 _ _ (wp_cond_true (A.ev rfl) ?_))
  refine wp_skip (hK13 _ _ (wp_cond_true (A.ev rfl) ?_))
  refine wp_skip ?_
  exact hJ6 _ _ ⟨true, d.n, d.y.q.b1, d.y.o1, d.y.q.t1.length, d.y.c1, d.y.o2, d.y.q.q1.length, d.y.c2, d.y.q.b2, d.y.o3, d.y.q.t2.length, d.y.c3, d.y.o4, d.y.q.q2.length, d.y.c4, d.s, d.ro, d.rl.length, d.rc, d.lo, ts.length, d.lc, ⟨by
   unfold zw
   repeat (first | rw [if_pos (by omega)] | rw [if_neg (by omega)])
   first | rfl, by first | exact hq1 | decide, by first | exact hq2 | decide, by first | exact hq3 | decide, by first | exact hq4 | decide⟩, A.keep _ ⟨rfl, rfl, rfl, rfl, trivial⟩, M⟩
 ·
  have hb15' := ne_of_beq_false hb15
  refine sdc A qn hb15 λa A↦?_
  refine sda A λa A↦?_
  refine qa (hK14 _ _ (wp_cond_false (A.ev rfl) ?_))
  refine wrl ?_
  rcases tf ((d.k == 10)) with hb16 | hb16
  ·
   have hb16' := eq_of_beq hb16
   refine sdc A qn hb16 λa A↦?_
   refine sda A λa A↦?_
   refine qa (hK13 _ _ (wp_cond_true (A.ev rfl) ?_))
   refine wp_skip ?_
   exact hJ6 _ _ ⟨true, d.n, d.y.q.b1, d.y.o1, d.y.q.t1.length, d.y.c1, d.y.o2, d.y.q.q1.length, d.y.c2, d.y.q.b2, d.y.o3, d.y.q.t2.length, d.y.c3, d.y.o4, d.y.q.q2.length, d.y.c4, d.s, d.ro, d.rl.length, d.rc, d.lo, ts.length, d.lc, ⟨by
    unfold zw
    repeat (first | rw [if_pos (by omega)] | rw [if_neg (by omega)])
    first | rfl, by first | exact hq1 | decide, by first | exact hq2 | decide, by first | exact hq3 | decide, by first | exact hq4 | decide⟩, A.keep _ ⟨rfl, rfl, rfl, rfl, trivial⟩, M⟩
  ·
   have hb16' := ne_of_beq_false hb16
   refine sdc A qn hb16 λa A↦?_
   refine sda A λa A↦?_
   refine qa (hK13 _ _ (wp_cond_false (A.ev rfl) ?_))
   refine wsk fun K17 hK17 => wrl ?_
   rcases tf ((d.k == 2)) with hb18 | hb18
   ·
    have hb18' := eq_of_beq hb18
    refine sdc A qn hb18 λa A↦?_
    refine sda A λa A↦?_
    refine qa (hK17 _ _ (wp_cond_true (A.ev rfl) ?_))
    refine wrl (sdo (v := .pointer (some ⟨g2, 1, none⟩)) A (qb TrB_fld_31_1 rfl rfl) λa A↦?_)
    refine sdo A (qs M TrB_is1_3 rfl 0 rfl rfl) λa A↦?_
    rcases tf ((d.n == 0)) with hb19 | hb19
    ·
     have hb19' := eq_of_beq hb19
     refine sdc A qn hb19 λa A↦?_
     refine sdm A λa A↦?_
     iterate 3 refine qj A rfl rfl rfl λa A↦?_
     refine sdk (v := .bool true) A λa A↦?_
     refine sda A λa A↦?_
     refine sdo (v := .pointer (some ⟨g2, 1, none⟩)) A (qb TrB_fld_31_1 rfl rfl) λa A↦?_
     refine qt (us := [.int .i64 d.k, .int .i64 0, .bool d.y.q.b1, .slice d.y.o1 d.y.q.t1.length d.y.c1, .slice d.y.o2 d.y.q.q1.length d.y.c2, .bool d.y.q.b2, .slice d.y.o3 d.y.q.t2.length d.y.c3, .slice d.y.o4 d.y.q.q2.length d.y.c4, .string d.s, .slice d.ro d.rl.length d.rc, .slice d.lo ts.length d.lc]) (L' := (.obj g2 (.cells #[.int .i64 d.k, .int .i64 0, .bool d.y.q.b1, .slice d.y.o1 d.y.q.t1.length d.y.c1, .slice d.y.o2 d.y.q.q1.length d.y.c2, .bool d.y.q.b2, .slice d.y.o3 d.y.q.t2.length d.y.c3, .slice d.y.o4 d.y.q.q2.length d.y.c4, .string d.s, .slice d.ro d.rl.length d.rc, .slice d.lo ts.length d.lc] 31) :: [])) A M rfl rfl (qi rfl rfl rfl (by kernel_rfl) M 0 rfl rfl rfl) 0 rfl rfl rfl ?_
     intro w20 M
     refine qa ?_
     exact hJ6 _ _ ⟨true, 0, d.y.q.b1, d.y.o1, d.y.q.t1.length, d.y.c1, d.y.o2, d.y.q.q1.length, d.y.c2, d.y.q.b2, d.y.o3, d.y.q.t2.length, d.y.c3, d.y.o4, d.y.q.q2.length, d.y.c4, d.s, d.ro, d.rl.length, d.rc, d.lo, ts.length, d.lc, ⟨by
      unfold zw
      repeat (first | rw [if_pos (by omega)] | rw [if_neg (by omega)])
      first | rfl | (rw [decide_eq_true (show (d.n = 0 ∨ d.n = 1) by omega)]), by first | exact hq1 | decide, by first | exact hq2 | decide, by first | exact hq3 | decide, by first | exact hq4 | decide⟩, A.keep _ ⟨rfl, rfl, rfl, rfl, trivial⟩, M⟩
    ·
     have hb19' := ne_of_beq_false hb19
     refine sdc A qn hb19 λa A↦?_
     refine sdm A λa A↦?_
     refine sdo (v := .pointer (some ⟨g2, 1, none⟩)) A (qb TrB_fld_31_1 rfl rfl) λa A↦?_
     refine sdo A (qs M TrB_is1_3 rfl 0 rfl rfl) λa A↦?_
     rcases tf ((d.n == 1)) with hb21 | hb21
     ·
      have hb21' := eq_of_beq hb21
      refine sdc A qn hb21 λa A↦?_
      refine sdk (v := .bool true) A λa A↦?_
      refine sda A λa A↦?_
      refine sdo (v := .pointer (some ⟨g2, 1, none⟩)) A (qb TrB_fld_31_1 rfl rfl) λa A↦?_
      refine qt (us := [.int .i64 d.k, .int .i64 0, .bool d.y.q.b1, .slice d.y.o1 d.y.q.t1.length d.y.c1, .slice d.y.o2 d.y.q.q1.length d.y.c2, .bool d.y.q.b2, .slice d.y.o3 d.y.q.t2.length d.y.c3, .slice d.y.o4 d.y.q.q2.length d.y.c4, .string d.s, .slice d.ro d.rl.length d.rc, .slice d.lo ts.length d.lc]) (L' := (.obj g2 (.cells #[.int .i64 d.k, .int .i64 0, .bool d.y.q.b1, .slice d.y.o1 d.y.q.t1.length d.y.c1, .slice d.y.o2 d.y.q.q1.length d.y.c2, .bool d.y.q.b2, .slice d.y.o3 d.y.q.t2.length d.y.c3, .slice d.y.o4 d.y.q.q2.length d.y.c4, .string d.s, .slice d.ro d.rl.length d.rc, .slice d.lo ts.length d.lc] 31) :: [])) A M rfl rfl (qi rfl rfl rfl (by kernel_rfl) M 0 rfl rfl rfl) 0 rfl rfl rfl ?_
      intro w22 M
      refine qa ?_
      exact hJ6 _ _ ⟨true, 0, d.y.q.b1, d.y.o1, d.y.q.t1.length, d.y.c1, d.y.o2, d.y.q.q1.length, d.y.c2, d.y.q.b2, d.y.o3, d.y.q.t2.length, d.y.c3, d.y.o4, d.y.q.q2.length, d.y.c4, d.s, d.ro, d.rl.length, d.rc, d.lo, ts.length, d.lc, ⟨by
       unfold zw
       repeat (first | rw [if_pos (by omega)] | rw [if_neg (by omega)])
       first | rfl | (rw [decide_eq_true (show (d.n = 0 ∨ d.n = 1) by omega)]), by first | exact hq1 | decide, by first | exact hq2 | decide, by first | exact hq3 | decide, by first | exact hq4 | decide⟩, A.keep _ ⟨rfl, rfl, rfl, rfl, trivial⟩, M⟩
     ·
      have hb21' := ne_of_beq_false hb21
      refine sdc A qn hb21 λa A↦?_
      refine sdk (v := .bool false) A λa A↦?_
      refine sda A λa A↦?_
      refine sdo (v := .pointer (some ⟨g2, 1, none⟩)) A (qb TrB_fld_31_1 rfl rfl) λa A↦?_
      refine qt (us := [.int .i64 d.k, .int .i64 0, .bool d.y.q.b1, .slice d.y.o1 d.y.q.t1.length d.y.c1, .slice d.y.o2 d.y.q.q1.length d.y.c2, .bool d.y.q.b2, .slice d.y.o3 d.y.q.t2.length d.y.c3, .slice d.y.o4 d.y.q.q2.length d.y.c4, .string d.s, .slice d.ro d.rl.length d.rc, .slice d.lo ts.length d.lc]) (L' := (.obj g2 (.cells #[.int .i64 d.k, .int .i64 0, .bool d.y.q.b1, .slice d.y.o1 d.y.q.t1.length d.y.c1, .slice d.y.o2 d.y.q.q1.length d.y.c2, .bool d.y.q.b2, .slice d.y.o3 d.y.q.t2.length d.y.c3, .slice d.y.o4 d.y.q.q2.length d.y.c4, .string d.s, .slice d.ro d.rl.length d.rc, .slice d.lo ts.length d.lc] 31) :: [])) A M rfl rfl (qi rfl rfl rfl (by kernel_rfl) M 0 rfl rfl rfl) 0 rfl rfl rfl ?_
      intro w23 M
      refine qa ?_
      exact hJ6 _ _ ⟨false, 0, d.y.q.b1, d.y.o1, d.y.q.t1.length, d.y.c1, d.y.o2, d.y.q.q1.length, d.y.c2, d.y.q.b2, d.y.o3, d.y.q.t2.length, d.y.c3, d.y.o4, d.y.q.q2.length, d.y.c4, d.s, d.ro, d.rl.length, d.rc, d.lo, ts.length, d.lc, ⟨by
       unfold zw
       repeat (first | rw [if_pos (by omega)] | rw [if_neg (by omega)])
       first | rfl | (rw [decide_eq_false (show ¬ (d.n = 0 ∨ d.n = 1) by omega)]), by first | exact hq1 | decide, by first | exact hq2 | decide, by first | exact hq3 | decide, by first | exact hq4 | decide⟩, A.keep _ ⟨rfl, rfl, rfl, rfl, trivial⟩, M⟩
   ·
    have hb18' := ne_of_beq_false hb18
    refine sdc A qn hb18 λa A↦?_
    refine sda A λa A↦?_
    refine qa (hK17 _ _ (wp_cond_false (A.ev rfl) ?_))
    refine wsk fun K24 hK24 => wrl ?_
    rcases tf ((d.k == 3)) with hb25 | hb25
    ·
     have hb25' := eq_of_beq hb25
     refine sdc A qn hb25 λa A↦?_
     refine sda A λa A↦?_
     refine qa (hK24 _ _ (wp_cond_true (A.ev rfl) ?_))
     refine wrl (sdo (v := .pointer (some ⟨g2, 2, none⟩)) A (qb TrB_fld_31_2 rfl rfl) λa A↦?_)
     refine sdo A (za M TrB_isS_28 rfl 0 rfl (cs := [.bool d.y.q.b1, .slice d.y.o1 d.y.q.t1.length d.y.c1, .slice d.y.o2 d.y.q.q1.length d.y.c2, .bool d.y.q.b2, .slice d.y.o3 d.y.q.t2.length d.y.c3, .slice d.y.o4 d.y.q.q2.length d.y.c4]) rfl rfl) λa A↦?_
     rcases tf (qla d.y.q) with hb26 | hb26
     ·
      refine gcl A M (ef rfl rfl) (qag (Nu.below hok.num M.bel) hok.len hb26) fun w28 hb27 M a A => ?_
      refine sdo (v := .agg #[.bool false, .slice none 0 0, .slice none 0 0, .bool false, .slice none 0 0, .slice none 0 0]) A (zb rfl (fun w => by kernel_rfl)) λa A↦?_
      refine sda A λa A↦?_
      refine sdo (v := .pointer (some ⟨g2, 2, none⟩)) A (qb TrB_fld_31_2 rfl rfl) λa A↦?_
      refine qt (us := [.int .i64 d.k, .int .i64 d.n, .bool false, .slice none 0 0, .slice none 0 0, .bool false, .slice none 0 0, .slice none 0 0, .string d.s, .slice d.ro d.rl.length d.rc, .slice d.lo ts.length d.lc]) (L' := (.obj g2 (.cells #[.int .i64 d.k, .int .i64 d.n, .bool false, .slice none 0 0, .slice none 0 0, .bool false, .slice none 0 0, .slice none 0 0, .string d.s, .slice d.ro d.rl.length d.rc, .slice d.lo ts.length d.lc] 31) :: [])) A M rfl rfl (qi rfl rfl rfl (by kernel_rfl) M 0 rfl rfl rfl) 0 rfl rfl rfl ?_
      intro w29 M
      refine qa ?_
      exact hJ6 _ _ ⟨true, d.n, false, none, 0, 0, none, 0, 0, false, none, 0, 0, none, 0, 0, d.s, d.ro, d.rl.length, d.rc, d.lo, ts.length, d.lc, ⟨by
       unfold zw
       repeat (first | rw [if_pos (by omega)] | rw [if_neg (by omega)])
       first | rfl | rw [hb26], by first | exact hq1 | decide, by first | exact hq2 | decide, by first | exact hq3 | decide, by first | exact hq4 | decide⟩, A.keep _ ⟨rfl, rfl, rfl, rfl, trivial⟩, M⟩
     ·
      refine gcl A M (ef rfl rfl) (qag (Nu.below hok.num M.bel) hok.len hb26) fun w31 hb30 M a A => ?_
      refine sdo (v := .agg #[.bool false, .slice none 0 0, .slice none 0 0, .bool false, .slice none 0 0, .slice none 0 0]) A (zb rfl (fun w => by kernel_rfl)) λa A↦?_
      refine sda A λa A↦?_
      refine sdo (v := .pointer (some ⟨g2, 2, none⟩)) A (qb TrB_fld_31_2 rfl rfl) λa A↦?_
      refine qt (us := [.int .i64 d.k, .int .i64 d.n, .bool false, .slice none 0 0, .slice none 0 0, .bool false, .slice none 0 0, .slice none 0 0, .string d.s, .slice d.ro d.rl.length d.rc, .slice d.lo ts.length d.lc]) (L' := (.obj g2 (.cells #[.int .i64 d.k, .int .i64 d.n, .bool false, .slice none 0 0, .slice none 0 0, .bool false, .slice none 0 0, .slice none 0 0, .string d.s, .slice d.ro d.rl.length d.rc, .slice d.lo ts.length d.lc] 31) :: [])) A M rfl rfl (qi rfl rfl rfl (by kernel_rfl) M 0 rfl rfl rfl) 0 rfl rfl rfl ?_
      intro w32 M
      refine qa ?_
      exact hJ6 _ _ ⟨false, d.n, false, none, 0, 0, none, 0, 0, false, none, 0, 0, none, 0, 0, d.s, d.ro, d.rl.length, d.rc, d.lo, ts.length, d.lc, ⟨by
       unfold zw
       repeat (first | rw [if_pos (by omega)] | rw [if_neg (by omega)])
       first | rfl | rw [hb26], by first | exact hq1 | decide, by first | exact hq2 | decide, by first | exact hq3 | decide, by first | exact hq4 | decide⟩, A.keep _ ⟨rfl, rfl, rfl, rfl, trivial⟩, M⟩
    ·
     have hb25' := ne_of_beq_false hb25
     refine sdc A qn hb25 λa A↦?_
     refine sda A λa A↦?_
     refine qa (hK24 _ _ (wp_cond_false (A.ev rfl) ?_))
     refine wsk fun K33 hK33 => wrl ?_
     rcases tf ((d.k == 4)) with hb34 | hb34
     ·
      have hb34' := eq_of_beq hb34
      refine sdc A qn hb34 λa A↦?_
      refine sda A λa A↦?_
      refine qa (hK33 _ _ (wp_cond_true (A.ev rfl) ?_))
      refine wrl (sdo (v := .pointer (some ⟨g2, 1, none⟩)) A (qb TrB_fld_31_1 rfl rfl) λa A↦?_)
      refine sdo A (qs M TrB_is1_3 rfl 0 rfl rfl) λa A↦?_
      rcases tf (qfe d.n) with hb35 | hb35
      ·
       refine gcl A M (ef rfl rfl) ((hb35 ▸ qif)) fun w37 hb36 M a A => ?_
       refine sda A λa A↦?_
       refine sdo (v := .pointer (some ⟨g2, 1, none⟩)) A (qb TrB_fld_31_1 rfl rfl) λa A↦?_
       refine qt (us := [.int .i64 d.k, .int .i64 0, .bool d.y.q.b1, .slice d.y.o1 d.y.q.t1.length d.y.c1, .slice d.y.o2 d.y.q.q1.length d.y.c2, .bool d.y.q.b2, .slice d.y.o3 d.y.q.t2.length d.y.c3, .slice d.y.o4 d.y.q.q2.length d.y.c4, .string d.s, .slice d.ro d.rl.length d.rc, .slice d.lo ts.length d.lc]) (L' := (.obj g2 (.cells #[.int .i64 d.k, .int .i64 0, .bool d.y.q.b1, .slice d.y.o1 d.y.q.t1.length d.y.c1, .slice d.y.o2 d.y.q.q1.length d.y.c2, .bool d.y.q.b2, .slice d.y.o3 d.y.q.t2.length d.y.c3, .slice d.y.o4 d.y.q.q2.length d.y.c4, .string d.s, .slice d.ro d.rl.length d.rc, .slice d.lo ts.length d.lc] 31) :: [])) A M rfl rfl (qi rfl rfl rfl (by kernel_rfl) M 0 rfl rfl rfl) 0 rfl rfl rfl ?_
       intro w38 M
       refine qa ?_
       exact hJ6 _ _ ⟨true, 0, d.y.q.b1, d.y.o1, d.y.q.t1.length, d.y.c1, d.y.o2, d.y.q.q1.length, d.y.c2, d.y.q.b2, d.y.o3, d.y.q.t2.length, d.y.c3, d.y.o4, d.y.q.q2.length, d.y.c4, d.s, d.ro, d.rl.length, d.rc, d.lo, ts.length, d.lc, ⟨by
        unfold zw
        repeat (first | rw [if_pos (by omega)] | rw [if_neg (by omega)])
        first | rfl | rw [hb35], by first | exact hq1 | decide, by first | exact hq2 | decide, by first | exact hq3 | decide, by first | exact hq4 | decide⟩, A.keep _ ⟨rfl, rfl, rfl, rfl, trivial⟩, M⟩
      ·
       refine gcl A M (ef rfl rfl) ((hb35 ▸ qif)) fun w40 hb39 M a A => ?_
       refine sda A λa A↦?_
       refine sdo (v := .pointer (some ⟨g2, 1, none⟩)) A (qb TrB_fld_31_1 rfl rfl) λa A↦?_
       refine qt (us := [.int .i64 d.k, .int .i64 0, .bool d.y.q.b1, .slice d.y.o1 d.y.q.t1.length d.y.c1, .slice d.y.o2 d.y.q.q1.length d.y.c2, .bool d.y.q.b2, .slice d.y.o3 d.y.q.t2.length d.y.c3, .slice d.y.o4 d.y.q.q2.length d.y.c4, .string d.s, .slice d.ro d.rl.length d.rc, .slice d.lo ts.length d.lc]) (L' := (.obj g2 (.cells #[.int .i64 d.k, .int .i64 0, .bool d.y.q.b1, .slice d.y.o1 d.y.q.t1.length d.y.c1, .slice d.y.o2 d.y.q.q1.length d.y.c2, .bool d.y.q.b2, .slice d.y.o3 d.y.q.t2.length d.y.c3, .slice d.y.o4 d.y.q.q2.length d.y.c4, .string d.s, .slice d.ro d.rl.length d.rc, .slice d.lo ts.length d.lc] 31) :: [])) A M rfl rfl (qi rfl rfl rfl (by kernel_rfl) M 0 rfl rfl rfl) 0 rfl rfl rfl ?_
       intro w41 M
       refine qa ?_
       exact hJ6 _ _ ⟨false, 0, d.y.q.b1, d.y.o1, d.y.q.t1.length, d.y.c1, d.y.o2, d.y.q.q1.length, d.y.c2, d.y.q.b2, d.y.o3, d.y.q.t2.length, d.y.c3, d.y.o4, d.y.q.q2.length, d.y.c4, d.s, d.ro, d.rl.length, d.rc, d.lo, ts.length, d.lc, ⟨by
        unfold zw
        repeat (first | rw [if_pos (by omega)] | rw [if_neg (by omega)])
        first | rfl | rw [hb35], by first | exact hq1 | decide, by first | exact hq2 | decide, by first | exact hq3 | decide, by first | exact hq4 | decide⟩, A.keep _ ⟨rfl, rfl, rfl, rfl, trivial⟩, M⟩
     ·
      have hb34' := ne_of_beq_false hb34
      refine sdc A qn hb34 λa A↦?_
      refine sda A λa A↦?_
      refine qa (hK33 _ _ (wp_cond_false (A.ev rfl) ?_))
      refine wsk fun K42 hK42 => wsk fun K43 hK43 => wrl ?_
      rcases tf ((d.k == 5)) with hb44 | hb44
      ·
       have hb44' := eq_of_beq hb44
       refine sdc A qn hb44 λa A↦?_
       refine sda A λa A↦?_
       refine qa (hK43 _ _ (wp_cond_true (A.ev rfl) ?_))
       refine wp_skip (hK42 _ _ (wp_cond_true (A.ev rfl) ?_))
       refine wrl (sdo (v := .pointer (some ⟨g2, 8, none⟩)) A (qb TrB_fld_31_3 rfl rfl) λa A↦?_)
       refine sdo A (qs M TrB_is1_9 rfl 0 rfl rfl) λa A↦?_
       rcases tf (okS d.s) with hb45 | hb45
       ·
        refine gcl A M (ef rfl rfl) (vh hok.smax (hT.below M.bel) hb45) fun w47 hb46 M a A => ?_
        refine sda A λa A↦?_
        refine sdo (v := .pointer (some ⟨g2, 8, none⟩)) A (qb TrB_fld_31_3 rfl rfl) λa A↦?_
        refine qt (us := [.int .i64 d.k, .int .i64 d.n, .bool d.y.q.b1, .slice d.y.o1 d.y.q.t1.length d.y.c1, .slice d.y.o2 d.y.q.q1.length d.y.c2, .bool d.y.q.b2, .slice d.y.o3 d.y.q.t2.length d.y.c3, .slice d.y.o4 d.y.q.q2.length d.y.c4, .string (⟨#[]⟩), .slice d.ro d.rl.length d.rc, .slice d.lo ts.length d.lc]) (L' := (.obj g2 (.cells #[.int .i64 d.k, .int .i64 d.n, .bool d.y.q.b1, .slice d.y.o1 d.y.q.t1.length d.y.c1, .slice d.y.o2 d.y.q.q1.length d.y.c2, .bool d.y.q.b2, .slice d.y.o3 d.y.q.t2.length d.y.c3, .slice d.y.o4 d.y.q.q2.length d.y.c4, .string (⟨#[]⟩), .slice d.ro d.rl.length d.rc, .slice d.lo ts.length d.lc] 31) :: [])) A M rfl rfl (qi rfl rfl rfl (by kernel_rfl) M 0 rfl rfl rfl) 0 rfl rfl rfl ?_
        intro w48 M
        refine qa ?_
        exact hJ6 _ _ ⟨true, d.n, d.y.q.b1, d.y.o1, d.y.q.t1.length, d.y.c1, d.y.o2, d.y.q.q1.length, d.y.c2, d.y.q.b2, d.y.o3, d.y.q.t2.length, d.y.c3, d.y.o4, d.y.q.q2.length, d.y.c4, ⟨#[]⟩, d.ro, d.rl.length, d.rc, d.lo, ts.length, d.lc, ⟨by
         unfold zw
         repeat (first | rw [if_pos (by omega)] | rw [if_neg (by omega)])
         first | rfl | rw [hb45], by first | exact hq1 | decide, by first | exact hq2 | decide, by first | exact hq3 | decide, by first | exact hq4 | decide⟩, A.keep _ ⟨rfl, rfl, rfl, rfl, trivial⟩, M⟩
       ·
        refine gcl A M (ef rfl rfl) (vh hok.smax (hT.below M.bel) hb45) fun w50 hb49 M a A => ?_
        refine sda A λa A↦?_
        refine sdo (v := .pointer (some ⟨g2, 8, none⟩)) A (qb TrB_fld_31_3 rfl rfl) λa A↦?_
        refine qt (us := [.int .i64 d.k, .int .i64 d.n, .bool d.y.q.b1, .slice d.y.o1 d.y.q.t1.length d.y.c1, .slice d.y.o2 d.y.q.q1.length d.y.c2, .bool d.y.q.b2, .slice d.y.o3 d.y.q.t2.length d.y.c3, .slice d.y.o4 d.y.q.q2.length d.y.c4, .string (⟨#[]⟩), .slice d.ro d.rl.length d.rc, .slice d.lo ts.length d.lc]) (L' := (.obj g2 (.cells #[.int .i64 d.k, .int .i64 d.n, .bool d.y.q.b1, .slice d.y.o1 d.y.q.t1.length d.y.c1, .slice d.y.o2 d.y.q.q1.length d.y.c2, .bool d.y.q.b2, .slice d.y.o3 d.y.q.t2.length d.y.c3, .slice d.y.o4 d.y.q.q2.length d.y.c4, .string (⟨#[]⟩), .slice d.ro d.rl.length d.rc, .slice d.lo ts.length d.lc] 31) :: [])) A M rfl rfl (qi rfl rfl rfl (by kernel_rfl) M 0 rfl rfl rfl) 0 rfl rfl rfl ?_
        intro w51 M
        refine qa ?_
        exact hJ6 _ _ ⟨false, d.n, d.y.q.b1, d.y.o1, d.y.q.t1.length, d.y.c1, d.y.o2, d.y.q.q1.length, d.y.c2, d.y.q.b2, d.y.o3, d.y.q.t2.length, d.y.c3, d.y.o4, d.y.q.q2.length, d.y.c4, ⟨#[]⟩, d.ro, d.rl.length, d.rc, d.lo, ts.length, d.lc, ⟨by
         unfold zw
         repeat (first | rw [if_pos (by omega)] | rw [if_neg (by omega)])
         first | rfl | rw [hb45], by first | exact hq1 | decide, by first | exact hq2 | decide, by first | exact hq3 | decide, by first | exact hq4 | decide⟩, A.keep _ ⟨rfl, rfl, rfl, rfl, trivial⟩, M⟩
      ·
       have hb44' := ne_of_beq_false hb44
       refine sdc A qn hb44 λa A↦?_
       refine sda A λa A↦?_
       refine qa (hK43 _ _ (wp_cond_false (A.ev rfl) ?_))
       refine wsk fun K52 hK52 => wrl ?_
       rcases tf ((d.k == 6)) with hb53 | hb53
       ·
        have hb53' := eq_of_beq hb53
        refine sdc A qn hb53 λa A↦?_
        refine sda A λa A↦?_
        refine qa (hK52 _ _ (wp_cond_true (A.ev rfl) ?_))
        refine wp_skip (hK42 _ _ (wp_cond_true (A.ev rfl) ?_))
        refine wrl (sdo (v := .pointer (some ⟨g2, 8, none⟩)) A (qb TrB_fld_31_3 rfl rfl) λa A↦?_)
        refine sdo A (qs M TrB_is1_9 rfl 0 rfl rfl) λa A↦?_
        rcases tf (okS d.s) with hb54 | hb54
        ·
         refine gcl A M (ef rfl rfl) (vh hok.smax (hT.below M.bel) hb54) fun w56 hb55 M a A => ?_
         refine sda A λa A↦?_
         refine sdo (v := .pointer (some ⟨g2, 8, none⟩)) A (qb TrB_fld_31_3 rfl rfl) λa A↦?_
         refine qt (us := [.int .i64 d.k, .int .i64 d.n, .bool d.y.q.b1, .slice d.y.o1 d.y.q.t1.length d.y.c1, .slice d.y.o2 d.y.q.q1.length d.y.c2, .bool d.y.q.b2, .slice d.y.o3 d.y.q.t2.length d.y.c3, .slice d.y.o4 d.y.q.q2.length d.y.c4, .string (⟨#[]⟩), .slice d.ro d.rl.length d.rc, .slice d.lo ts.length d.lc]) (L' := (.obj g2 (.cells #[.int .i64 d.k, .int .i64 d.n, .bool d.y.q.b1, .slice d.y.o1 d.y.q.t1.length d.y.c1, .slice d.y.o2 d.y.q.q1.length d.y.c2, .bool d.y.q.b2, .slice d.y.o3 d.y.q.t2.length d.y.c3, .slice d.y.o4 d.y.q.q2.length d.y.c4, .string (⟨#[]⟩), .slice d.ro d.rl.length d.rc, .slice d.lo ts.length d.lc] 31) :: [])) A M rfl rfl (qi rfl rfl rfl (by kernel_rfl) M 0 rfl rfl rfl) 0 rfl rfl rfl ?_
         intro w57 M
         refine qa ?_
         exact hJ6 _ _ ⟨true, d.n, d.y.q.b1, d.y.o1, d.y.q.t1.length, d.y.c1, d.y.o2, d.y.q.q1.length, d.y.c2, d.y.q.b2, d.y.o3, d.y.q.t2.length, d.y.c3, d.y.o4, d.y.q.q2.length, d.y.c4, ⟨#[]⟩, d.ro, d.rl.length, d.rc, d.lo, ts.length, d.lc, ⟨by
          unfold zw
          repeat (first | rw [if_pos (by omega)] | rw [if_neg (by omega)])
          first | rfl | rw [hb54], by first | exact hq1 | decide, by first | exact hq2 | decide, by first | exact hq3 | decide, by first | exact hq4 | decide⟩, A.keep _ ⟨rfl, rfl, rfl, rfl, trivial⟩, M⟩
        ·
         refine gcl A M (ef rfl rfl) (vh hok.smax (hT.below M.bel) hb54) fun w59 hb58 M a A => ?_
         refine sda A λa A↦?_
         refine sdo (v := .pointer (some ⟨g2, 8, none⟩)) A (qb TrB_fld_31_3 rfl rfl) λa A↦?_
         refine qt (us := [.int .i64 d.k, .int .i64 d.n, .bool d.y.q.b1, .slice d.y.o1 d.y.q.t1.length d.y.c1, .slice d.y.o2 d.y.q.q1.length d.y.c2, .bool d.y.q.b2, .slice d.y.o3 d.y.q.t2.length d.y.c3, .slice d.y.o4 d.y.q.q2.length d.y.c4, .string (⟨#[]⟩), .slice d.ro d.rl.length d.rc, .slice d.lo ts.length d.lc]) (L' := (.obj g2 (.cells #[.int .i64 d.k, .int .i64 d.n, .bool d.y.q.b1, .slice d.y.o1 d.y.q.t1.length d.y.c1, .slice d.y.o2 d.y.q.q1.length d.y.c2, .bool d.y.q.b2, .slice d.y.o3 d.y.q.t2.length d.y.c3, .slice d.y.o4 d.y.q.q2.length d.y.c4, .string (⟨#[]⟩), .slice d.ro d.rl.length d.rc, .slice d.lo ts.length d.lc] 31) :: [])) A M rfl rfl (qi rfl rfl rfl (by kernel_rfl) M 0 rfl rfl rfl) 0 rfl rfl rfl ?_
         intro w60 M
         refine qa ?_
         exact hJ6 _ _ ⟨false, d.n, d.y.q.b1, d.y.o1, d.y.q.t1.length, d.y.c1, d.y.o2, d.y.q.q1.length, d.y.c2, d.y.q.b2, d.y.o3, d.y.q.t2.length, d.y.c3, d.y.o4, d.y.q.q2.length, d.y.c4, ⟨#[]⟩, d.ro, d.rl.length, d.rc, d.lo, ts.length, d.lc, ⟨by
          unfold zw
          repeat (first | rw [if_pos (by omega)] | rw [if_neg (by omega)])
          first | rfl | rw [hb54], by first | exact hq1 | decide, by first | exact hq2 | decide, by first | exact hq3 | decide, by first | exact hq4 | decide⟩, A.keep _ ⟨rfl, rfl, rfl, rfl, trivial⟩, M⟩
       ·
        have hb53' := ne_of_beq_false hb53
        refine sdc A qn hb53 λa A↦?_
        refine sda A λa A↦?_
        refine qa (hK52 _ _ (wp_cond_false (A.ev rfl) ?_))
        refine wrl ?_
        rcases tf ((d.k == 11)) with hb61 | hb61
        ·
         have hb61' := eq_of_beq hb61
         refine sdc A qn hb61 λa A↦?_
         refine sda A λa A↦?_
         refine qa (hK42 _ _ (wp_cond_true (A.ev rfl) ?_))
         refine wrl (sdo (v := .pointer (some ⟨g2, 8, none⟩)) A (qb TrB_fld_31_3 rfl rfl) λa A↦?_)
         refine sdo A (qs M TrB_is1_9 rfl 0 rfl rfl) λa A↦?_
         rcases tf (okS d.s) with hb62 | hb62
         ·
          refine gcl A M (ef rfl rfl) (vh hok.smax (hT.below M.bel) hb62) fun w64 hb63 M a A => ?_
          refine sda A λa A↦?_
          refine sdo (v := .pointer (some ⟨g2, 8, none⟩)) A (qb TrB_fld_31_3 rfl rfl) λa A↦?_
          refine qt (us := [.int .i64 d.k, .int .i64 d.n, .bool d.y.q.b1, .slice d.y.o1 d.y.q.t1.length d.y.c1, .slice d.y.o2 d.y.q.q1.length d.y.c2, .bool d.y.q.b2, .slice d.y.o3 d.y.q.t2.length d.y.c3, .slice d.y.o4 d.y.q.q2.length d.y.c4, .string (⟨#[]⟩), .slice d.ro d.rl.length d.rc, .slice d.lo ts.length d.lc]) (L' := (.obj g2 (.cells #[.int .i64 d.k, .int .i64 d.n, .bool d.y.q.b1, .slice d.y.o1 d.y.q.t1.length d.y.c1, .slice d.y.o2 d.y.q.q1.length d.y.c2, .bool d.y.q.b2, .slice d.y.o3 d.y.q.t2.length d.y.c3, .slice d.y.o4 d.y.q.q2.length d.y.c4, .string (⟨#[]⟩), .slice d.ro d.rl.length d.rc, .slice d.lo ts.length d.lc] 31) :: [])) A M rfl rfl (qi rfl rfl rfl (by kernel_rfl) M 0 rfl rfl rfl) 0 rfl rfl rfl ?_
          intro w65 M
          refine qa ?_
          exact hJ6 _ _ ⟨true, d.n, d.y.q.b1, d.y.o1, d.y.q.t1.length, d.y.c1, d.y.o2, d.y.q.q1.length, d.y.c2, d.y.q.b2, d.y.o3, d.y.q.t2.length, d.y.c3, d.y.o4, d.y.q.q2.length, d.y.c4, ⟨#[]⟩, d.ro, d.rl.length, d.rc, d.lo, ts.length, d.lc, ⟨by
           unfold zw
           repeat (first | rw [if_pos (by omega)] | rw [if_neg (by omega)])
           first | rfl | rw [hb62], by first | exact hq1 | decide, by first | exact hq2 | decide, by first | exact hq3 | decide, by first | exact hq4 | decide⟩, A.keep _ ⟨rfl, rfl, rfl, rfl, trivial⟩, M⟩
         ·
          refine gcl A M (ef rfl rfl) (vh hok.smax (hT.below M.bel) hb62) fun w67 hb66 M a A => ?_
          refine sda A λa A↦?_
          refine sdo (v := .pointer (some ⟨g2, 8, none⟩)) A (qb TrB_fld_31_3 rfl rfl) λa A↦?_
          refine qt (us := [.int .i64 d.k, .int .i64 d.n, .bool d.y.q.b1, .slice d.y.o1 d.y.q.t1.length d.y.c1, .slice d.y.o2 d.y.q.q1.length d.y.c2, .bool d.y.q.b2, .slice d.y.o3 d.y.q.t2.length d.y.c3, .slice d.y.o4 d.y.q.q2.length d.y.c4, .string (⟨#[]⟩), .slice d.ro d.rl.length d.rc, .slice d.lo ts.length d.lc]) (L' := (.obj g2 (.cells #[.int .i64 d.k, .int .i64 d.n, .bool d.y.q.b1, .slice d.y.o1 d.y.q.t1.length d.y.c1, .slice d.y.o2 d.y.q.q1.length d.y.c2, .bool d.y.q.b2, .slice d.y.o3 d.y.q.t2.length d.y.c3, .slice d.y.o4 d.y.q.q2.length d.y.c4, .string (⟨#[]⟩), .slice d.ro d.rl.length d.rc, .slice d.lo ts.length d.lc] 31) :: [])) A M rfl rfl (qi rfl rfl rfl (by kernel_rfl) M 0 rfl rfl rfl) 0 rfl rfl rfl ?_
          intro w68 M
          refine qa ?_
          exact hJ6 _ _ ⟨false, d.n, d.y.q.b1, d.y.o1, d.y.q.t1.length, d.y.c1, d.y.o2, d.y.q.q1.length, d.y.c2, d.y.q.b2, d.y.o3, d.y.q.t2.length, d.y.c3, d.y.o4, d.y.q.q2.length, d.y.c4, ⟨#[]⟩, d.ro, d.rl.length, d.rc, d.lo, ts.length, d.lc, ⟨by
           unfold zw
           repeat (first | rw [if_pos (by omega)] | rw [if_neg (by omega)])
           first | rfl | rw [hb62], by first | exact hq1 | decide, by first | exact hq2 | decide, by first | exact hq3 | decide, by first | exact hq4 | decide⟩, A.keep _ ⟨rfl, rfl, rfl, rfl, trivial⟩, M⟩
        ·
         have hb61' := ne_of_beq_false hb61
         refine sdc A qn hb61 λa A↦?_
         refine sda A λa A↦?_
         refine qa (hK42 _ _ (wp_cond_false (A.ev rfl) ?_))
         refine wsk fun K69 hK69 => wrl ?_
         rcases tf ((d.k == 7)) with hb70 | hb70
         ·
          have hb70' := eq_of_beq hb70
          refine sdc A qn hb70 λa A↦?_
          refine sda A λa A↦?_
          refine qa (hK69 _ _ (wp_cond_true (A.ev rfl) ?_))
          refine wrl (sdo (v := .pointer (some ⟨g2, 9, none⟩)) A (qb TrB_fld_31_4 rfl rfl) λa A↦?_)
          refine qt (us := [.int .i64 d.k, .int .i64 d.n, .bool d.y.q.b1, .slice d.y.o1 d.y.q.t1.length d.y.c1, .slice d.y.o2 d.y.q.q1.length d.y.c2, .bool d.y.q.b2, .slice d.y.o3 d.y.q.t2.length d.y.c3, .slice d.y.o4 d.y.q.q2.length d.y.c4, .string d.s, .slice none 0 0, .slice d.lo ts.length d.lc]) (L' := (.obj g2 (.cells #[.int .i64 d.k, .int .i64 d.n, .bool d.y.q.b1, .slice d.y.o1 d.y.q.t1.length d.y.c1, .slice d.y.o2 d.y.q.q1.length d.y.c2, .bool d.y.q.b2, .slice d.y.o3 d.y.q.t2.length d.y.c3, .slice d.y.o4 d.y.q.q2.length d.y.c4, .string d.s, .slice none 0 0, .slice d.lo ts.length d.lc] 31) :: [])) A M rfl rfl (qi rfl rfl rfl (by kernel_rfl) M 0 rfl rfl rfl) 0 rfl rfl rfl ?_
          intro w71 M
          refine qa ?_
          exact hJ6 _ _ ⟨true, d.n, d.y.q.b1, d.y.o1, d.y.q.t1.length, d.y.c1, d.y.o2, d.y.q.q1.length, d.y.c2, d.y.q.b2, d.y.o3, d.y.q.t2.length, d.y.c3, d.y.o4, d.y.q.q2.length, d.y.c4, d.s, none, 0, 0, d.lo, ts.length, d.lc, ⟨by
           unfold zw
           repeat (first | rw [if_pos (by omega)] | rw [if_neg (by omega)])
           first | rfl, by first | exact hq1 | decide, by first | exact hq2 | decide, by first | exact hq3 | decide, by first | exact hq4 | decide⟩, A.keep _ ⟨rfl, rfl, rfl, rfl, trivial⟩, M⟩
         ·
          have hb70' := ne_of_beq_false hb70
          refine sdc A qn hb70 λa A↦?_
          refine sda A λa A↦?_
          refine qa (hK69 _ _ (wp_cond_false (A.ev rfl) ?_))
          refine wsk fun K72 hK72 => wrl ?_
          rcases tf ((d.k == 8)) with hb73 | hb73
          ·
           have hb73' := eq_of_beq hb73
           refine sdc A qn hb73 λa A↦?_
           refine sda A λa A↦?_
           refine qa (hK72 _ _ (wp_cond_true (A.ev rfl) ?_))
           refine wrl (sdo (v := .pointer (some ⟨g2, 10, none⟩)) A (qb TrB_fld_31_5 rfl rfl) λa A↦?_)
           refine sdo A (qs M TrB_is1_22 rfl 0 rfl rfl) λa A↦?_
           refine sdo A (qw Tryd.underlying22 rfl) λa A↦?_
           rcases tf ((((ts.length : Nat) : Int) == 2)) with hb74 | hb74
           ·
            have hb74' := eq_of_beq hb74
            refine sdc A qn hb74 λa A↦?_
            refine sda A λa A↦?_
            refine sdo (v := .pointer (some ⟨g2, 10, none⟩)) A (qb TrB_fld_31_5 rfl rfl) λa A↦?_
            refine qt (us := [.int .i64 d.k, .int .i64 d.n, .bool d.y.q.b1, .slice d.y.o1 d.y.q.t1.length d.y.c1, .slice d.y.o2 d.y.q.q1.length d.y.c2, .bool d.y.q.b2, .slice d.y.o3 d.y.q.t2.length d.y.c3, .slice d.y.o4 d.y.q.q2.length d.y.c4, .string d.s, .slice d.ro d.rl.length d.rc, .slice none 0 0]) (L' := (.obj g2 (.cells #[.int .i64 d.k, .int .i64 d.n, .bool d.y.q.b1, .slice d.y.o1 d.y.q.t1.length d.y.c1, .slice d.y.o2 d.y.q.q1.length d.y.c2, .bool d.y.q.b2, .slice d.y.o3 d.y.q.t2.length d.y.c3, .slice d.y.o4 d.y.q.q2.length d.y.c4, .string d.s, .slice d.ro d.rl.length d.rc, .slice none 0 0] 31) :: [])) A M rfl rfl (qi rfl rfl rfl (by kernel_rfl) M 0 rfl rfl rfl) 0 rfl rfl rfl ?_
            intro w75 M
            refine qa ?_
            exact hJ6 _ _ ⟨true, d.n, d.y.q.b1, d.y.o1, d.y.q.t1.length, d.y.c1, d.y.o2, d.y.q.q1.length, d.y.c2, d.y.q.b2, d.y.o3, d.y.q.t2.length, d.y.c3, d.y.o4, d.y.q.q2.length, d.y.c4, d.s, d.ro, d.rl.length, d.rc, none, 0, 0, ⟨by
             unfold zw
             repeat (first | rw [if_pos (by omega)] | rw [if_neg (by omega)])
             first | rfl | (rw [decide_eq_true (show (ts.length = 2) by omega)]), by first | exact hq1 | decide, by first | exact hq2 | decide, by first | exact hq3 | decide, by first | exact hq4 | decide⟩, A.keep _ ⟨rfl, rfl, rfl, rfl, trivial⟩, M⟩
           ·
            have hb74' := ne_of_beq_false hb74
            refine sdc A qn hb74 λa A↦?_
            refine sda A λa A↦?_
            refine sdo (v := .pointer (some ⟨g2, 10, none⟩)) A (qb TrB_fld_31_5 rfl rfl) λa A↦?_
            refine qt (us := [.int .i64 d.k, .int .i64 d.n, .bool d.y.q.b1, .slice d.y.o1 d.y.q.t1.length d.y.c1, .slice d.y.o2 d.y.q.q1.length d.y.c2, .bool d.y.q.b2, .slice d.y.o3 d.y.q.t2.length d.y.c3, .slice d.y.o4 d.y.q.q2.length d.y.c4, .string d.s, .slice d.ro d.rl.length d.rc, .slice none 0 0]) (L' := (.obj g2 (.cells #[.int .i64 d.k, .int .i64 d.n, .bool d.y.q.b1, .slice d.y.o1 d.y.q.t1.length d.y.c1, .slice d.y.o2 d.y.q.q1.length d.y.c2, .bool d.y.q.b2, .slice d.y.o3 d.y.q.t2.length d.y.c3, .slice d.y.o4 d.y.q.q2.length d.y.c4, .string d.s, .slice d.ro d.rl.length d.rc, .slice none 0 0] 31) :: [])) A M rfl rfl (qi rfl rfl rfl (by kernel_rfl) M 0 rfl rfl rfl) 0 rfl rfl rfl ?_
            intro w76 M
            refine qa ?_
            exact hJ6 _ _ ⟨false, d.n, d.y.q.b1, d.y.o1, d.y.q.t1.length, d.y.c1, d.y.o2, d.y.q.q1.length, d.y.c2, d.y.q.b2, d.y.o3, d.y.q.t2.length, d.y.c3, d.y.o4, d.y.q.q2.length, d.y.c4, d.s, d.ro, d.rl.length, d.rc, none, 0, 0, ⟨by
             unfold zw
             repeat (first | rw [if_pos (by omega)] | rw [if_neg (by omega)])
             first | rfl | (rw [decide_eq_false (show ¬ (ts.length = 2) by omega)]), by first | exact hq1 | decide, by first | exact hq2 | decide, by first | exact hq3 | decide, by first | exact hq4 | decide⟩, A.keep _ ⟨rfl, rfl, rfl, rfl, trivial⟩, M⟩
          ·
           have hb73' := ne_of_beq_false hb73
           refine sdc A qn hb73 λa A↦?_
           refine sda A λa A↦?_
           refine qa (hK72 _ _ (wp_cond_false (A.ev rfl) ?_))
           refine wsk fun K77 hK77 => wrl ?_
           rcases tf ((d.k == 9)) with hb78 | hb78
           ·
            have hb78' := eq_of_beq hb78
            refine sdc A qn hb78 λa A↦?_
            refine sda A λa A↦?_
            refine qa (hK77 _ _ (wp_cond_true (A.ev rfl) ?_))
            refine wrl (sdo (v := .pointer (some ⟨g2, 10, none⟩)) A (qb TrB_fld_31_5 rfl rfl) λa A↦?_)
            refine qt (us := [.int .i64 d.k, .int .i64 d.n, .bool d.y.q.b1, .slice d.y.o1 d.y.q.t1.length d.y.c1, .slice d.y.o2 d.y.q.q1.length d.y.c2, .bool d.y.q.b2, .slice d.y.o3 d.y.q.t2.length d.y.c3, .slice d.y.o4 d.y.q.q2.length d.y.c4, .string d.s, .slice d.ro d.rl.length d.rc, .slice none 0 0]) (L' := (.obj g2 (.cells #[.int .i64 d.k, .int .i64 d.n, .bool d.y.q.b1, .slice d.y.o1 d.y.q.t1.length d.y.c1, .slice d.y.o2 d.y.q.q1.length d.y.c2, .bool d.y.q.b2, .slice d.y.o3 d.y.q.t2.length d.y.c3, .slice d.y.o4 d.y.q.q2.length d.y.c4, .string d.s, .slice d.ro d.rl.length d.rc, .slice none 0 0] 31) :: [])) A M rfl rfl (qi rfl rfl rfl (by kernel_rfl) M 0 rfl rfl rfl) 0 rfl rfl rfl ?_
            intro w79 M
            refine qa ?_
            exact hJ6 _ _ ⟨true, d.n, d.y.q.b1, d.y.o1, d.y.q.t1.length, d.y.c1, d.y.o2, d.y.q.q1.length, d.y.c2, d.y.q.b2, d.y.o3, d.y.q.t2.length, d.y.c3, d.y.o4, d.y.q.q2.length, d.y.c4, d.s, d.ro, d.rl.length, d.rc, none, 0, 0, ⟨by
             unfold zw
             repeat (first | rw [if_pos (by omega)] | rw [if_neg (by omega)])
             first | rfl, by first | exact hq1 | decide, by first | exact hq2 | decide, by first | exact hq3 | decide, by first | exact hq4 | decide⟩, A.keep _ ⟨rfl, rfl, rfl, rfl, trivial⟩, M⟩
           ·
            have hb78' := ne_of_beq_false hb78
            refine sdc A qn hb78 λa A↦?_
            refine sda A λa A↦?_
            refine qa (hK77 _ _ (wp_cond_false (A.ev rfl) ?_))
            refine wrl (sda A λa A↦?_)
            refine qa ?_
            exact hJ6 _ _ ⟨false, d.n, d.y.q.b1, d.y.o1, d.y.q.t1.length, d.y.c1, d.y.o2, d.y.q.q1.length, d.y.c2, d.y.q.b2, d.y.o3, d.y.q.t2.length, d.y.c3, d.y.o4, d.y.q.q2.length, d.y.c4, d.s, d.ro, d.rl.length, d.rc, d.lo, ts.length, d.lc, ⟨by
             unfold zw
             repeat (first | rw [if_pos (by omega)] | rw [if_neg (by omega)])
             first | rfl, by first | exact hq1 | decide, by first | exact hq2 | decide, by first | exact hq3 | decide, by first | exact hq4 | decide⟩, A.keep _ ⟨rfl, rfl, rfl, rfl, trivial⟩, M⟩
theorem TrC_is1_22 : Is1 Tryd.prog 22 := ⟨⟨_, Tryd.underlying22, rfl⟩, by kernel_rfl⟩
theorem TrC_fld_31_5 : FieldAt Tryd.prog 31 5 10 := ⟨_, _, Tryd.underlying31, rfl, rfl, by kernel_rfl⟩
theorem TrC_isS_31 : IsS Tryd.prog 31 11 := ⟨⟨_, Tryd.underlying31⟩, by kernel_rfl⟩
theorem Mg.here {w0 w : World} {L : List Ck} (h : Mg w0 w L) (k : Nat) {g : Nat} {cs : List Value} {t : TypeId} (hk : L[k]? = some (.obj g (.cells cs.toArray t))) : Here w g 0 cs := ⟨(Array.getElem?_eq_some_iff.1 (h.obj k hk)).1, fun j v hj => by rw [Nat.zero_add]; exact h.cell k hk j hj⟩
def Through (t : Dt) : Prop := ∀ {w : World}, t.rd w → Tabs8 w → Calls Tryd.prog 27 #[.agg t.cells.toArray] w fun e w' => e = .returned (.bool (jt qg t.tr)) ∧ Below w.heap.size w w'
theorem uq : ∀ t : Dt, Through t := Dt.indT fun d ts ih => by
 intro w hrd hT
 have hok := (Dt.rd_iff.1 hrd)
 have hlen : ts.length ≤ 9223372036854775807 := Nat.le_trans hok.2.1 hok.2.2.1
 have M : Mg w w ([]) := Mg.start w
 refine qx (l := [(0, .agg (d.cells ts.length).toArray)]) Tryd.func27 rfl Tryd.ntmps27 rfl rfl ?_
 intro Q hret hnorm hP a A
 refine wsk fun K1 hK1 => wrl (zn (vs := [.int .i64 d.k, .int .i64 d.n, .bool d.y.q.b1, .slice d.y.o1 d.y.q.t1.length d.y.c1, .slice d.y.o2 d.y.q.q1.length d.y.c2, .bool d.y.q.b2, .slice d.y.o3 d.y.q.t2.length d.y.c3, .slice d.y.o4 d.y.q.q2.length d.y.c4, .string d.s, .slice d.ro d.rl.length d.rc, .slice d.lo ts.length d.lc]) (t := 31) A M rfl rfl rfl pg (zj rfl rfl) (by decide) ?_)
 intro g2 w3 M a A
 refine sda A λa A↦?_
 refine qa (hK1 _ _ (wsk fun K4 hK4 => wsk fun K5 hK5 => wrl (sdo A (za M TrC_isS_31 rfl 0 rfl (cs := [.int .i64 d.k, .int .i64 d.n, .bool d.y.q.b1, .slice d.y.o1 d.y.q.t1.length d.y.c1, .slice d.y.o2 d.y.q.q1.length d.y.c2, .bool d.y.q.b2, .slice d.y.o3 d.y.q.t2.length d.y.c3, .slice d.y.o4 d.y.q.q2.length d.y.c4, .string d.s, .slice d.ro d.rl.length d.rc, .slice d.lo ts.length d.lc]) rfl rfl) λa A↦?_)))
 rcases tf (zw d.k d.n d.y.q d.s d.rl.length ts.length) with hb6 | hb6
 ·
  refine gcl A M (ef rfl rfl) ((hb6 ▸ qbc (ts := ts) (hok.1.below M.bel) (hT.below M.bel))) fun w8 hb7 M a A => ?_
  refine sdo (v := .bool false) A (zm rfl zv) λa A↦?_
  refine qa (hK5 _ _ (wp_cond_false (A.ev rfl) ?_))
  refine wp_skip (hK4 _ _ (wsk fun K9 hK9 => wsk fun K10 hK10 => wrl (sdo (v := .pointer (some ⟨g2, 10, none⟩)) A (qb TrC_fld_31_5 rfl rfl) λa A↦?_)))
  refine sdo A (qs M TrC_is1_22 rfl 0 rfl rfl) λa A↦?_
  refine sdo A (qw Tryd.underlying22 rfl) λa A↦?_
  refine sdm A λa A↦?_
  refine qa (hK10 _ _ (wp_block (jg (fun m_ a w1 => ∃ (i : Nat), m_ = 1 + (ts.length - i) ∧ (i ≤ ts.length ∧ yg qg ((ts.map Dt.tr).drop 0) = yg qg ((ts.map Dt.tr).drop i)) ∧ Sl a 19 [(0, .agg (d.cells ts.length).toArray), (1, .pointer (some ⟨g2, 0, none⟩)), (5, .agg (d.cells ts.length).toArray), (6, .bool true), (7, .bool false), (8, .pointer (some ⟨g2, 10, none⟩)), (9, .slice d.lo ts.length d.lc), (10, .int .i64 (((ts.length : Nat) : Int))), (11, .int .i64 (((i : Nat) : Int)))] ∧ Mg w w1 (.obj g2 (.cells (d.cells ts.length).toArray 31) :: [])) _ ⟨0, rfl, ⟨Nat.zero_le _, rfl⟩, A.keep _ (by repeat' constructor), M⟩ ?_)))
  clear M A
  rintro m_ a w11 ⟨i, rfl, hinv13, A, M⟩ K12 hK12
  obtain ⟨hi0, hin9⟩ := hinv13
  refine wsk fun K14 hK14 => wrl ?_
  rcases tf (decide (((i : Nat) : Int) < ((ts.length : Nat) : Int))) with hb15 | hb15
  ·
   have hb15' := of_decide_eq_true hb15
   refine sdc A zq hb15 λa A↦?_
   refine qa (hK14 _ _ (wsk fun K16 hK16 => wp_cond_true (A.ev rfl) ?_))
   refine wp_skip (hK16 _ _ (wsk fun K17 hK17 => wp_block (wsk fun K18 hK18 => ?_)))
   obtain ⟨t1, b1, o1, hi1, hm1, hr1, hl1, hH1⟩ := kid hrd (i := i) (by omega)
   refine wrl (sdo (v := .pointer (some ⟨b1, o1 + i * 11, none⟩)) A (zp (k := i) Tryd.underlying22 (by kernel_rfl) rfl rfl rfl hl1 (by omega)) λa A↦?_)
   refine sdo A (zd M hH1 TrC_isS_31 rfl rfl) λa A↦?_
   refine zn (vs := [.int .i64 0, .int .i64 0, .bool false, .slice none 0 0, .slice none 0 0, .bool false, .slice none 0 0, .slice none 0 0, .string (⟨#[]⟩), .slice none 0 0, .slice none 0 0]) (t := 31) A M rfl rfl rfl pg (ql (z := .agg #[.int .i64 0, .int .i64 0, .bool false, .slice none 0 0, .slice none 0 0, .bool false, .slice none 0 0, .slice none 0 0, .string (⟨#[]⟩), .slice none 0 0, .slice none 0 0]) (by kernel_rfl) rfl) (by decide) ?_
   intro g19 w20 M a A
   refine qt (us := [.int .i64 t1.d.k, .int .i64 t1.d.n, .bool t1.d.y.q.b1, .slice t1.d.y.o1 t1.d.y.q.t1.length t1.d.y.c1, .slice t1.d.y.o2 t1.d.y.q.q1.length t1.d.y.c2, .bool t1.d.y.q.b2, .slice t1.d.y.o3 t1.d.y.q.t2.length t1.d.y.c3, .slice t1.d.y.o4 t1.d.y.q.q2.length t1.d.y.c4, .string t1.d.s, .slice t1.d.ro t1.d.rl.length t1.d.rc, .slice t1.d.lo t1.ts.length t1.d.lc]) (L' := (.obj g19 (.cells (t1.d.cells t1.ts.length).toArray 31) :: .obj g2 (.cells (d.cells ts.length).toArray 31) :: [])) A M rfl rfl (qi rfl rfl rfl (by kernel_rfl) M 0 rfl rfl rfl) 0 rfl rfl rfl ?_
   intro w21 M
   refine qa (hK18 _ _ (wsk fun K22 hK22 => wrl (sdo A (za M TrC_isS_31 rfl 0 rfl (cs := [.int .i64 t1.d.k, .int .i64 t1.d.n, .bool t1.d.y.q.b1, .slice t1.d.y.o1 t1.d.y.q.t1.length t1.d.y.c1, .slice t1.d.y.o2 t1.d.y.q.q1.length t1.d.y.c2, .bool t1.d.y.q.b2, .slice t1.d.y.o3 t1.d.y.q.t2.length t1.d.y.c3, .slice t1.d.y.o4 t1.d.y.q.q2.length t1.d.y.c4, .string t1.d.s, .slice t1.d.ro t1.d.rl.length t1.d.rc, .slice t1.d.lo t1.ts.length t1.d.lc]) rfl rfl) λa A↦?_)))
   rcases tf (jt qg t1.tr) with hb23 | hb23
   ·
    refine gcl A M (ef rfl rfl) ((hb23 ▸ ih t1 hm1 (Dt.keep M.bel _ hr1) (hT.below M.bel))) fun w25 hb24 M a A => ?_
    refine sdo (v := .bool false) A (zm rfl zv) λa A↦?_
    refine qa (hK22 _ _ (wp_cond_false (A.ev rfl) ?_))
    refine wp_skip (hK17 _ _ (wrl (sdo (v := .int .i64 (((i + 1 : Nat) : Int))) A (qh rfl rfl (fun w => (xb (vt (by omega) (by omega)) w).trans (by rw [show (((i : Nat) : Int) + 1 : Int) = ((i + 1 : Nat) : Int) from by omega]))) λa A↦?_)))
    refine sdm A λa A↦?_
    refine qa ?_
    replace M : Mg w w25 (.obj g2 (.cells (d.cells ts.length).toArray 31) :: []) := by
     have h9 := M.sub (cn (cc (.refl _)))
     exact h9
    refine hK12 _ _ _ (by omega) ⟨i + 1, rfl, ⟨by omega, by rw [hin9, qnd hi1, hb23, Bool.true_and]⟩, A.keep _ (by repeat' constructor), M⟩
   ·
    refine gcl A M (ef rfl rfl) ((hb23 ▸ ih t1 hm1 (Dt.keep M.bel _ hr1) (hT.below M.bel))) fun w27 hb26 M a A => ?_
    refine sdo (v := .bool true) A (zm rfl zv) λa A↦?_
    refine qa (hK22 _ _ (wp_cond_true (A.ev rfl) ?_))
    refine wsk fun K28 hK28 => wrl (sda A λa A↦?_)
    refine qa (hK28 _ _ (wp_ret (hret _ _ (en1 A rfl (qf rfl) ?_))))
    rw [show jt qg (Dt.mk d ts).tr = false from by rw [qfd, ui, hb6, Bool.true_and, hin9, qnd hi1, hb23, Bool.false_and]]
    exact ⟨rfl, M.bel⟩
  ·
   have hb15' := of_decide_eq_false hb15
   refine sdc A zq hb15 λa A↦?_
   refine qa (hK14 _ _ (wsk fun K29 hK29 => wp_cond_false (A.ev rfl) ?_))
   refine wp_exit (hK9 _ _ (wsk fun K30 hK30 => wrl (sda A λa A↦?_)))
   refine qa (hK30 _ _ (wp_ret (hret _ _ (en1 A rfl (qf rfl) ?_))))
   rw [show jt qg (Dt.mk d ts).tr = true from by rw [qfd, ui, hb6, Bool.true_and, hin9, ug (by omega), yg]]
   exact ⟨rfl, M.bel⟩
 ·
  refine gcl A M (ef rfl rfl) ((hb6 ▸ qbc (ts := ts) (hok.1.below M.bel) (hT.below M.bel))) fun w32 hb31 M a A => ?_
  refine sdo (v := .bool true) A (zm rfl zv) λa A↦?_
  refine qa (hK5 _ _ (wp_cond_true (A.ev rfl) ?_))
  refine wsk fun K33 hK33 => wrl (sda A λa A↦?_)
  refine qa (hK33 _ _ (wp_ret (hret _ _ (en1 A rfl (qf rfl) ?_))))
  rw [show jt qg (Dt.mk d ts).tr = false from by rw [qfd, ui, hb6, Bool.false_and]]
  exact ⟨rfl, M.bel⟩
theorem qig {w : World} {d : Nd} {ts : List Dt} (hrd : (Dt.mk d ts).rd w) : Calls Tryd.prog 26 #[.agg (d.cells ts.length).toArray] w fun e w' => e = .returned (.bool (zu 1 20000 (Dt.mk d ts).tr).1) ∧ Below w.heap.size w w' := by
 have M : Mg w w ([]) := Mg.start w
 refine qx (l := [(0, .agg (d.cells ts.length).toArray)]) Tryd.func26 rfl Tryd.ntmps26 rfl rfl ?_
 intro Q hret hnorm hP a A
 refine wsk fun K1 hK1 => wrl (zn (vs := [.int .i64 d.k, .int .i64 d.n, .bool d.y.q.b1, .slice d.y.o1 d.y.q.t1.length d.y.c1, .slice d.y.o2 d.y.q.q1.length d.y.c2, .bool d.y.q.b2, .slice d.y.o3 d.y.q.t2.length d.y.c3, .slice d.y.o4 d.y.q.q2.length d.y.c4, .string d.s, .slice d.ro d.rl.length d.rc, .slice d.lo ts.length d.lc]) (t := 31) A M rfl rfl rfl pg (zj rfl rfl) (by decide) ?_)
 intro g2 w3 M a A
 refine sda A λa A↦?_
 refine qa (hK1 _ _ (wsk fun K4 hK4 => ?_))
 have hB1 := M.bel
 have hH1 := M.here 0 (cs := d.cells ts.length) rfl
 replace M : Mg w3 w3 [] := Mg.start w3
 refine wrl (zn (vs := [.int .i64 0]) (t := 3) A M rfl rfl rfl pg (ql (z := .int .i64 0) (by kernel_rfl) rfl) (by decide) ?_)
 intro g5 w6 M a A
 refine qt (us := [.int .i64 20000]) (L' := (.obj g5 (.cells #[.int .i64 20000] 3) :: [])) A M rfl rfl (qi rfl rfl rfl (by kernel_rfl) M 0 rfl rfl rfl) 0 rfl rfl rfl ?_
 intro w7 M
 refine qa (hK4 _ _ (wsk fun K8 hK8 => wrl (sct A (ef rfl rfl) (qlf (Dt.mk d ts) (Dt.keep hB1 _ hrd) hH1 M (by omega) (by omega) (by omega) (by omega)) ?_)))
 rintro _ w10 ⟨rfl, hM9⟩
 replace M : Mg w3 w10 (.obj g5 (.cells #[.int .i64 ((zu 1 20000 (Dt.mk d ts).tr).2)] 3) :: []) := hM9
 refine ⟨_, rfl, ?_⟩
 intro a A
 refine sda A λa A↦?_
 refine qa (hK8 _ _ (wp_ret (hret _ _ (en1 A rfl (qf rfl) ?_))))
 exact ⟨rfl, hB1.trans (M.bel.mono hB1.size)⟩
theorem qsc {w : World} {d : Nd} {ts : List Dt} (hrd : (Dt.mk d ts).rd w) (hT : Tabs8 w) : Calls Tryd.prog 19 #[.agg (d.cells ts.length).toArray] w fun e w' => e = .returned (.bool (qp qg (Dt.mk d ts).tr)) ∧ Below w.heap.size w w' := by
 have M : Mg w w ([]) := Mg.start w
 refine qx (l := [(0, .agg (d.cells ts.length).toArray)]) Tryd.func19 rfl Tryd.ntmps19 rfl rfl ?_
 intro Q hret hnorm hP a A
 refine wsk fun K1 hK1 => wrl (zn (vs := [.int .i64 d.k, .int .i64 d.n, .bool d.y.q.b1, .slice d.y.o1 d.y.q.t1.length d.y.c1, .slice d.y.o2 d.y.q.q1.length d.y.c2, .bool d.y.q.b2, .slice d.y.o3 d.y.q.t2.length d.y.c3, .slice d.y.o4 d.y.q.q2.length d.y.c4, .string d.s, .slice d.ro d.rl.length d.rc, .slice d.lo ts.length d.lc]) (t := 31) A M rfl rfl rfl pg (zj rfl rfl) (by decide) ?_)
 intro g2 w3 M a A
 refine sda A λa A↦?_
 refine qa (hK1 _ _ (wsk fun K4 hK4 => wrl (sdo A (za M TrC_isS_31 rfl 0 rfl (cs := [.int .i64 d.k, .int .i64 d.n, .bool d.y.q.b1, .slice d.y.o1 d.y.q.t1.length d.y.c1, .slice d.y.o2 d.y.q.q1.length d.y.c2, .bool d.y.q.b2, .slice d.y.o3 d.y.q.t2.length d.y.c3, .slice d.y.o4 d.y.q.q2.length d.y.c4, .string d.s, .slice d.ro d.rl.length d.rc, .slice d.lo ts.length d.lc]) rfl rfl) λa A↦?_)))
 rcases tf ((zu 1 20000 (Dt.mk d ts).tr).1) with hb5 | hb5
 ·
  refine gcl A M (ef rfl rfl) ((hb5 ▸ qig (Dt.keep M.bel _ hrd))) fun w7 hb6 M a A => ?_
  refine sdm A λa A↦?_
  refine sdo A (za M TrC_isS_31 rfl 0 rfl (cs := [.int .i64 d.k, .int .i64 d.n, .bool d.y.q.b1, .slice d.y.o1 d.y.q.t1.length d.y.c1, .slice d.y.o2 d.y.q.q1.length d.y.c2, .bool d.y.q.b2, .slice d.y.o3 d.y.q.t2.length d.y.c3, .slice d.y.o4 d.y.q.q2.length d.y.c4, .string d.s, .slice d.ro d.rl.length d.rc, .slice d.lo ts.length d.lc]) rfl rfl) λa A↦?_
  rcases tf (jt qg (Dt.mk d ts).tr) with hb8 | hb8
  ·
   refine gcl A M (ef rfl rfl) ((hb8 ▸ uq (Dt.mk d ts) (Dt.keep M.bel _ hrd) (hT.below M.bel))) fun w10 hb9 M a A => ?_
   refine sdk (v := .bool true) A λa A↦?_
   refine sda A λa A↦?_
   refine qa (hK4 _ _ (wp_ret (hret _ _ (en1 A rfl (qf rfl) ?_))))
   exact ⟨by unfold qp; simp_all, M.bel⟩
  ·
   refine gcl A M (ef rfl rfl) ((hb8 ▸ uq (Dt.mk d ts) (Dt.keep M.bel _ hrd) (hT.below M.bel))) fun w12 hb11 M a A => ?_
   refine sdk (v := .bool false) A λa A↦?_
   refine sda A λa A↦?_
   refine qa (hK4 _ _ (wp_ret (hret _ _ (en1 A rfl (qf rfl) ?_))))
   exact ⟨by unfold qp; simp_all, M.bel⟩
 ·
  refine gcl A M (ef rfl rfl) ((hb5 ▸ qig (Dt.keep M.bel _ hrd))) fun w14 hb13 M a A => ?_
  refine sdm A λa A↦?_
  iterate 2 refine qj A rfl rfl rfl λa A↦?_
  refine sdk (v := .bool false) A λa A↦?_
  refine sda A λa A↦?_
  refine qa (hK4 _ _ (wp_ret (hret _ _ (en1 A rfl (qf rfl) ?_))))
  exact ⟨by unfold qp; simp_all, M.bel⟩
theorem sound_any {w : World} {t : Dt} (hrd : t.rd w) (hT : Tabs8 w) : Calls Tryd.prog 19 #[.agg t.cells.toArray] w fun e w' => e = .returned (.bool (qp qg t.tr)) ∧ Below w.heap.size w w' := by
 obtain ⟨d, ts⟩ := t
 exact qsc hrd hT
end Go.Proofs.YtnemkamkjfokaaaDoor.G
namespace Go.Proofs
open Go.Shelf
def Tryd.laysM316_ren : Go.Shelf.Ren := ⟨fun | 316 => 39 | n => n, fun | 9 => 9 | 3 => 3 | 4 => 4 | 37 => 29 | 0 => 0 | 127 => 72 | 5 => 5 | n => n, fun | n => n⟩
theorem Tryd.laysM316 : Go.Proofs.LaysM.n316 Tryd.prog Tryd.laysM316_ren := {
  mixed := by kernel_rfl
  f316 := Tryd.func39.trans (congrArg some (by kernel_rfl))
  t0 := Tryd.underlying0
  a0 := Tryd.isAgg0
  z0 := Tryd.sizeOf0
  v0 := Tryd.zeroValue0
  t3 := Tryd.underlying3
  a3 := Tryd.isAgg3
  z3 := Tryd.sizeOf3
  v3 := Tryd.zeroValue3
  t4 := Tryd.underlying4
  a4 := Tryd.isAgg4
  z4 := Tryd.sizeOf4
  v4 := Tryd.zeroValue4
  t9 := Tryd.underlying9
  a9 := Tryd.isAgg9
  z9 := Tryd.sizeOf9
  v9 := Tryd.zeroValue9
  t37 := Tryd.underlying29
  a37 := Tryd.isAgg29
  z37 := Tryd.sizeOf29
  v37 := Tryd.zeroValue29
  t127 := Tryd.underlying72
  a127 := Tryd.isAgg72
  z127 := Tryd.sizeOf72
  v127 := Tryd.zeroValue72
  t5 := Tryd.underlying5
  a5 := Tryd.isAgg5
  z5 := Tryd.sizeOf5
  v5 := Tryd.zeroValue5
  i0 := by kernel_rfl
  i3 := by kernel_rfl
  i4 := by kernel_rfl
  i5 := by kernel_rfl
  i9 := by kernel_rfl
  i37 := by kernel_rfl
  i127 := by kernel_rfl }
open Go.RowKit in
theorem Tryd.stringslite_Clone (s : ByteArray) (w : World) (hlim : s.size ≤ 281474976710656) :
    Calls Tryd.prog 39 #[.string s] w fun e w' => e = .returned (.string s) ∧ Below w.heap.size w w' := Any.stringslite_Clone Tryd.laysM316 s w hlim
end Go.Proofs
namespace Go.Proofs.YtnemkamkjfokaaaDoor.G
open Go.RowKit
set_option linter.unusedVariables false
set_option linter.unusedSimpArgs false
def jh (l : List Nat) : List Value := l.map fun n => .int .u32 ((n : Nat) : Int)
theorem qng (l : List Nat) : (jh l).length = l.length * 1 := by unfold jh; simp
theorem qdd (l : List Nat) : ∀ u ∈ jh l, u.oneCell' = true := by
  intro u hu
  unfold jh at hu
  obtain ⟨n, _, rfl⟩ := List.mem_map.1 hu
  rfl
theorem qnh (l : List UInt8) : (Lib.byteCells l).length = l.length * 1 := by unfold Lib.byteCells; simp
theorem qpe (l : List UInt8) : ∀ u ∈ Lib.byteCells l, u.oneCell' = true := by
  intro u hu
  unfold Lib.byteCells at hu
  obtain ⟨n, _, rfl⟩ := List.mem_map.1 hu
  rfl
theorem qsd {w : World} {so : Option Addr} {l : List UInt8} (h : Rb w so l) : Rc w so (Lib.byteCells l) := fun hne => by
  obtain ⟨b, off, h1, h2, h3⟩ := h.pos (fun k => hne (by rw [k]; rfl))
  refine ⟨b, off, h1, fun p u hp => ?_⟩
  have hlt : p < l.length := by have := (List.getElem?_eq_some_iff.1 hp).1; rw [qnh] at this; omega
  rw [h3 p hlt, ← hp]
  simp [Lib.byteCells, List.getD_eq_getElem?_getD, hlt]
theorem qse {w : World} {so : Option Addr} {l : List Nat} (h : Rd w so l) : Rc w so (jh l) := fun hne => by
  obtain ⟨b, off, h1, h2, h3⟩ := h.pos (fun k => hne (by rw [k]; rfl))
  refine ⟨b, off, h1, fun p u hp => ?_⟩
  have hlt : p < l.length := by have := (List.getElem?_eq_some_iff.1 hp).1; rw [qng] at this; omega
  rw [h3 p hlt, ← hp]
  simp [jh, List.getD_eq_getElem?_getD, hlt]
theorem qfg {w : World} {B : Nat} {e : TypeId} {sz n cap : Nat} {so : Option Addr} {xs : List Value} (h : w.ownsRow B e sz (.slice so n cap) n xs) : n ≤ cap := by
  rcases h.2 with ⟨e1, e2⟩ | ⟨g, cap', cur, e1, hg, hc, h1, _⟩
  · cases e1; exact Nat.le_refl _
  · cases e1; exact h1
theorem qve {w : World} {B : Nat} {e : TypeId} {sz n cap : Nat} {so : Option Addr} {xs : List Value} (h : w.ownsRow B e sz (.slice so n cap) n xs) : cap ≤ 9223372036854775807 := by
  rcases h.2 with ⟨e1, e2⟩ | ⟨g, cap', cur, e1, hg, hc, h1, h2, _⟩
  · cases e1; decide
  · cases e1; refine Nat.le_trans h2 ?_; decide
theorem qxc {w : World} {B : Nat} {e : TypeId} {cap : Nat} {so : Option Addr} {l : List Nat} (hd : Dig l) (h : w.ownsRow B e 1 (.slice so l.length cap) l.length (jh l)) : Sc w so cap l := by
  refine ⟨⟨hd, fun hne => ?_⟩, fun e0 => ?_, qfg h⟩
  · rcases h.2 with ⟨e1, e2⟩ | ⟨g, cap', cur, e1, hg, hc, h1, _⟩
    · exact absurd (List.length_eq_zero_iff.1 e2) hne
    · cases e1
      refine ⟨g, 0, rfl, (Array.getElem?_eq_some_iff.1 hc).1, fun j hj => ?_⟩
      rw [Nat.zero_add, World.ownsRow.cellAt h j (by omega)]
      simp [jh, List.getD_eq_getElem?_getD, hj]
  · rcases h.2 with ⟨e1, e2⟩ | ⟨g, cap', cur, e1, _⟩
    · simp only [Value.slice.injEq] at e1; exact e1.2.2
    · cases e1; cases e0
theorem yv {w : World} {B : Nat} {e : TypeId} {sz : Nat} {v : Value} {n : Nat} {xs : List Value} (h : w.ownsRow B e sz v n xs) : ∃ so cap, v = .slice so n cap := by
  rcases h.2 with ⟨rfl, rfl⟩ | ⟨g, cap, cur, rfl, _⟩
  · exact ⟨none, 0, rfl⟩
  · exact ⟨_, cap, rfl⟩
theorem qih {w : World} {B : Nat} {e : TypeId} {sz : Nat} {v : Value} {n : Nat} {xs : List Value} (h : w.ownsRow B e sz v n xs) (hn : n ≠ 0) : ∃ g cap, v = .slice (some ⟨g, 0, none⟩) n cap := by
  rcases h.2 with ⟨rfl, rfl⟩ | ⟨g, cap, cur, rfl, _⟩
  · exact absurd rfl hn
  · exact ⟨g, cap, rfl⟩
/-- New data, apart from a block. -/
def CsOk (B : Nat) (g : Nat) (w : World) (cs : List Dt) : Prop := ∀ t ∈ cs, t.rd w ∧ t.at_ (fun b => B ≤ b ∧ b ≠ g)
theorem qsf {B g : Nat} {w : World} : CsOk B g w [] := fun t h => by cases h
theorem CsOk.below {B g : Nat} {w w' : World} {cs : List Dt} (h : CsOk B g w cs) (hb : Below w.heap.size w w') : CsOk B g w' cs := fun t ht => ⟨Dt.keep hb _ (h t ht).1, (h t ht).2⟩
theorem CsOk.new {B g g' : Nat} {w w' w'' : World} {cs : List Dt} (h : CsOk B g w cs) (hg : w.heap.size ≤ g') (hb : Below w.heap.size w w') (hk : Kept (· ≠ g') w' w'') : CsOk B g w'' cs := fun t ht => ⟨Dt.kept hk _ (Dt.keep hb _ (h t ht).1) (Dt.at_mono (fun b hb' => by intro e; omega) _ (Dt.at_lt _ (h t ht).1)), (h t ht).2⟩
theorem CsOk.snoc {B g : Nat} {w w' : World} {cs : List Dt} {t : Dt} (h : CsOk B g w cs) (hr : t.rd w) (ha : t.at_ (fun b => B ≤ b ∧ b ≠ g)) (hk : Kept (· ≠ g) w w') : CsOk B g w' (cs ++ [t]) := fun u hu => by
  rcases List.mem_append.1 hu with h1 | h1
  · exact ⟨Dt.kept hk _ (h u h1).1 (Dt.at_mono (fun b hb => hb.2) _ (h u h1).2), (h u h1).2⟩
  · rw [List.mem_singleton.1 h1]
    exact ⟨Dt.kept hk _ hr (Dt.at_mono (fun b hb => hb.2) _ ha), ha⟩
theorem qxd {ts cs : List Dt} {i : Nat} (hl : cs.length = i) (hi : i < ts.length) : ∃ t, ts[i]? = some t ∧ t ∈ ts ∧ (cs ++ ts.drop i)[i]? = some t := by
  have ht := List.getElem?_eq_getElem hi
  refine ⟨ts[i], ht, List.getElem_mem hi, ?_⟩
  rw [List.getElem?_append_right (by omega), List.getElem?_drop, hl, Nat.sub_self, Nat.add_zero, ht]
theorem qvf {ts cs : List Dt} {i : Nat} (t : Dt) (hl : cs.length = i) (hi : i < ts.length) : (cs ++ ts.drop i).set i t = (cs ++ [t]) ++ ts.drop (i + 1) := by
  rw [List.set_append_right _ _ (by omega), hl, Nat.sub_self, List.drop_eq_getElem_cons hi, List.set_cons_zero, List.append_assoc]
  rfl
theorem qvg {ts cs : List Dt} {i : Nat} {t u : Dt} (h : cs.map Dt.tr = (ts.take i).map Dt.tr) (hi : ts[i]? = some t) (hu : u.tr = t.tr) : (cs ++ [u]).map Dt.tr = (ts.take (i + 1)).map Dt.tr := by
  obtain ⟨hl, rfl⟩ := List.getElem?_eq_some_iff.1 hi
  rw [List.map_append, h, List.take_succ_eq_append_getElem hl, List.map_append, List.map_singleton, List.map_singleton, hu]
theorem yw {ts : List Dt} {t : Dt} (h : t ∈ ts) : t.tr.bulk ≤ Tr.bulks (ts.map Dt.tr) := uj (List.mem_map_of_mem h)
theorem ji : ∀ ts : List Dt, ts.length ≤ Tr.bulks (ts.map Dt.tr)
  | [] => Nat.le_refl _
  | t :: ts => by
    have := ji ts
    have h2 : 1 ≤ t.tr.bulk := by cases t; rw [Dt.tr_mk, xu]; omega
    rw [List.map_cons, Tr.bulks, List.length_cons]; omega
theorem qlg {d : Nd} {ts : List Dt} : (Dt.mk d ts).tr.bulk = d.s.size + d.rl.length + (d.y.q.t1.length + d.y.q.q1.length + (d.y.q.t2.length + d.y.q.q2.length)) + 1 + Tr.bulks (ts.map Dt.tr) := by rw [Dt.tr_mk, xu]
theorem xl (t : Dt) : t.cells.all Value.oneCell' = true := List.all_eq_true.2 (qdf t)
theorem kt {ts : List Dt} {i : Nat} {t : Dt} {us : List Dt} (h : i < ts.length) (he : ts.set i t = us) : over (cellsOf ts) (i * 11) (t.d.cells t.ts.length) = cellsOf us := he ▸ qid t h
set_option maxRecDepth 100000
theorem LiA_is1_24 : Is1 Tryd.prog 24 := ⟨⟨_, Tryd.underlying24, rfl⟩, by kernel_rfl⟩
theorem LiA_is1_4 : Is1 Tryd.prog 4 := ⟨⟨_, Tryd.underlying4, rfl⟩, by kernel_rfl⟩
theorem LiA_fld_26_0 : FieldAt Tryd.prog 26 0 0 := ⟨_, _, Tryd.underlying26, rfl, rfl, by kernel_rfl⟩
theorem LiA_fld_26_1 : FieldAt Tryd.prog 26 1 1 := ⟨_, _, Tryd.underlying26, rfl, rfl, by kernel_rfl⟩
theorem LiA_fld_26_2 : FieldAt Tryd.prog 26 2 2 := ⟨_, _, Tryd.underlying26, rfl, rfl, by kernel_rfl⟩
theorem LiA_isS_26 : IsS Tryd.prog 26 3 := ⟨⟨_, Tryd.underlying26⟩, by kernel_rfl⟩
theorem qya {w : World} {so : Option Addr} {ca : Nat} {l : List UInt8} (hb : Rb w so l) (hl : l.length ≤ 1000000000) : Calls Tryd.prog 30 #[.slice so l.length ca] w fun e w' => ∃ v, e = .returned v ∧ Mg w w' [.row BY 1 v l.length (Lib.byteCells l)] := by
 have M : Mg w w ([]) := Mg.start w
 refine qx (l := [(0, .slice so l.length ca)]) Tryd.func30 rfl Tryd.ntmps30 rfl rfl ?_
 intro Q hret hnorm hP a A
 refine wsk fun K1 hK1 => wrl (sda A λa A↦?_)
 refine qa (hK1 _ _ (wsk fun K2 hK2 => wrl (sdm A λa A↦?_)))
 replace M := M.nilRow (zf zl) BY 1
 refine vu (e := BY) (sz := 1) (k := 0) (q := 0) (m := l.length) (xs := []) (news := Lib.byteCells l) (L' := fun v3 => (.row BY 1 (v3) (0 + l.length) ([] ++ Lib.byteCells l) :: [])) A rfl rfl rfl (qbb (z := .int .u8 0) (sz := 1) (by_ := 1) Tryd.underlying29 (by kernel_rfl) rfl rfl rfl M 0 rfl rfl rfl (qnh l) ((qsd hb).below M.bel) (qpe l) (by omega)) (fun _ => rfl) ?_
 intro v3 w4 M a A
 refine sda A λa A↦?_
 refine qa (hK2 _ _ (wp_ret (hret _ _ (en1 A rfl (qf rfl) ?_))))
 exact ⟨_, rfl, by rw [Nat.zero_add, List.nil_append] at M; exact M⟩
theorem qyb {w : World} {so : Option Addr} {ca : Nat} {l : List Nat} (hb : Rd w so l) (hl : l.length ≤ 1000000000) : Calls Tryd.prog 38 #[.slice so l.length ca] w fun e w' => ∃ v, e = .returned v ∧ Mg w w' [.row 68 1 v l.length (jh l)] := by
 have M : Mg w w ([]) := Mg.start w
 refine qx (l := [(0, .slice so l.length ca)]) Tryd.func38 rfl Tryd.ntmps38 rfl rfl ?_
 intro Q hret hnorm hP a A
 refine wsk fun K1 hK1 => wrl (sda A λa A↦?_)
 refine qa (hK1 _ _ (wsk fun K2 hK2 => wrl (sdm A λa A↦?_)))
 replace M := M.nilRow (zf zl) 68 1
 refine vu (e := 68) (sz := 1) (k := 0) (q := 0) (m := l.length) (xs := []) (news := jh l) (L' := fun v3 => (.row 68 1 (v3) (0 + l.length) ([] ++ jh l) :: [])) A rfl rfl rfl (qbb (z := .int .u32 0) (sz := 1) (by_ := 4) Tryd.underlying24 (by kernel_rfl) rfl rfl rfl M 0 rfl rfl rfl (qng l) ((qse hb).below M.bel) (qdd l) (by omega)) (fun _ => rfl) ?_
 intro v3 w4 M a A
 refine sda A λa A↦?_
 refine qa (hK2 _ _ (wp_ret (hret _ _ (en1 A rfl (qf rfl) ?_))))
 exact ⟨_, rfl, by rw [Nat.zero_add, List.nil_append] at M; exact M⟩
theorem qwj {w : World} {so : Option Addr} {ca : Nat} {ts : List Dt} (hb : Rt w so ts) (hl : ts.length ≤ 1000000000) : Calls Tryd.prog 40 #[.slice so ts.length ca] w fun e w' => ∃ v, e = .returned v ∧ Mg w w' [.row 31 11 v ts.length (cellsOf ts)] := by
 have M : Mg w w ([]) := Mg.start w
 refine qx (l := [(0, .slice so ts.length ca)]) Tryd.func40 rfl Tryd.ntmps40 rfl rfl ?_
 intro Q hret hnorm hP a A
 refine wsk fun K1 hK1 => wrl (sda A λa A↦?_)
 refine qa (hK1 _ _ (wsk fun K2 hK2 => wrl (sdm A λa A↦?_)))
 replace M := M.nilRow (zf zl) 31 11
 refine vu (e := 31) (sz := 11) (k := 0) (q := 0) (m := ts.length) (xs := []) (news := cellsOf ts) (L' := fun v3 => (.row 31 11 (v3) (0 + ts.length) ([] ++ cellsOf ts) :: [])) A rfl rfl rfl (qbb (z := .agg #[.int .i64 0, .int .i64 0, .bool false, .slice none 0 0, .slice none 0 0, .bool false, .slice none 0 0, .slice none 0 0, .string ⟨#[]⟩, .slice none 0 0, .slice none 0 0]) (sz := 11) (by_ := 192) Tryd.underlying22 (by kernel_rfl) rfl rfl rfl M 0 rfl rfl rfl (xk ts) ((qxj hb).below M.bel) (kf ts) (by omega)) (fun _ => rfl) ?_
 intro v3 w4 M a A
 refine sda A λa A↦?_
 refine qa (hK2 _ _ (wp_ret (hret _ _ (en1 A rfl (qf rfl) ?_))))
 exact ⟨_, rfl, by rw [Nat.zero_add, List.nil_append] at M; exact M⟩
theorem qvh {w : World} {so : Option Addr} {ca : Nat} {l : List UInt8} (hb : Rb w so l) (hl : l.length ≤ 1000000000) : Calls Tryd.prog 30 #[.slice so l.length ca] w fun e w' => ∃ so' ca', e = .returned (.slice so' l.length ca') ∧ (Rb w' so' l ∧ In (w.heap.size ≤ ·) so' l ∧ l.length ≤ ca' ∧ ca' ≤ 9223372036854775807) ∧ Below w.heap.size w w' := by
 refine (qya hb hl).mono ?_
 rintro _ w' ⟨v, rfl, M⟩
 obtain ⟨so', ca', rfl⟩ := qai (M.has 0 rfl)
 exact ⟨so', ca', rfl, ⟨(qxb M 0 rfl).1, qld (M.has 0 rfl) _, qfg (M.has 0 rfl), qve (M.has 0 rfl)⟩, M.bel⟩
theorem qni {w : World} {so : Option Addr} {ca : Nat} {l : List Nat} (hb : Rd w so l) (hl : l.length ≤ 1000000000) : Calls Tryd.prog 38 #[.slice so l.length ca] w fun e w' => ∃ so' ca', e = .returned (.slice so' l.length ca') ∧ (Sc w' so' ca' l ∧ In (w.heap.size ≤ ·) so' l) ∧ Below w.heap.size w w' := by
 refine (qyb hb hl).mono ?_
 rintro _ w' ⟨v, rfl, M⟩
 obtain ⟨so', ca', rfl⟩ := qai (M.has 0 rfl)
 exact ⟨so', ca', rfl, ⟨qxc hb.dig (M.has 0 rfl), qld (M.has 0 rfl) _⟩, M.bel⟩
theorem qnj {w : World} {b : Bool} {o1 o2 : Option Addr} {c1 c2 : Nat} {t q : List Nat} (h1 : Sc w o1 c1 t) (h2 : Sc w o2 c2 q) (l1 : t.length ≤ 1000000000) (l2 : q.length ≤ 1000000000) : Calls Tryd.prog 28 #[.agg #[.bool b, .slice o1 t.length c1, .slice o2 q.length c2]] w fun e w' => ∃ p1 d1 p2 d2, e = .returned (.agg #[.bool b, .slice p1 t.length d1, .slice p2 q.length d2]) ∧ (Sc w' p1 d1 t ∧ In (w.heap.size ≤ ·) p1 t ∧ Sc w' p2 d2 q ∧ In (w.heap.size ≤ ·) p2 q) ∧ Below w.heap.size w w' := by
 have M : Mg w w ([]) := Mg.start w
 refine qx (l := [(0, .agg #[.bool b, .slice o1 t.length c1, .slice o2 q.length c2])]) Tryd.func28 rfl Tryd.ntmps28 rfl rfl ?_
 intro Q hret hnorm hP a A
 refine wsk fun K1 hK1 => wrl (zn (vs := [.bool b, .slice o1 t.length c1, .slice o2 q.length c2]) (t := 26) A M rfl rfl rfl pg (zj rfl rfl) (by decide) ?_)
 intro g2 w3 M a A
 refine zn (vs := [.bool false, .slice none 0 0, .slice none 0 0]) (t := 26) A M rfl rfl rfl pg (ql (z := .agg #[.bool false, .slice none 0 0, .slice none 0 0]) (by kernel_rfl) rfl) (by decide) ?_
 intro g4 w5 M a A
 refine qa (hK1 _ _ (wsk fun K6 hK6 => vz (S := fun w1 => Mg w w1 (.obj g2 (.cells #[.bool b, .slice o1 t.length c1, .slice o2 q.length c2] 26) :: [])) (by kernel_rfl) ?_))
 replace M := M.drew
 refine qk (v := .pointer (some ⟨g2, 0, none⟩)) A 0 rfl rfl rfl rfl hP (M.sub (cn (cc (List.nil_sublist _)))) (fun w1 M => qb LiA_fld_26_0 rfl rfl) λa A↦?_
 refine qk A 1 rfl rfl rfl rfl hP (M.sub (cn (cc (List.nil_sublist _)))) (fun w1 M => qs M LiA_is1_4 rfl 0 rfl rfl) λa A↦?_
 refine qk (v := .pointer (some ⟨g2, 1, none⟩)) A 2 rfl rfl rfl rfl hP (M.sub (cn (cc (List.nil_sublist _)))) (fun w1 M => qb LiA_fld_26_1 rfl rfl) λa A↦?_
 refine qk A 3 rfl rfl rfl rfl hP (M.sub (cn (cc (List.nil_sublist _)))) (fun w1 M => qs M LiA_is1_24 rfl 0 rfl rfl) λa A↦?_
 refine qk (v := .pointer (some ⟨g2, 2, none⟩)) A 5 rfl rfl rfl rfl hP (M.sub (cn (cc (List.nil_sublist _)))) (fun w1 M => qb LiA_fld_26_2 rfl rfl) λa A↦?_
 refine qk A 6 rfl rfl rfl rfl hP (M.sub (cn (cc (List.nil_sublist _)))) (fun w1 M => qs M LiA_is1_24 rfl 0 rfl rfl) λa A↦?_
 have hlt7 := (Ck.lt (M.has 0 rfl) g4 rfl).2
 have hlt8 := (Ck.lt (M.has 1 rfl) g2 rfl).2
 have hsz9 := M.bel.size
 refine je (by kernel_rfl) (xz A 4 rfl rfl rfl rfl (ze rfl rfl (fun w => by kernel_rfl)) (qni (h1.rd.below M.bel) l1) ?_)
 rintro _ w15 ⟨so10, ca11, rfl, ⟨hf13, hf14⟩, hb12⟩
 replace M := M.call hb12
 refine ⟨_, rfl, (M.sub (cn (cc (List.nil_sublist _)))), ?_⟩
 intro a A
 have hlt16 := (Ck.lt (M.has 0 rfl) g4 rfl).2
 have hlt17 := (Ck.lt (M.has 1 rfl) g2 rfl).2
 have hsz18 := M.bel.size
 refine je (by kernel_rfl) (xz A 7 rfl rfl rfl rfl (ze rfl rfl (fun w => by kernel_rfl)) (qni (h2.rd.below M.bel) l2) ?_)
 rintro _ w24 ⟨so19, ca20, rfl, ⟨hf22, hf23⟩, hb21⟩
 replace hf13 := hf13.below hb21
 replace M := M.call hb21
 refine ⟨_, rfl, (M.sub (cn (cc (List.nil_sublist _)))), ?_⟩
 intro a A
 refine qk (v := .agg #[.bool b, .slice so10 t.length ca11, .slice so19 q.length ca20]) A 8 rfl rfl rfl rfl hP (M.sub (cn (cc (List.nil_sublist _)))) (fun w1 M => zb rfl (fun w => by kernel_rfl)) λa A↦?_
 refine je (by kernel_rfl) (qie (us := [.bool b, .slice so10 t.length ca11, .slice so19 q.length ca20]) (L' := (.obj g4 (.cells #[.bool b, .slice so10 t.length ca11, .slice so19 q.length ca20] 26) :: .obj g2 (.cells #[.bool b, .slice o1 t.length c1, .slice o2 q.length c2] 26) :: [])) A M 9 rfl rfl rfl (qi rfl rfl rfl (by kernel_rfl) M 0 rfl rfl rfl) 0 rfl rfl rfl ?_)
 intro w25 M hK26
 replace hf13 := va hf13 (hf14.mono fun b hb => by rintro rfl; omega) hK26
 replace hf22 := va hf22 (hf23.mono fun b hb => by rintro rfl; omega) hK26
 refine ⟨(M.sub (cn (cc (List.nil_sublist _)))), ?_⟩
 refine xn (by kernel_rfl) ?_
 refine hK6 _ _ (wp_ret (hret _ _ (en1 A rfl (zg M LiA_isS_26 rfl 0 rfl (cs := [.bool b, .slice so10 t.length ca11, .slice so19 q.length ca20]) rfl rfl) ?_)))
 exact ⟨_, _, _, _, rfl, ⟨hf13, In.mono hf14 (fun b hb => Nat.le_trans hsz9 hb), hf22, In.mono hf23 (fun b hb => Nat.le_trans hsz18 hb)⟩, M.bel⟩
theorem LiB_is1_22 : Is1 Tryd.prog 22 := ⟨⟨_, Tryd.underlying22, rfl⟩, by kernel_rfl⟩
theorem LiB_is1_29 : Is1 Tryd.prog 29 := ⟨⟨_, Tryd.underlying29, rfl⟩, by kernel_rfl⟩
theorem LiB_is1_3 : Is1 Tryd.prog 3 := ⟨⟨_, Tryd.underlying3, rfl⟩, by kernel_rfl⟩
theorem LiB_is1_9 : Is1 Tryd.prog 9 := ⟨⟨_, Tryd.underlying9, rfl⟩, by kernel_rfl⟩
theorem LiB_fld_28_0 : FieldAt Tryd.prog 28 0 0 := ⟨_, _, Tryd.underlying28, rfl, rfl, by kernel_rfl⟩
theorem LiB_fld_28_1 : FieldAt Tryd.prog 28 1 3 := ⟨_, _, Tryd.underlying28, rfl, rfl, by kernel_rfl⟩
theorem LiB_fld_31_0 : FieldAt Tryd.prog 31 0 0 := ⟨_, _, Tryd.underlying31, rfl, rfl, by kernel_rfl⟩
theorem LiB_fld_31_1 : FieldAt Tryd.prog 31 1 1 := ⟨_, _, Tryd.underlying31, rfl, rfl, by kernel_rfl⟩
theorem LiB_fld_31_2 : FieldAt Tryd.prog 31 2 2 := ⟨_, _, Tryd.underlying31, rfl, rfl, by kernel_rfl⟩
theorem LiB_fld_31_3 : FieldAt Tryd.prog 31 3 8 := ⟨_, _, Tryd.underlying31, rfl, rfl, by kernel_rfl⟩
theorem LiB_fld_31_4 : FieldAt Tryd.prog 31 4 9 := ⟨_, _, Tryd.underlying31, rfl, rfl, by kernel_rfl⟩
theorem LiB_fld_31_5 : FieldAt Tryd.prog 31 5 10 := ⟨_, _, Tryd.underlying31, rfl, rfl, by kernel_rfl⟩
theorem LiB_isS_26 : IsS Tryd.prog 26 3 := ⟨⟨_, Tryd.underlying26⟩, by kernel_rfl⟩
theorem LiB_isS_31 : IsS Tryd.prog 31 11 := ⟨⟨_, Tryd.underlying31⟩, by kernel_rfl⟩
theorem clone_any {w : World} {s : ByteArray} (hs : s.size ≤ 281474976710656) : Calls Tryd.prog 29 #[.string s] w fun e w' => e = .returned (.string s) ∧ Below w.heap.size w w' := by
 have M : Mg w w ([]) := Mg.start w
 refine qx (l := [(0, .string s)]) Tryd.func29 rfl Tryd.ntmps29 rfl rfl ?_
 intro Q hret hnorm hP a A
 refine wsk fun K1 hK1 => wrl (sda A λa A↦?_)
 refine qa (hK1 _ _ (wsk fun K2 hK2 => wrl (sdm A λa A↦?_)))
 refine gcl A M (ef rfl rfl) (Tryd.stringslite_Clone s _ hs) fun w3 hb1 M a A => ?_
 refine sda A λa A↦?_
 refine qa (hK2 _ _ (wp_ret (hret _ _ (en1 A rfl (qf rfl) ?_))))
 exact ⟨rfl, M.bel⟩
def Copies (t : Dt) : Prop := ∀ {w : World}, t.rd w → t.tr.bulk ≤ 1000000000 → Calls Tryd.prog 20 #[.agg (t.d.cells t.ts.length).toArray] w fun e w' => ∃ t2 : Dt, e = .returned (.agg (t2.d.cells t2.ts.length).toArray) ∧ (t2.rd w' ∧ t2.at_ (w.heap.size ≤ ·) ∧ t2.tr = t.tr) ∧ Below w.heap.size w w'
def CopyAll (ts : List Dt) : Prop := ∀ {w : World} {so : Option Addr} {ca : Nat}, Rt w so ts → (∀ t ∈ ts, t.rd w) → Tr.bulks (ts.map Dt.tr) ≤ 1000000000 → Calls Tryd.prog 31 #[.slice so ts.length ca] w fun e w' => ∃ v us, e = .returned v ∧ (us.map Dt.tr = ts.map Dt.tr ∧ (∀ t ∈ us, t.rd w' ∧ t.at_ (fun b => w.heap.size ≤ b ∧ v.ownBlock ≠ some b))) ∧ Mg w w' [.row 31 11 v us.length (cellsOf us)]
theorem qlh {ts : List Dt} (ih : ∀ t ∈ ts, Copies t) (hne : ts ≠ []) : CopyAll ts := by
 intro w so ca hR hD hb
 have hbl := ji ts
 have M : Mg w w ([]) := Mg.start w
 refine qx (l := [(0, .slice so ts.length ca)]) Tryd.func31 rfl Tryd.ntmps31 rfl rfl ?_
 intro Q hret hnorm hP a A
 refine wsk fun K1 hK1 => wrl (sda A λa A↦?_)
 refine qa (hK1 _ _ (wsk fun K2 hK2 => wrl (sdm A λa A↦?_)))
 refine sct A (ef rfl rfl) (qwj (hR.below M.bel) (by have := ji ts; omega)) ?_
 rintro _ w4 ⟨v9, rfl, hM3⟩
 obtain ⟨g9, c9, rfl⟩ := qih (hM3.has 0 rfl) (fun k => hne (List.length_eq_zero_iff.1 k))
 replace M : Mg w w4 (.row 31 11 (.slice (some ⟨g9, 0, none⟩) ts.length c9) ts.length (cellsOf ts) :: []) := hM3
 refine ⟨_, rfl, ?_⟩
 intro a A
 refine sda A λa A↦?_
 refine qa (hK2 _ _ (wsk fun K5 hK5 => wsk fun K6 hK6 => wrl (sdm A λa A↦?_)))
 refine sdo A (qw Tryd.underlying22 rfl) λa A↦?_
 refine sdm A λa A↦?_
 refine qa (hK6 _ _ (wp_block (jg (fun m_ a w1 => ∃ (i : Nat) (cs : List Dt), m_ = 1 + (ts.length - i) ∧ (i ≤ ts.length ∧ cs.length = i ∧ cs.map Dt.tr = (ts.take i).map Dt.tr ∧ CsOk w.heap.size g9 w1 cs) ∧ Sl a 22 [(0, .slice so ts.length ca), (2, .slice none 0 0), (3, .slice (some ⟨g9, 0, none⟩) ts.length c9), (6, .slice so ts.length ca), (7, .slice (some ⟨g9, 0, none⟩) ts.length c9), (8, .slice (some ⟨g9, 0, none⟩) ts.length c9), (9, .int .i64 (((ts.length : Nat) : Int))), (10, .int .i64 (((i : Nat) : Int)))] ∧ Mg w w1 (.row 31 11 (.slice (some ⟨g9, 0, none⟩) ts.length c9) ts.length (cellsOf (cs ++ ts.drop i)) :: [])) _ ⟨0, [], rfl, ⟨Nat.zero_le _, rfl, rfl, qsf⟩, A.keep _ (by repeat' constructor), M⟩ ?_)))
 clear M A
 rintro m_ a w7 ⟨i, cs, rfl, hinv9, A, M⟩ K8 hK8
 obtain ⟨hi0, hcl, htr, hcs⟩ := hinv9
 refine wsk fun K10 hK10 => wrl ?_
 rcases tf (decide (((i : Nat) : Int) < ((ts.length : Nat) : Int))) with hb11 | hb11
 ·
  have hb11' := of_decide_eq_true hb11
  refine sdc A zq hb11 λa A↦?_
  refine qa (hK10 _ _ (wsk fun K12 hK12 => wp_cond_true (A.ev rfl) ?_))
  refine wp_skip (hK12 _ _ (wsk fun K13 hK13 => wp_block (wsk fun K14 hK14 => ?_)))
  obtain ⟨t1, i1, m1, it1⟩ := qxd hcl (show i < ts.length by omega)
  refine wrl (sdm A λa A↦?_)
  refine sdo (v := .pointer (some ⟨g9, i * 11, none⟩)) A (jk (k := i) Tryd.underlying22 (by kernel_rfl) rfl rfl rfl (by omega)) λa A↦?_
  refine sdo A (kp (o := i * 11) (cs := t1.d.cells t1.ts.length) M 0 rfl LiB_isS_31 (xe it1) rfl rfl) λa A↦?_
  refine qle (vs := [.int .i64 0, .int .i64 0, .bool false, .slice none 0 0, .slice none 0 0, .bool false, .slice none 0 0, .slice none 0 0, .string (⟨#[]⟩), .slice none 0 0, .slice none 0 0]) (t := 31) A M rfl rfl rfl pg (ql (z := .agg #[.int .i64 0, .int .i64 0, .bool false, .slice none 0 0, .slice none 0 0, .bool false, .slice none 0 0, .slice none 0 0, .string (⟨#[]⟩), .slice none 0 0, .slice none 0 0]) (by kernel_rfl) rfl) (by decide) ?_
  intro g15 w16 M hg17 hb18 a A
  refine sda A λa A↦?_
  refine jw (us := (t1.d.cells t1.ts.length)) (L' := (.obj g15 (.cells (t1.d.cells t1.ts.length).toArray 31) :: .row 31 11 (.slice (some ⟨g9, 0, none⟩) ts.length c9) ts.length (cellsOf (cs ++ ts.drop i)) :: [])) A M rfl rfl (qi rfl rfl rfl (by kernel_rfl) M 0 rfl rfl rfl) 0 rfl rfl rfl ?_
  intro w19 M hK20
  replace hcs := hcs.new hg17 hb18 hK20
  refine qa (hK14 _ _ (wrl ?_))
  iterate 2 refine sdm A λa A↦?_
  refine sdo A (za M LiB_isS_31 rfl 0 rfl (cs := (t1.d.cells t1.ts.length)) rfl rfl) λa A↦?_
  have hltg := (Ck.lt (M.has 1 rfl) g9 rfl).2
  have hsz := M.bel.size
  refine sct A (ef rfl rfl) (ih t1 m1 (Dt.keep M.bel _ (hD t1 m1)) (by have := yw m1; omega)) ?_
  rintro _ w21 ⟨t2, rfl, ⟨hr2, ha2, ht2⟩, hb2⟩
  replace hcs := hcs.below hb2
  replace M := M.call hb2
  refine ⟨_, rfl, ?_⟩
  intro a A
  refine sdo (v := .pointer (some ⟨g9, i * 11, none⟩)) A (jk (k := i) Tryd.underlying22 (by kernel_rfl) rfl rfl rfl (by omega)) λa A↦?_
  refine qpc (us := cellsOf ((cs ++ [t2]) ++ ts.drop (i + 1))) (L' := (.obj g15 (.cells (t1.d.cells t1.ts.length).toArray 31) :: .row 31 11 (.slice (some ⟨g9, 0, none⟩) ts.length c9) ts.length (cellsOf ((cs ++ [t2]) ++ ts.drop (i + 1))) :: [])) A M rfl rfl (kq (cs := t2.d.cells t2.ts.length) rfl rfl rfl (by kernel_rfl) M 1 rfl (by show _ + 11 ≤ _; omega) (xl t2)) 1 rfl (kt (by rw [List.length_append, List.length_drop]; omega) (qvf t2 hcl (by omega))) rfl ?_
  intro w22 M hK23
  replace hcs := hcs.snoc hr2 (Dt.at_mono (fun b hb => ⟨by omega, by rintro rfl; omega⟩) _ ha2) hK23
  refine qa (hK13 _ _ (wrl (sdo (v := .int .i64 (((i + 1 : Nat) : Int))) A (qh rfl rfl (fun w => (xb (vt (by omega) (by omega)) w).trans (by rw [show (((i : Nat) : Int) + 1 : Int) = ((i + 1 : Nat) : Int) from by omega]))) λa A↦?_)))
  refine sdm A λa A↦?_
  refine qa ?_
  replace M : Mg w w22 (.row 31 11 (.slice (some ⟨g9, 0, none⟩) ts.length c9) ts.length (cellsOf ((cs ++ [t2]) ++ ts.drop (i + 1))) :: []) := by
   have h9 := M.sub (cn (cc (.refl _)))
   exact h9
  refine hK8 _ _ _ (by omega) ⟨i + 1, cs ++ [t2], rfl, ⟨by omega, by rw [List.length_append]; simp only [List.length_cons, List.length_nil]; omega, qvg htr i1 ht2, hcs⟩, A.keep _ (by repeat' constructor), M⟩
 ·
  have hb11' := of_decide_eq_false hb11
  refine sdc A zq hb11 λa A↦?_
  refine qa (hK10 _ _ (wsk fun K24 hK24 => wp_cond_false (A.ev rfl) ?_))
  refine wp_exit (hK5 _ _ (wsk fun K25 hK25 => wrl (sdm A λa A↦?_)))
  refine sda A λa A↦?_
  refine qa (hK25 _ _ (wp_ret (hret _ _ (en1 A rfl (qf rfl) ?_))))
  have e9 : cs ++ ts.drop i = cs := by rw [List.drop_of_length_le (by omega), List.append_nil]
  rw [e9] at M
  have e8 : ts.length = cs.length := by omega
  exact ⟨_, cs, rfl, ⟨by rw [htr, List.take_of_length_le (by omega)], fun t ht => ⟨(hcs t ht).1, Dt.at_mono (fun b hb => ⟨hb.1, fun e => hb.2 (Option.some.inj e).symm⟩) _ (hcs t ht).2⟩⟩, e8 ▸ M⟩
theorem qpf : CopyAll [] := by
 intro w so ca hR hD hb
 have M : Mg w w ([]) := Mg.start w
 refine qx (l := [(0, .slice so (([] : List Dt).length) ca)]) Tryd.func31 rfl Tryd.ntmps31 rfl rfl ?_
 intro Q hret hnorm hP a A
 refine wsk fun K1 hK1 => wrl (sda A λa A↦?_)
 refine qa (hK1 _ _ (wsk fun K2 hK2 => wrl (sdm A λa A↦?_)))
 refine sct A (ef rfl rfl) (qwj (ts := []) (fun k => absurd rfl k) (by decide)) ?_
 rintro _ w4 ⟨v9, rfl, hM3⟩
 obtain ⟨so9, c9, rfl⟩ := yv (hM3.has 0 rfl)
 replace M : Mg w w4 (.row 31 11 (.slice so9 (([] : List Dt).length) c9) (([] : List Dt).length) (cellsOf []) :: []) := hM3
 refine ⟨_, rfl, ?_⟩
 intro a A
 refine sda A λa A↦?_
 refine qa (hK2 _ _ (wsk fun K5 hK5 => wsk fun K6 hK6 => wrl (sdm A λa A↦?_)))
 refine sdo A (qw Tryd.underlying22 rfl) λa A↦?_
 refine sdm A λa A↦?_
 refine qa (hK6 _ _ (wp_block (wp_loop_rounds 12 ?_)))
 refine qaf fun K7 hK7 => ?_
 refine wsk fun K8 hK8 => wrl (sdo (v := .bool false) A (qh rfl rfl (fun w => (zq w).trans (by rw [show (decide (0 < ((([] : List Dt).length : Nat) : Int))) = false from (by rfl)]))) λa A↦?_)
 refine qa (hK8 _ _ (wsk fun K9 hK9 => wp_cond_false (A.ev rfl) ?_))
 refine wp_exit (hK5 _ _ (wsk fun K10 hK10 => wrl (sdm A λa A↦?_)))
 refine sda A λa A↦?_
 refine qa (hK10 _ _ (wp_ret (hret _ _ (en1 A rfl (qf rfl) ?_))))
 exact ⟨_, [], rfl, ⟨rfl, fun t h => by cases h⟩, M⟩
theorem qpg {ts : List Dt} (ih : ∀ t ∈ ts, Copies t) : CopyAll ts := by
 by_cases h : ts = []
 ·
  subst h; exact qpf
 ·
  exact qlh ih h
theorem qbd : ∀ t : Dt, Copies t := Dt.indT fun d ts ih => by
 intro w hrd hb
 have hok := (Dt.rd_iff.1 hrd)
 rw [qlg] at hb
 have M : Mg w w ([]) := Mg.start w
 refine qx (l := [(0, .agg (d.cells ts.length).toArray)]) Tryd.func20 rfl Tryd.ntmps20 rfl rfl ?_
 intro Q hret hnorm hP a A
 refine wsk fun K1 hK1 => wrl (zn (vs := (d.cells ts.length)) (t := 31) A M rfl rfl rfl pg (zj rfl rfl) (by decide) ?_)
 intro g2 w3 M a A
 refine zn (vs := [.int .i64 0, .int .i64 0, .bool false, .slice none 0 0, .slice none 0 0, .bool false, .slice none 0 0, .slice none 0 0, .string (⟨#[]⟩), .slice none 0 0, .slice none 0 0]) (t := 31) A M rfl rfl rfl pg (ql (z := .agg #[.int .i64 0, .int .i64 0, .bool false, .slice none 0 0, .slice none 0 0, .bool false, .slice none 0 0, .slice none 0 0, .string (⟨#[]⟩), .slice none 0 0, .slice none 0 0]) (by kernel_rfl) rfl) (by decide) ?_
 intro g4 w5 M a A
 refine qa (hK1 _ _ (wsk fun K6 hK6 => vz (S := fun w1 => Mg w w1 (.obj g2 (.cells (d.cells ts.length).toArray 31) :: [])) (by kernel_rfl) ?_))
 replace M := M.drew
 refine qk (v := .pointer (some ⟨g2, 0, none⟩)) A 0 rfl rfl rfl rfl hP (M.sub (cn (cc (List.nil_sublist _)))) (fun w1 M => qb LiB_fld_31_0 rfl rfl) λa A↦?_
 refine qk A 1 rfl rfl rfl rfl hP (M.sub (cn (cc (List.nil_sublist _)))) (fun w1 M => qs M LiB_is1_3 rfl 0 rfl rfl) λa A↦?_
 refine qk (v := .pointer (some ⟨g2, 1, none⟩)) A 2 rfl rfl rfl rfl hP (M.sub (cn (cc (List.nil_sublist _)))) (fun w1 M => qb LiB_fld_31_1 rfl rfl) λa A↦?_
 refine qk A 3 rfl rfl rfl rfl hP (M.sub (cn (cc (List.nil_sublist _)))) (fun w1 M => qs M LiB_is1_3 rfl 0 rfl rfl) λa A↦?_
 refine qk (v := .pointer (some ⟨g2, 2, none⟩)) A 4 rfl rfl rfl rfl hP (M.sub (cn (cc (List.nil_sublist _)))) (fun w1 M => qb LiB_fld_31_2 rfl rfl) λa A↦?_
 refine qk (v := .pointer (some ⟨g2, 2, none⟩)) A 5 rfl rfl rfl rfl hP (M.sub (cn (cc (List.nil_sublist _)))) (fun w1 M => qb LiB_fld_28_0 rfl rfl) λa A↦?_
 refine qk A 6 rfl rfl rfl rfl hP (M.sub (cn (cc (List.nil_sublist _)))) (fun w1 M => za M LiB_isS_26 rfl 0 rfl (cs := [.bool d.y.q.b1, .slice d.y.o1 d.y.q.t1.length d.y.c1, .slice d.y.o2 d.y.q.q1.length d.y.c2]) rfl rfl) λa A↦?_
 refine qk (v := .pointer (some ⟨g2, 2, none⟩)) A 8 rfl rfl rfl rfl hP (M.sub (cn (cc (List.nil_sublist _)))) (fun w1 M => qb LiB_fld_31_2 rfl rfl) λa A↦?_
 refine qk (v := .pointer (some ⟨g2, 5, none⟩)) A 9 rfl rfl rfl rfl hP (M.sub (cn (cc (List.nil_sublist _)))) (fun w1 M => qb LiB_fld_28_1 rfl rfl) λa A↦?_
 refine qk A 10 rfl rfl rfl rfl hP (M.sub (cn (cc (List.nil_sublist _)))) (fun w1 M => za M LiB_isS_26 rfl 0 rfl (cs := [.bool d.y.q.b2, .slice d.y.o3 d.y.q.t2.length d.y.c3, .slice d.y.o4 d.y.q.q2.length d.y.c4]) rfl rfl) λa A↦?_
 refine qk (v := .pointer (some ⟨g2, 8, none⟩)) A 13 rfl rfl rfl rfl hP (M.sub (cn (cc (List.nil_sublist _)))) (fun w1 M => qb LiB_fld_31_3 rfl rfl) λa A↦?_
 refine qk A 14 rfl rfl rfl rfl hP (M.sub (cn (cc (List.nil_sublist _)))) (fun w1 M => qs M LiB_is1_9 rfl 0 rfl rfl) λa A↦?_
 refine qk (v := .pointer (some ⟨g2, 9, none⟩)) A 16 rfl rfl rfl rfl hP (M.sub (cn (cc (List.nil_sublist _)))) (fun w1 M => qb LiB_fld_31_4 rfl rfl) λa A↦?_
 refine qk A 17 rfl rfl rfl rfl hP (M.sub (cn (cc (List.nil_sublist _)))) (fun w1 M => qs M LiB_is1_29 rfl 0 rfl rfl) λa A↦?_
 refine qk (v := .pointer (some ⟨g2, 10, none⟩)) A 19 rfl rfl rfl rfl hP (M.sub (cn (cc (List.nil_sublist _)))) (fun w1 M => qb LiB_fld_31_5 rfl rfl) λa A↦?_
 refine qk A 20 rfl rfl rfl rfl hP (M.sub (cn (cc (List.nil_sublist _)))) (fun w1 M => qs M LiB_is1_22 rfl 0 rfl rfl) λa A↦?_
 have hlt7 := (Ck.lt (M.has 0 rfl) g4 rfl).2
 have hlt8 := (Ck.lt (M.has 1 rfl) g2 rfl).2
 have hsz9 := M.bel.size
 refine je (by kernel_rfl) (xz A 7 rfl rfl rfl rfl (ze rfl rfl (fun w => by kernel_rfl)) (qnj (hok.1.num.s1.below M.bel) (hok.1.num.s2.below M.bel) (by omega) (by omega)) ?_)
 rintro _ w11 ⟨p1, e1, p2, e2, rfl, ⟨hs1, hi1, hs2, hi2⟩, hb10⟩
 replace M := M.call hb10
 refine ⟨_, rfl, (M.sub (cn (cc (List.nil_sublist _)))), ?_⟩
 intro a A
 have hlt12 := (Ck.lt (M.has 0 rfl) g4 rfl).2
 have hlt13 := (Ck.lt (M.has 1 rfl) g2 rfl).2
 have hsz14 := M.bel.size
 refine je (by kernel_rfl) (xz A 11 rfl rfl rfl rfl (ze rfl rfl (fun w => by kernel_rfl)) (qnj (hok.1.num.s3.below M.bel) (hok.1.num.s4.below M.bel) (by omega) (by omega)) ?_)
 rintro _ w16 ⟨p3, e3, p4, e4, rfl, ⟨hs3, hi3, hs4, hi4⟩, hb15⟩
 replace hs1 := hs1.below hb15
 replace hs2 := hs2.below hb15
 replace M := M.call hb15
 refine ⟨_, rfl, (M.sub (cn (cc (List.nil_sublist _)))), ?_⟩
 intro a A
 refine qk (v := .agg #[.bool d.y.q.b1, .slice p1 d.y.q.t1.length e1, .slice p2 d.y.q.q1.length e2, .bool d.y.q.b2, .slice p3 d.y.q.t2.length e3, .slice p4 d.y.q.q2.length e4]) A 12 rfl rfl rfl rfl hP (M.sub (cn (cc (List.nil_sublist _)))) (fun w1 M => zb rfl (fun w => by kernel_rfl)) λa A↦?_
 refine je (by kernel_rfl) (xz A 15 rfl rfl rfl rfl (ze rfl rfl (fun w => by kernel_rfl)) (clone_any (by omega)) ?_)
 rintro _ w17 ⟨rfl, hbc⟩
 replace hs1 := hs1.below hbc
 replace hs2 := hs2.below hbc
 replace hs3 := hs3.below hbc
 replace hs4 := hs4.below hbc
 replace M := M.call hbc
 refine ⟨_, rfl, (M.sub (cn (cc (List.nil_sublist _)))), ?_⟩
 intro a A
 have hlt18 := (Ck.lt (M.has 0 rfl) g4 rfl).2
 have hlt19 := (Ck.lt (M.has 1 rfl) g2 rfl).2
 have hz5 := M.bel.size
 refine je (by kernel_rfl) (xz A 18 rfl rfl rfl rfl (ze rfl rfl (fun w => by kernel_rfl)) (qvh (hok.1.raw.below M.bel) (by omega)) ?_)
 rintro _ w20 ⟨ro5, rc5, rfl, ⟨hr5, hi5, hc5, hm5⟩, hb5⟩
 replace hs1 := hs1.below hb5
 replace hs2 := hs2.below hb5
 replace hs3 := hs3.below hb5
 replace hs4 := hs4.below hb5
 replace M := M.call hb5
 refine ⟨_, rfl, (M.sub (cn (cc (List.nil_sublist _)))), ?_⟩
 intro a A
 have hlt21 := (Ck.lt (M.has 0 rfl) g4 rfl).2
 have hlt22 := (Ck.lt (M.has 1 rfl) g2 rfl).2
 have hz6 := M.bel.size
 refine je (by kernel_rfl) (xz A 21 rfl rfl rfl rfl (ze rfl rfl (fun w => by kernel_rfl)) (qpg ih (hok.2.2.2.1.below M.bel) (fun t ht => Dt.keep M.bel _ (hok.2.2.2.2 t ht)) (by omega)) ?_)
 rintro _ w23 ⟨v6, us, rfl, ⟨htr, hus⟩, hM6⟩
 obtain ⟨lo6, lc6, rfl⟩ := yv (hM6.has 0 rfl)
 replace hs1 := hs1.below hM6.bel
 replace hs2 := hs2.below hM6.bel
 replace hs3 := hs3.below hM6.bel
 replace hs4 := hs4.below hM6.bel
 replace hr5 := hr5.below hM6.bel
 replace M : Mg w w23 (.row 31 11 (.slice lo6 us.length lc6) us.length (cellsOf us) :: .obj g4 (.cells #[.int .i64 0, .int .i64 0, .bool false, .slice none 0 0, .slice none 0 0, .bool false, .slice none 0 0, .slice none 0 0, .string (⟨#[]⟩), .slice none 0 0, .slice none 0 0] 31) :: .obj g2 (.cells (d.cells ts.length).toArray 31) :: []) := (M.both hM6 (zi (by simp) (zi (by simp) (zf zl))) (zi (by simp) (zf zl)))
 refine ⟨_, rfl, (M.sub (cn (cn (cc (List.nil_sublist _))))), ?_⟩
 intro a A
 refine qk (v := .agg #[.int .i64 d.k, .int .i64 d.n, .bool d.y.q.b1, .slice p1 d.y.q.t1.length e1, .slice p2 d.y.q.q1.length e2, .bool d.y.q.b2, .slice p3 d.y.q.t2.length e3, .slice p4 d.y.q.q2.length e4, .string d.s, .slice ro5 d.rl.length rc5, .slice lo6 us.length lc6]) A 22 rfl rfl rfl rfl hP (M.sub (cn (cn (cc (List.nil_sublist _))))) (fun w1 M => zb rfl (fun w => by kernel_rfl)) λa A↦?_
 refine je (by kernel_rfl) (qie (us := [.int .i64 d.k, .int .i64 d.n, .bool d.y.q.b1, .slice p1 d.y.q.t1.length e1, .slice p2 d.y.q.q1.length e2, .bool d.y.q.b2, .slice p3 d.y.q.t2.length e3, .slice p4 d.y.q.q2.length e4, .string d.s, .slice ro5 d.rl.length rc5, .slice lo6 us.length lc6]) (L' := (.row 31 11 (.slice lo6 us.length lc6) us.length (cellsOf us) :: .obj g4 (.cells #[.int .i64 d.k, .int .i64 d.n, .bool d.y.q.b1, .slice p1 d.y.q.t1.length e1, .slice p2 d.y.q.q1.length e2, .bool d.y.q.b2, .slice p3 d.y.q.t2.length e3, .slice p4 d.y.q.q2.length e4, .string d.s, .slice ro5 d.rl.length rc5, .slice lo6 us.length lc6] 31) :: .obj g2 (.cells (d.cells ts.length).toArray 31) :: [])) A M 23 rfl rfl rfl (qi rfl rfl rfl (by kernel_rfl) M 1 rfl rfl rfl) 1 rfl rfl rfl ?_)
 intro w24 M hK25
 replace hs1 := va hs1 (hi1.mono fun b hb => by rintro rfl; omega) hK25
 replace hs2 := va hs2 (hi2.mono fun b hb => by rintro rfl; omega) hK25
 replace hs3 := va hs3 (hi3.mono fun b hb => by rintro rfl; omega) hK25
 replace hs4 := va hs4 (hi4.mono fun b hb => by rintro rfl; omega) hK25
 replace hr5 := qnf hr5 (hi5.mono fun b hb => by rintro rfl; omega) hK25
 have hu9 : ∀ t ∈ us, t.rd w24 := fun t ht => Dt.kept hK25 _ (hus t ht).1 (Dt.at_mono (fun b hb => by rintro rfl; have := hb.1; omega) _ (hus t ht).2)
 refine ⟨(M.sub (cn (cn (cc (List.nil_sublist _))))), ?_⟩
 refine xn (by kernel_rfl) ?_
 refine hK6 _ _ (wp_ret (hret _ _ (en1 A rfl (zg M LiB_isS_31 rfl 1 rfl (cs := [.int .i64 d.k, .int .i64 d.n, .bool d.y.q.b1, .slice p1 d.y.q.t1.length e1, .slice p2 d.y.q.q1.length e2, .bool d.y.q.b2, .slice p3 d.y.q.t2.length e3, .slice p4 d.y.q.q2.length e4, .string d.s, .slice ro5 d.rl.length rc5, .slice lo6 us.length lc6]) rfl rfl) ?_)))
 have ho9 := xw (M.has 0 rfl)
 exact ⟨.mk ⟨d.k, d.n, ⟨d.y.q, p1, e1, p2, e2, p3, e3, p4, e4⟩, d.s, ro5, rc5, d.rl, lo6, lc6⟩ us, rfl, ⟨Dt.rd_iff.2 ⟨{ hok.1 with num := ⟨hs1, hs2, hs3, hs4⟩, raw := hr5, rcap := hc5, rmax := hm5 }, ho9.2.2.1, ho9.2.2.2, ho9.1, hu9⟩, Dt.at_iff.2 ⟨⟨hi1.mono fun b hb => Nat.le_trans hsz9 hb, hi2.mono fun b hb => Nat.le_trans hsz9 hb, hi3.mono fun b hb => Nat.le_trans hsz14 hb, hi4.mono fun b hb => Nat.le_trans hsz14 hb, hi5.mono fun b hb => Nat.le_trans hz5 hb⟩, qld (M.has 0 rfl) _, fun t ht => Dt.at_mono (fun b hb => Nat.le_trans hz6 hb.1) _ (hus t ht).2⟩, by rw [Dt.tr_mk, Dt.tr_mk, htr]⟩, M.bel⟩
/-- The empty list, and nothing. -/
def jm : Dt := .mk ⟨1, 0, ⟨Q6.zero, none, 0, none, 0, none, 0, none, 0⟩, ⟨#[]⟩, none, 0, [], none, 0⟩ []
def qe : Dt := .mk ⟨0, 0, ⟨Q6.zero, none, 0, none, 0, none, 0, none, 0⟩, ⟨#[]⟩, none, 0, [], none, 0⟩ []
def nilT : Tr := .mk 1 0 Q6.zero ⟨#[]⟩ [] []
def jj : Tr := .mk 0 0 Q6.zero ⟨#[]⟩ [] []
theorem yx : jm.tr = nilT := by unfold jm nilT; rw [Dt.tr_mk]; rfl
theorem jx : qe.tr = jj := by unfold qe jj; rw [Dt.tr_mk]; rfl
theorem qdg : LenQ Q6.zero := ⟨by decide, by decide, by decide, by decide⟩
theorem qac (w : World) (k : Int) (h0 : -9223372036854775808 ≤ k) (h1 : k ≤ 9223372036854775807) : (Dt.mk ⟨k, 0, ⟨Q6.zero, none, 0, none, 0, none, 0, none, 0⟩, ⟨#[]⟩, none, 0, [], none, 0⟩ []).rd w :=
  Dt.rd_iff.2 ⟨⟨⟨Sc.none w, Sc.none w, Sc.none w, Sc.none w⟩, qdg, ⟨fun h => absurd rfl h⟩, Nat.le_refl _, by show (0 : Nat) ≤ _; omega, h0, h1, by show (-9223372036854775808 : Int) ≤ 0; omega, by show (0 : Int) ≤ 9223372036854775807; omega, by show (0 : Nat) ≤ _; omega⟩, Nat.le_refl _, by show (0 : Nat) ≤ _; omega, fun h => absurd rfl h, fun t h => by cases h⟩
theorem qfh (w : World) : jm.rd w := qac w 1 (by decide) (by decide)
theorem jy (w : World) : qe.rd w := qac w 0 (by decide) (by decide)
theorem qoa (p : Nat → Prop) (k : Int) : (Dt.mk ⟨k, 0, ⟨Q6.zero, none, 0, none, 0, none, 0, none, 0⟩, ⟨#[]⟩, none, 0, [], none, 0⟩ []).at_ p :=
  Dt.at_iff.2 ⟨⟨fun h => absurd rfl h, fun h => absurd rfl h, fun h => absurd rfl h, fun h => absurd rfl h, fun h => absurd rfl h⟩, fun h => absurd rfl h, fun t h => by cases h⟩
theorem qvi (p : Nat → Prop) : jm.at_ p := qoa p 1
theorem jz (p : Nat → Prop) : qe.at_ p := qoa p 0
/-- Items, one behind the other, and what stands behind them. -/
def qr : List Tr → Tr → Tr
  | [], z => z
  | t :: ts, z => .mk 8 0 Q6.zero ⟨#[]⟩ [] [t, qr ts z]
theorem jq : ∀ (a b : List Tr) (z : Tr), qr (a ++ b) z = qr a (qr b z)
  | [], _, _ => rfl
  | t :: a, b, z => by rw [List.cons_append, qr, qr, jq a b z]
theorem vi : ∀ (a : List Tr) (z : Tr), (qr a z).bulk = Tr.bulks a + a.length + z.bulk
  | [], z => by simp [qr, Tr.bulks]
  | t :: a, z => by
    rw [qr, xu, Tr.bulks, Tr.bulks, Tr.bulks, vi a z, Tr.bulks, List.length_cons]
    show 0 + 0 + (0 + 0 + (0 + 0)) + 1 + _ = _
    omega
theorem qbe : ∀ {a b : List Tr} {y z : Tr}, y.k ≠ 8 → z.k ≠ 8 → qr a y = qr b z → a = b ∧ y = z
  | [], [], y, z, _, _, h => ⟨rfl, h⟩
  | [], t :: b, y, z, hy, _, h => absurd (by rw [qr, qr] at h; rw [h]; rfl) hy
  | t :: a, [], y, z, _, hz, h => absurd (by rw [qr, qr] at h; rw [← h]; rfl) hz
  | t :: a, u :: b, y, z, hy, hz, h => by
    rw [qr, qr] at h
    injection h with _ _ _ _ _ h
    injection h with h1 h2
    injection h2 with h2 _
    obtain ⟨h3, h4⟩ := qbe hy hz h2
    exact ⟨by rw [h1, h3], h4⟩
open Classical in
/-- The items of a list. -/
noncomputable def zk (t : Tr) : Option (List Tr) := if h : ∃ xs, t = qr xs nilT then some (Classical.choose h) else none
theorem jl (xs : List Tr) : zk (qr xs nilT) = some xs := by
  have h : ∃ ys, qr xs nilT = qr ys nilT := ⟨xs, rfl⟩
  unfold zk
  rw [dif_pos h]
  have := Classical.choose_spec h
  rw [← (qbe (by decide) (by decide) this).1]
theorem qph {xs : List Tr} {z : Tr} (h8 : z.k ≠ 8) (h1 : z.k ≠ 1) : zk (qr xs z) = none := by
  unfold zk
  rw [dif_neg]
  rintro ⟨ys, h⟩
  obtain ⟨_, h2⟩ := qbe h8 (by decide) h
  exact h1 (by rw [h2]; rfl)
theorem qii {t : Tr} {xs : List Tr} (h : zk t = some xs) : t = qr xs nilT := by
  unfold zk at h
  by_cases hx : ∃ ys, t = qr ys nilT
  · rw [dif_pos hx] at h
    have := Classical.choose_spec hx
    rw [← Option.some.inj h]; exact this
  · rw [dif_neg hx] at h; cases h
/-! ### What a shape says -/
theorem qdh {b : Bool} {t q : List Nat} (h : qba b t.length q.length = true) : b = false ∧ t = [] ∧ q = [] := by
  unfold qba at h
  simp only [Bool.and_eq_true, Bool.not_eq_true', decide_eq_true_eq] at h
  exact ⟨h.1, List.length_eq_zero_iff.1 h.2.1, List.length_eq_zero_iff.1 h.2.2⟩
theorem qbf {n : Int} {q : Q6} {s : ByteArray} {mr ml : Nat} (h : xj n q.b1 q.t1.length q.q1.length q.b2 q.t2.length q.q2.length s mr ml = true) : n = 0 ∧ q = Q6.zero ∧ s = ⟨#[]⟩ ∧ mr = 0 ∧ ml = 0 := by
  unfold xj at h
  simp only [Bool.and_eq_true, decide_eq_true_eq] at h
  obtain ⟨h1, h2, h3, h4, h5, h6⟩ := h
  obtain ⟨a1, a2, a3⟩ := qdh h2
  obtain ⟨b1, b2, b3⟩ := qdh h3
  refine ⟨h1, ?_, h4, h5, h6⟩
  cases q
  simp only at a1 a2 a3 b1 b2 b3
  subst a1 a2 a3 b1 b2 b3
  rfl
theorem qli {n : Int} {q : Q6} {s : ByteArray} {rl : List UInt8} {ts : List Tr} (h : qg (.mk 8 n q s rl ts) = true) : n = 0 ∧ q = Q6.zero ∧ s = ⟨#[]⟩ ∧ rl = [] ∧ ts.length = 2 := by
  unfold qg zw at h
  simp at h
  obtain ⟨h1, h2⟩ := h
  obtain ⟨a, b, c, d, _⟩ := qbf h2
  exact ⟨a, b, c, List.length_eq_zero_iff.1 d, h1⟩
theorem qpi {n : Int} {q : Q6} {s : ByteArray} {rl : List UInt8} {ts : List Tr} (h : qg (.mk 1 n q s rl ts) = true) : Tr.mk 1 n q s rl ts = nilT := by
  unfold qg zw at h
  simp at h
  obtain ⟨a, b, c, d, e⟩ := qbf h
  rw [a, b, c, List.length_eq_zero_iff.1 d, List.length_eq_zero_iff.1 e]
  rfl
theorem qsg {p : Tr → Bool} {ts : List Tr} : yg p ts = true ↔ ∀ t ∈ ts, jt p t = true := by
  induction ts with
  | nil => simp [yg]
  | cons t ts ih => simp [yg, ih]
theorem qlj {p : Tr → Bool} {t : Dt} (h : jt p t.tr = true) : p t.tr = true ∧ ∀ u ∈ t.ts, jt p u.tr = true := by
  cases t with
  | mk d ts =>
    rw [Dt.tr_mk, jt, Bool.and_eq_true, qsg] at h
    refine ⟨by rw [Dt.tr_mk]; exact h.1, fun u hu => h.2 _ (List.mem_map_of_mem hu)⟩
/-- A pair of a sound tree, taken apart. -/
theorem qob {t : Dt} (h : jt qg t.tr = true) (hk : t.d.k = 8) : t.ts.length = 2 ∧ ∀ a b, t.ts[0]? = some a → t.ts[1]? = some b → t.tr = .mk 8 0 Q6.zero ⟨#[]⟩ [] [a.tr, b.tr] := by
  have h1 := (qlj h).1
  cases t with
  | mk d ts =>
    rw [Dt.tr_mk] at h1 ⊢
    simp only [Dt.d] at hk
    rw [hk] at h1 ⊢
    obtain ⟨a1, a2, a3, a4, a5⟩ := qli h1
    rw [List.length_map] at a5
    refine ⟨a5, fun a b ha hb => ?_⟩
    rw [a1, a2, a3, a4]
    simp only [Dt.ts] at ha hb a5
    match ts, a5 with
    | [x, y], _ =>
      simp at ha hb
      rw [ha, hb]
      rfl
theorem qxe {t : Dt} (h : jt qg t.tr = true) (hk : t.d.k = 1) : t.tr = nilT := by
  have h1 := (qlj h).1
  cases t with
  | mk d ts =>
    rw [Dt.tr_mk] at h1 ⊢
    simp only [Dt.d] at hk
    rw [hk] at h1 ⊢
    exact qpi h1
theorem qxf (t : Dt) : t.tr.k = t.d.k := by cases t; rw [Dt.tr_mk]; rfl
/-! ### Slices of data, and what is found in them -/
theorem qvj {w : World} {so : Option Addr} {ts : List Dt} (hR : Rt w so ts) (hD : ∀ t ∈ ts, t.rd w) {i : Nat} (hi : i < ts.length) : ∃ t b o, ts[i]? = some t ∧ t ∈ ts ∧ t.rd w ∧ so = some ⟨b, o, none⟩ ∧ Here w b (o + i * 11) (t.d.cells t.ts.length) := by
  obtain ⟨b, o, e, h2⟩ := hR (fun k => by subst k; simp at hi)
  have ht := List.getElem?_eq_getElem hi
  exact ⟨ts[i], b, o, ht, List.getElem_mem hi, hD _ (List.getElem_mem hi), e, h2 i _ ht⟩
/-- Where the first such one stands, or -1. -/
def qij (p : Dt → Bool) (ts : List Dt) : Int := if ts.any p = true then (ts.findIdx p : Int) else -1
theorem qwa {p : Dt → Bool} {ts : List Dt} {i : Nat} {t : Dt} (h : ∀ j u, j < i → ts[j]? = some u → p u = false) (hi : ts[i]? = some t) (hp : p t = true) : qij p ts = i := by
  obtain ⟨hl, e⟩ := List.getElem?_eq_some_iff.1 hi
  unfold qij
  rw [if_pos (List.any_eq_true.2 ⟨t, List.mem_of_getElem? hi, hp⟩)]
  congr 1
  rw [List.findIdx_eq hl]
  refine ⟨by rw [e]; exact hp, fun j hj => h j _ hj (List.getElem?_eq_getElem _)⟩
theorem qsh {p : Dt → Bool} {ts : List Dt} (h : ∀ j u, j < ts.length → ts[j]? = some u → p u = false) : qij p ts = -1 := by
  unfold qij
  rw [if_neg]
  intro k
  obtain ⟨t, ht, hp⟩ := List.any_eq_true.1 k
  obtain ⟨j, hj⟩ := List.mem_iff_getElem?.1 ht
  rw [h j t (List.getElem?_eq_some_iff.1 hj).1 hj] at hp
  cases hp
theorem qoc (p : Dt → Bool) (ts : List Dt) : decide (0 ≤ qij p ts) = ts.any p := by
  unfold qij
  by_cases h : ts.any p = true
  · rw [if_pos h, h]; exact decide_eq_true (by omega)
  · rw [if_neg h, Bool.eq_false_iff.2 h]; rfl
/-- A function that is asked of data: what it answers; it changes nothing. -/
structure Asks (P : Program) (f : FuncId) (cs : List Value) (w0 : World) (ts : List Dt) (p : Dt → Bool) : Prop where
  inv : ∀ (us : Array Value) (w : World), (callFunc f us).run P w = .ok (.enter f us) w
  run : ∀ (t : Dt) (w : World), t ∈ ts → Below w0.heap.size w0 w → Calls P f ([Value.agg (t.d.cells t.ts.length).toArray] ++ cs).toArray w fun e w' => e = .returned (.bool (p t)) ∧ Below w.heap.size w w'
theorem qma {t : Dt} {xs : List Tr} {p : Dt} (h : t.tr = qr xs p.tr) (hs : jt qg p.tr = true) (hk : p.d.k = 1) : zk t.tr = some xs := by
  rw [h, qxe hs hk, jl]
theorem qmb {t : Dt} {xs : List Tr} {p : Dt} (h : t.tr = qr xs p.tr) (h8 : p.d.k ≠ 8) (h1 : p.d.k ≠ 1) : zk t.tr = none := by
  rw [h, qph (by rw [qxf]; exact h8) (by rw [qxf]; exact h1)]
/-- One pair further. -/
theorem qpj {t : Dt} {xs : List Dt} {p a b : Dt} (h : t.tr = qr (xs.map Dt.tr) p.tr) (hs : jt qg p.tr = true) (hk : p.d.k = 8) (ha : p.ts[0]? = some a) (hb : p.ts[1]? = some b) : t.tr = qr ((xs ++ [a]).map Dt.tr) b.tr := by
  rw [h, (qob hs hk).2 a b ha hb, List.map_append, jq]
  rfl
theorem qsi {p : Dt → Prop} {xs : List Dt} {a : Dt} (h : ∀ x ∈ xs, p x) (ha : p a) : ∀ x ∈ xs ++ [a], p x := fun x hx => by
  rcases List.mem_append.1 hx with k | k
  · exact h x k
  · rw [List.mem_singleton.1 k]; exact ha
theorem kz {t : Tr} (h : qp qg t = true) : jt qg t = true := by unfold qp at h; rw [Bool.and_eq_true] at h; exact h.2
theorem qsj (t : Dt) : 1 ≤ t.tr.bulk := by cases t; rw [Dt.tr_mk, xu]; omega
/-! ### Lists that are joined -/
noncomputable def zt : List Tr → Option (List Tr)
  | [] => some []
  | t :: ts => match zk t, zt ts with
    | some xs, some ys => some (xs ++ ys)
    | _, _ => none
theorem kg : ∀ (a b : List Tr) {xs : List Tr}, zt a = some xs → zt (a ++ b) = (zt b).map (xs ++ ·)
  | [], b, xs, h => by
    cases h
    rw [List.nil_append]
    cases zt b <;> rfl
  | t :: a, b, xs, h => by
    rw [List.cons_append, zt]
    rw [zt] at h
    cases h1 : zk t with
    | none => rw [h1] at h; cases h
    | some x1 =>
      cases h2 : zt a with
      | none => rw [h1, h2] at h; cases h
      | some x2 =>
        rw [h1, h2] at h
        cases h
        rw [kg a b h2]
        cases zt b with
        | none => rfl
        | some y => simp
theorem qbg {a : List Tr} {t : Tr} {xs ys : List Tr} (h : zt a = some xs) (ht : zk t = some ys) : zt (a ++ [t]) = some (xs ++ ys) := by
  rw [kg a [t] h, zt, ht, zt]
  simp
theorem qqa {a b : List Tr} {t : Tr} {xs : List Tr} (h : zt a = some xs) (ht : zk t = none) : zt (a ++ t :: b) = none := by
  rw [kg a (t :: b) h, zt, ht]
  rfl
theorem qfi {ts : List Dt} {i : Nat} {t : Dt} (h : ts[i]? = some t) : (ts.take (i + 1)).map Dt.tr = (ts.take i).map Dt.tr ++ [t.tr] := by
  obtain ⟨hl, rfl⟩ := List.getElem?_eq_some_iff.1 h
  rw [List.take_succ_eq_append_getElem hl, List.map_append, List.map_singleton]
theorem qqb {ts : List Dt} {i : Nat} {t : Dt} {xs : List Tr} (h : zt ((ts.take i).map Dt.tr) = some xs) (hi : ts[i]? = some t) (ht : zk t.tr = none) : zt (ts.map Dt.tr) = none := by
  have e : ts.map Dt.tr = (ts.take i).map Dt.tr ++ t.tr :: (ts.drop (i + 1)).map Dt.tr := by
    obtain ⟨hl, rfl⟩ := List.getElem?_eq_some_iff.1 hi
    rw [← List.map_cons, ← List.drop_eq_getElem_cons hl, ← List.map_append, List.take_append_drop]
  rw [e, qqa h ht]
theorem jd : ∀ a b : List Tr, Tr.bulks (a ++ b) = Tr.bulks a + Tr.bulks b
  | [], b => by simp [Tr.bulks]
  | t :: a, b => by rw [List.cons_append, Tr.bulks, Tr.bulks, jd a b]; omega
theorem qmc {ts : List Dt} {i : Nat} {t : Dt} (h : ts[i]? = some t) : Tr.bulks ((ts.take (i + 1)).map Dt.tr) = Tr.bulks ((ts.take i).map Dt.tr) + t.tr.bulk := by
  rw [qfi h, jd, Tr.bulks, Tr.bulks]; omega
theorem qbh {ts : List Dt} (i : Nat) : Tr.bulks ((ts.take i).map Dt.tr) ≤ Tr.bulks (ts.map Dt.tr) := by
  conv => rhs; rw [← List.take_append_drop i ts, List.map_append, jd]
  omega
/-! ### A new pair -/
def yy (g : Nat) (x z : Dt) : Dt := .mk ⟨8, 0, ⟨Q6.zero, none, 0, none, 0, none, 0, none, 0⟩, ⟨#[]⟩, none, 0, [], some ⟨g, 0, none⟩, 2⟩ [x, z]
theorem qja (g : Nat) (x z : Dt) : (yy g x z).d.cells (yy g x z).ts.length = [.int .i64 8, .int .i64 0, .bool false, .slice none 0 0, .slice none 0 0, .bool false, .slice none 0 0, .slice none 0 0, .string ⟨#[]⟩, .slice none 0 0, .slice (some ⟨g, 0, none⟩) 2 2] := rfl
theorem qta (g : Nat) (x z : Dt) : (yy g x z).tr = .mk 8 0 Q6.zero ⟨#[]⟩ [] [x.tr, z.tr] := by unfold yy; rw [Dt.tr_mk]; rfl
theorem qqc (w : World) (lo : Option Addr) (lc : Nat) : NdOk w ⟨8, 0, ⟨Q6.zero, none, 0, none, 0, none, 0, none, 0⟩, ⟨#[]⟩, none, 0, [], lo, lc⟩ :=
  ⟨⟨Sc.none w, Sc.none w, Sc.none w, Sc.none w⟩, qdg, ⟨fun h => absurd rfl h⟩, Nat.le_refl _, by show (0 : Nat) ≤ _; omega, by show (-9223372036854775808 : Int) ≤ 8; omega, by show (8 : Int) ≤ 9223372036854775807; omega, by show (-9223372036854775808 : Int) ≤ 0; omega, by show (0 : Int) ≤ 9223372036854775807; omega, by show (0 : Nat) ≤ _; omega⟩
theorem qtb {w : World} {g : Nat} {x z : Dt} (hg : g < w.heap.size) (hc : ∀ p v, (cellsOf [x, z])[p]? = some v → w.cell? ⟨g, p, none⟩ = some v) (hx : x.rd w) (hz : z.rd w) : (yy g x z).rd w := by
  unfold yy
  refine Dt.rd_iff.2 ⟨qqc w _ _, Nat.le_refl _, by show (2 : Nat) ≤ _; omega, fun _ => ⟨g, 0, rfl, fun i t hi => ⟨hg, fun j v hj => ?_⟩⟩, fun t ht => ?_⟩
  · rw [Nat.zero_add]
    exact hc _ _ (yu hi hj)
  · rcases List.mem_cons.1 ht with h | h
    · rw [h]; exact hx
    · rw [List.mem_singleton.1 h]; exact hz
theorem qtc {p : Nat → Prop} {g : Nat} {x z : Dt} (hg : p g) (hx : x.at_ p) (hz : z.at_ p) : (yy g x z).at_ p := by
  unfold yy
  refine Dt.at_iff.2 ⟨⟨fun h => absurd rfl h, fun h => absurd rfl h, fun h => absurd rfl h, fun h => absurd rfl h, fun h => absurd rfl h⟩, fun _ b o e => ?_, fun t ht => ?_⟩
  · cases e; exact hg
  · rcases List.mem_cons.1 ht with h | h
    · rw [h]; exact hx
    · rw [List.mem_singleton.1 h]; exact hz
theorem LiC_isS_31 : IsS Tryd.prog 31 11 := ⟨⟨_, Tryd.underlying31⟩, by kernel_rfl⟩
theorem qqd {w : World} {so : Option Addr} {ca : Nat} {ts : List Dt} (hR : Rt w so ts) (hD : ∀ t ∈ ts, t.rd w) (hl : ts.length ≤ 1000000000) {f : FuncId} {cs : List Value} {p : Dt → Bool} (hF : Asks Tryd.prog f cs w ts p) : Calls Tryd.prog 32 #[.slice so ts.length ca, .func (.func f) #[] cs.toArray] w fun e w' => e = .returned (.int .i64 (qij p ts)) ∧ Below w.heap.size w w' := by
 have M : Mg w w ([]) := Mg.start w
 refine qx (l := [(0, .slice so ts.length ca), (1, .func (.func f) #[] cs.toArray)]) Tryd.func32 rfl Tryd.ntmps32 rfl rfl ?_
 intro Q hret hnorm hP a A
 refine wsk fun K1 hK1 => wrl (sda A λa A↦?_)
 refine qa (hK1 _ _ (wsk fun K2 hK2 => wsk fun K3 hK3 => wrl (sdm A λa A↦?_)))
 refine sdo A (qw Tryd.underlying22 rfl) λa A↦?_
 refine sdm A λa A↦?_
 refine qa (hK3 _ _ (wp_block (jg (fun m_ a w1 => ∃ (i : Nat), m_ = 1 + (ts.length - i) ∧ (i ≤ ts.length ∧ ∀ j u, j < i → ts[j]? = some u → p u = false) ∧ Sl a 19 [(0, .slice so ts.length ca), (1, .func (.func f) #[] cs.toArray), (6, .slice so ts.length ca), (7, .int .i64 (((ts.length : Nat) : Int))), (8, .int .i64 (((i : Nat) : Int)))] ∧ Mg w w1 ([])) _ ⟨0, rfl, ⟨Nat.zero_le _, fun j u h => absurd h (Nat.not_lt_zero _)⟩, A.keep _ ⟨rfl, rfl, rfl, rfl, rfl, trivial⟩, M⟩ ?_)))
 clear M A
 rintro m_ a w4 ⟨i, rfl, hinv6, A, M⟩ K5 hK5
 obtain ⟨hi0, hin9⟩ := hinv6
 refine wsk fun K7 hK7 => wrl ?_
 rcases tf (decide (((i : Nat) : Int) < ((ts.length : Nat) : Int))) with hb8 | hb8
 ·
  have hb8' := of_decide_eq_true hb8
  refine sdc A zq hb8 λa A↦?_
  refine qa (hK7 _ _ (wsk fun K9 hK9 => wp_cond_true (A.ev rfl) ?_))
  refine wp_skip (hK9 _ _ (wsk fun K10 hK10 => wp_block (wsk fun K11 hK11 => wrl (sdm A λa A↦?_))))
  refine sda A λa A↦?_
  refine qa (hK11 _ _ (wsk fun K12 hK12 => ?_))
  obtain ⟨t1, bt1, ot1, it1, mt1, rt1_, lt1, Ht1⟩ := qvj hR hD (i := i) (by omega)
  refine wrl ?_
  iterate 3 refine sdm A λa A↦?_
  refine sdo (v := .pointer (some ⟨bt1, ot1 + i * 11, none⟩)) A (zp (k := i) Tryd.underlying22 (by kernel_rfl) rfl rfl rfl lt1 (by omega)) λa A↦?_
  refine sdo A (zd M Ht1 LiC_isS_31 rfl rfl) λa A↦?_
  rcases tf (p t1) with hb13 | hb13
  ·
   refine ju A rfl rfl rfl (qde rfl rfl hF.inv) ((hb13 ▸ hF.run t1 _ mt1 M.bel)) ?_
   rintro _ w15 ⟨rfl, hb14⟩
   replace M := M.call hb14
   refine ⟨_, rfl, ?_⟩
   intro a A
   refine qa (hK12 _ _ (wp_cond_true (A.ev rfl) ?_))
   refine wsk fun K16 hK16 => wrl (sdm A λa A↦?_)
   refine sda A λa A↦?_
   refine qa (hK16 _ _ (wp_ret (hret _ _ (en1 A rfl (qf rfl) ?_))))
   exact ⟨by rw [qwa hin9 it1 hb13], M.bel⟩
  ·
   refine ju A rfl rfl rfl (qde rfl rfl hF.inv) ((hb13 ▸ hF.run t1 _ mt1 M.bel)) ?_
   rintro _ w18 ⟨rfl, hb17⟩
   replace M := M.call hb17
   refine ⟨_, rfl, ?_⟩
   intro a A
   refine qa (hK12 _ _ (wp_cond_false (A.ev rfl) ?_))
   refine wp_skip (hK10 _ _ (wrl (sdo (v := .int .i64 (((i + 1 : Nat) : Int))) A (qh rfl rfl (fun w => (xb (vt (by omega) (by omega)) w).trans (by rw [show (((i : Nat) : Int) + 1 : Int) = ((i + 1 : Nat) : Int) from by omega]))) λa A↦?_)))
   refine sdm A λa A↦?_
   refine qa ?_
   replace M : Mg w w18 ([]) := by
    have h9 := M.sub (.refl _)
    exact h9
   refine hK5 _ _ _ (by omega) ⟨i + 1, rfl, ⟨by omega, fun j u hj hu => if h9 : j < i then hin9 j u h9 hu else by have h8 : j = i := (by omega); subst h8; rw [it1] at hu; rw [← Option.some.inj hu]; exact hb13⟩, A.keep _ ⟨rfl, rfl, rfl, rfl, rfl, trivial⟩, M⟩
 ·
  have hb8' := of_decide_eq_false hb8
  refine sdc A zq hb8 λa A↦?_
  refine qa (hK7 _ _ (wsk fun K19 hK19 => wp_cond_false (A.ev rfl) ?_))
  refine wp_exit (hK2 _ _ (wsk fun K20 hK20 => wrl (sda A λa A↦?_)))
  refine qa (hK20 _ _ (wp_ret (hret _ _ (en1 A rfl (qf rfl) ?_))))
  exact ⟨by rw [qsh (fun j u hj => hin9 j u (by omega))], M.bel⟩
theorem qfj {w : World} {so : Option Addr} {ca : Nat} {ts : List Dt} (hR : Rt w so ts) (hD : ∀ t ∈ ts, t.rd w) (hl : ts.length ≤ 1000000000) {f : FuncId} {cs : List Value} {p : Dt → Bool} (hF : Asks Tryd.prog f cs w ts p) : Calls Tryd.prog 21 #[.slice so ts.length ca, .func (.func f) #[] cs.toArray] w fun e w' => e = .returned (.bool (ts.any p)) ∧ Below w.heap.size w w' := by
 have M : Mg w w ([]) := Mg.start w
 refine qx (l := [(0, .slice so ts.length ca), (1, .func (.func f) #[] cs.toArray)]) Tryd.func21 rfl Tryd.ntmps21 rfl rfl ?_
 intro Q hret hnorm hP a A
 refine wsk fun K1 hK1 => wrl (sda A λa A↦?_)
 refine qa (hK1 _ _ (wsk fun K2 hK2 => wrl ?_))
 iterate 2 refine sdm A λa A↦?_
 refine gcl A M (ef rfl rfl) (qqd (hR.below M.bel) (fun t ht => Dt.keep M.bel _ (hD t ht)) hl ⟨hF.inv, fun t w1 ht hb => hF.run t w1 ht (M.bel.trans (hb.mono M.bel.size))⟩) fun w4 hb3 M a A => ?_
 rcases tf (decide (0 ≤ qij p ts)) with hb5 | hb5
 ·
  have hb5' := of_decide_eq_true hb5
  refine sdc A kv hb5 λa A↦?_
  refine sda A λa A↦?_
  refine qa (hK2 _ _ (wp_ret (hret _ _ (en1 A rfl (qf rfl) ?_))))
  exact ⟨by rw [← qoc p ts]; simp_all, M.bel⟩
 ·
  have hb5' := of_decide_eq_false hb5
  refine sdc A kv hb5 λa A↦?_
  refine sda A λa A↦?_
  refine qa (hK2 _ _ (wp_ret (hret _ _ (en1 A rfl (qf rfl) ?_))))
  exact ⟨by rw [← qoc p ts]; simp_all, M.bel⟩
theorem qjb {w : World} {t : Dt} (ht : t.rd w) (hT : Tabs8 w) : Calls Tryd.prog 22 #[.agg (t.d.cells t.ts.length).toArray] w fun e w' => e = .returned (.bool (!qp qg t.tr)) ∧ Below w.heap.size w w' := by
 have M : Mg w w ([]) := Mg.start w
 refine qx (l := [(0, .agg (t.d.cells t.ts.length).toArray)]) Tryd.func22 rfl Tryd.ntmps22 rfl rfl ?_
 intro Q hret hnorm hP a A
 refine wsk fun K1 hK1 => wrl (zn (vs := (t.d.cells t.ts.length)) (t := 31) A M rfl rfl rfl pg (zj rfl rfl) (by decide) ?_)
 intro g2 w3 M a A
 refine sda A λa A↦?_
 refine qa (hK1 _ _ (wsk fun K4 hK4 => wrl (sdo A (za M LiC_isS_31 rfl 0 rfl (cs := (t.d.cells t.ts.length)) rfl rfl) λa A↦?_)))
 rcases tf (qp qg t.tr) with hb5 | hb5
 ·
  refine gcl A M (ef rfl rfl) ((hb5 ▸ sound_any (t := t) (Dt.keep M.bel _ ht) (hT.below M.bel))) fun w7 hb6 M a A => ?_
  refine sdo (v := .bool false) A (zm rfl zv) λa A↦?_
  refine sda A λa A↦?_
  refine qa (hK4 _ _ (wp_ret (hret _ _ (en1 A rfl (qf rfl) ?_))))
  exact ⟨by simp_all, M.bel⟩
 ·
  refine gcl A M (ef rfl rfl) ((hb5 ▸ sound_any (t := t) (Dt.keep M.bel _ ht) (hT.below M.bel))) fun w9 hb8 M a A => ?_
  refine sdo (v := .bool true) A (zm rfl zv) λa A↦?_
  refine sda A λa A↦?_
  refine qa (hK4 _ _ (wp_ret (hret _ _ (en1 A rfl (qf rfl) ?_))))
  exact ⟨by simp_all, M.bel⟩
theorem qga {w : World} {ts : List Dt} (hD : ∀ t ∈ ts, t.rd w) (hT : Tabs8 w) : Asks Tryd.prog 22 [] w ts (fun t => !qp qg t.tr) := ⟨fun us w => by kernel_rfl, fun t w1 ht hb => qjb (Dt.keep hb _ (hD t ht)) (hT.below hb)⟩
theorem qqe (ts : List Dt) : (!ts.any fun t => !qp qg t.tr) = ts.all fun t => qp qg t.tr := by
 induction ts with
 | nil => rfl
 | cons t ts ih => rw [List.any_cons, List.all_cons, Bool.not_or, Bool.not_not, ih]
theorem qgb {w : World} {so : Option Addr} {ca : Nat} {ts : List Dt} (hR : Rt w so ts) (hD : ∀ t ∈ ts, t.rd w) (hl : ts.length ≤ 1000000000) (hT : Tabs8 w) : Calls Tryd.prog 12 #[.slice so ts.length ca] w fun e w' => e = .returned (.bool (ts.all fun t => qp qg t.tr)) ∧ Below w.heap.size w w' := by
 have M : Mg w w ([]) := Mg.start w
 refine qx (l := [(0, .slice so ts.length ca)]) Tryd.func12 rfl Tryd.ntmps12 rfl rfl ?_
 intro Q hret hnorm hP a A
 refine wsk fun K1 hK1 => wrl (sda A λa A↦?_)
 refine qa (hK1 _ _ (wsk fun K2 hK2 => wrl (sdm A λa A↦?_)))
 refine gcl A M (ef rfl rfl) (qfj (cs := []) (hR.below M.bel) (fun t ht => Dt.keep M.bel _ (hD t ht)) hl (qga (fun t ht => Dt.keep M.bel _ (hD t ht)) (hT.below M.bel))) fun w4 hb3 M a A => ?_
 refine sdo (v := .bool (!(ts.any fun t => !qp qg t.tr))) A (zm rfl zv) λa A↦?_
 refine sda A λa A↦?_
 refine qa (hK2 _ _ (wp_ret (hret _ _ (en1 A rfl (qf rfl) ?_))))
 exact ⟨by rw [← qqe], M.bel⟩
theorem LiD_is1_22 : Is1 Tryd.prog 22 := ⟨⟨_, Tryd.underlying22, rfl⟩, by kernel_rfl⟩
theorem LiD_is1_3 : Is1 Tryd.prog 3 := ⟨⟨_, Tryd.underlying3, rfl⟩, by kernel_rfl⟩
theorem LiD_fld_31_0 : FieldAt Tryd.prog 31 0 0 := ⟨_, _, Tryd.underlying31, rfl, rfl, by kernel_rfl⟩
theorem LiD_fld_31_5 : FieldAt Tryd.prog 31 5 10 := ⟨_, _, Tryd.underlying31, rfl, rfl, by kernel_rfl⟩
theorem LiD_isS_31 : IsS Tryd.prog 31 11 := ⟨⟨_, Tryd.underlying31⟩, by kernel_rfl⟩
theorem qqf {w : World} {t t0 : Dt} (ht : t.rd w) (h0 : t.ts[0]? = some t0) : Calls Tryd.prog 33 #[.agg (t.d.cells t.ts.length).toArray] w fun e w' => e = .returned (.agg (t0.d.cells t0.ts.length).toArray) ∧ Below w.heap.size w w' := by
 have hlt : 0 < t.ts.length := (List.getElem?_eq_some_iff.1 h0).1
 have M : Mg w w ([]) := Mg.start w
 refine qx (l := [(0, .agg (t.d.cells t.ts.length).toArray)]) Tryd.func33 rfl Tryd.ntmps33 rfl rfl ?_
 intro Q hret hnorm hP a A
 refine wsk fun K1 hK1 => wrl (zn (vs := (t.d.cells t.ts.length)) (t := 31) A M rfl rfl rfl pg (zj rfl rfl) (by decide) ?_)
 intro g2 w3 M a A
 refine zn (vs := (qe.d.cells qe.ts.length)) (t := 31) A M rfl rfl rfl pg (ql (z := .agg (qe.d.cells qe.ts.length).toArray) (by kernel_rfl) rfl) (by decide) ?_
 intro g4 w5 M a A
 refine qa (hK1 _ _ (wsk fun K6 hK6 => ?_))
 obtain ⟨t1, bt1, ot1, it1, mt1, rt1_, lt1, Ht1⟩ := qpa ht (i := 0) hlt
 obtain rfl : t1 = t0 := by rw [it1] at h0; exact Option.some.inj h0
 refine wrl (sdo (v := .pointer (some ⟨g2, 10, none⟩)) A (qb LiD_fld_31_5 rfl rfl) λa A↦?_)
 refine sdo A (qs M LiD_is1_22 rfl 1 rfl rfl) λa A↦?_
 refine sdo (v := .pointer (some ⟨bt1, ot1 + 0 * 11, none⟩)) A (zp (k := 0) Tryd.underlying22 (by kernel_rfl) rfl rfl rfl lt1 hlt) λa A↦?_
 refine sdo A (zd M Ht1 LiD_isS_31 rfl rfl) λa A↦?_
 refine qt (us := (t1.d.cells t1.ts.length)) (L' := (.obj g4 (.cells (t1.d.cells t1.ts.length).toArray 31) :: .obj g2 (.cells (t.d.cells t.ts.length).toArray 31) :: [])) A M rfl rfl (qi rfl rfl rfl (by kernel_rfl) M 0 rfl rfl rfl) 0 rfl rfl rfl ?_
 intro w7 M
 refine qa (hK6 _ _ (wp_ret (hret _ _ (en1 A rfl (zg M LiD_isS_31 rfl 0 rfl (cs := [.int .i64 t1.d.k, .int .i64 t1.d.n, .bool t1.d.y.q.b1, .slice t1.d.y.o1 t1.d.y.q.t1.length t1.d.y.c1, .slice t1.d.y.o2 t1.d.y.q.q1.length t1.d.y.c2, .bool t1.d.y.q.b2, .slice t1.d.y.o3 t1.d.y.q.t2.length t1.d.y.c3, .slice t1.d.y.o4 t1.d.y.q.q2.length t1.d.y.c4, .string t1.d.s, .slice t1.d.ro t1.d.rl.length t1.d.rc, .slice t1.d.lo t1.ts.length t1.d.lc]) rfl rfl) ?_))))
 exact ⟨rfl, M.bel⟩
theorem qgc {w : World} : Calls Tryd.prog 11 #[] w fun e w' => e = .returned (.agg (jm.d.cells jm.ts.length).toArray) ∧ Below w.heap.size w w' := by
 have M : Mg w w ([]) := Mg.start w
 refine qx (l := []) Tryd.func11 rfl Tryd.ntmps11 rfl rfl ?_
 intro Q hret hnorm hP a A
 refine wsk fun K1 hK1 => wrl (zn (vs := (qe.d.cells qe.ts.length)) (t := 31) A M rfl rfl rfl pg (ql (z := .agg (qe.d.cells qe.ts.length).toArray) (by kernel_rfl) rfl) (by decide) ?_)
 intro g2 w3 M a A
 refine qa (hK1 _ _ (wsk fun K4 hK4 => wrl (sdo (v := .agg #[.int .i64 1, .int .i64 0, .bool false, .slice none 0 0, .slice none 0 0, .bool false, .slice none 0 0, .slice none 0 0, .string (⟨#[]⟩), .slice none 0 0, .slice none 0 0]) A (zb rfl (fun w => by kernel_rfl)) λa A↦?_)))
 refine qt (us := [.int .i64 1, .int .i64 0, .bool false, .slice none 0 0, .slice none 0 0, .bool false, .slice none 0 0, .slice none 0 0, .string (⟨#[]⟩), .slice none 0 0, .slice none 0 0]) (L' := (.obj g2 (.cells #[.int .i64 1, .int .i64 0, .bool false, .slice none 0 0, .slice none 0 0, .bool false, .slice none 0 0, .slice none 0 0, .string (⟨#[]⟩), .slice none 0 0, .slice none 0 0] 31) :: [])) A M rfl rfl (qi rfl rfl rfl (by kernel_rfl) M 0 rfl rfl rfl) 0 rfl rfl rfl ?_
 intro w5 M
 refine qa (hK4 _ _ (wp_ret (hret _ _ (en1 A rfl (zg M LiD_isS_31 rfl 0 rfl (cs := [.int .i64 1, .int .i64 0, .bool false, .slice none 0 0, .slice none 0 0, .bool false, .slice none 0 0, .slice none 0 0, .string (⟨#[]⟩), .slice none 0 0, .slice none 0 0]) rfl rfl) ?_))))
 exact ⟨rfl, M.bel⟩
theorem ur {w0 w : World} {t : Dt} (h0 : Below w0.heap.size w0 w) (ht : t.rd w0) (hs : jt qg t.tr = true) (hb : t.tr.bulk ≤ 1000000000) : Calls Tryd.prog 23 #[.agg (t.d.cells t.ts.length).toArray] w fun e w' => (∃ so' ca' xs, e = .returned (.tuple #[.slice so' (xs : List Dt).length ca', .int .i64 0]) ∧ (zk t.tr = some (xs.map Dt.tr) ∧ (∀ x ∈ xs, x.rd w0) ∧ xs.length ≤ t.tr.bulk) ∧ Mg w w' [.row 31 11 (.slice so' xs.length ca') xs.length (cellsOf xs)]) ∨ (e = .returned (.tuple #[.slice none 0 0, .int .i64 10]) ∧ zk t.tr = none ∧ Below w.heap.size w w') := by
 have M : Mg w w ([]) := Mg.start w
 refine qx (l := [(0, .agg (t.d.cells t.ts.length).toArray)]) Tryd.func23 rfl Tryd.ntmps23 rfl rfl ?_
 intro Q hret hnorm hP a A
 refine wsk fun K1 hK1 => wrl (zn (vs := (t.d.cells t.ts.length)) (t := 31) A M rfl rfl rfl pg (zj rfl rfl) (by decide) ?_)
 intro g2 w3 M a A
 iterate 2 refine sda A λa A↦?_
 refine qa (hK1 _ _ (wsk fun K4 hK4 => wrl (sda A λa A↦?_)))
 refine qa (hK4 _ _ (wsk fun K5 hK5 => wp_block ?_))
 replace M := M.nilRow (zi (by simp) (zf zl)) 31 11
 refine jg (fun m_ a w1 => ∃ (p : Dt) (xs : List Dt) (so_ : Option Addr) (ca_ : Nat), m_ = 1 + p.tr.bulk ∧ (p.rd w0 ∧ jt qg p.tr = true ∧ (∀ x ∈ xs, x.rd w0) ∧ t.tr = qr (xs.map Dt.tr) p.tr ∧ xs.length + p.tr.bulk ≤ t.tr.bulk) ∧ Sl a 21 [(0, .agg (t.d.cells t.ts.length).toArray), (1, .pointer (some ⟨g2, 0, none⟩)), (2, .slice none 0 0), (3, .int .i64 0), (4, .slice so_ xs.length ca_)] ∧ Mg w w1 (.row 31 11 (.slice so_ xs.length ca_) xs.length (cellsOf xs) :: .obj g2 (.cells (p.d.cells p.ts.length).toArray 31) :: [])) _ ⟨t, [], none, 0, rfl, ⟨ht, hs, (fun x h => by cases h), rfl, (by show 0 + t.tr.bulk ≤ t.tr.bulk; omega)⟩, A.keep _ ⟨rfl, rfl, rfl, rfl, rfl, trivial⟩, M⟩ ?_
 clear M A
 rintro m_ a w6 ⟨p, xs, so_, ca_, rfl, hinv8, A, M⟩ K7 hK7
 obtain ⟨hp, hps, hxs, htl, hbx⟩ := hinv8
 refine wsk fun K9 hK9 => wsk fun K10 hK10 => wrl (sdo (v := .pointer (some ⟨g2, 0, none⟩)) A (qb LiD_fld_31_0 rfl rfl) λa A↦?_)
 refine sdo A (qs M LiD_is1_3 rfl 1 rfl rfl) λa A↦?_
 rcases tf ((p.d.k == 8)) with hb11 | hb11
 ·
  have hb11' := eq_of_beq hb11
  refine sdc A qn hb11 λa A↦?_
  refine qa (hK10 _ _ (wp_cond_true (A.ev rfl) ?_))
  refine wp_skip (hK9 _ _ (wp_block (wsk fun K12 hK12 => ?_)))
  have l2p := (qob hps hb11').1
  have hbp := qsj p
  obtain ⟨p0, bp0, op0, ip0, mp0, rp0_, lp0, Hp0⟩ := qpa hp (i := 0) (by omega)
  obtain ⟨p1, bp1, op1, ip1, mp1, rp1_, lp1, Hp1⟩ := qpa hp (i := 1) (by omega)
  replace Hp0 := Hp0.below h0
  replace Hp1 := Hp1.below h0
  refine wrl (sdm A λa A↦?_)
  refine sdo A (za M LiD_isS_31 rfl 1 rfl (cs := (p.d.cells p.ts.length)) rfl rfl) λa A↦?_
  refine gcl A M (ef rfl rfl) (qqf (Dt.keep M.bel _ (Dt.keep h0 _ hp)) ip0) fun w14 hb13 M a A => ?_
  refine kd (e := 31) (sz := 11) (m := 1) (vs := cellsOf [p0]) A M rfl rfl rfl (zh rfl (by kernel_rfl)) rfl rfl (.inl (by decide)) ?_
  intro g15 w16 M a A
  refine vu (e := 31) (sz := 11) (k := 1) (q := xs.length) (m := 1) (xs := cellsOf xs) (news := cellsOf [p0]) (L' := fun v17 => (.row 31 11 (.slice (some ⟨g15, 0, none⟩) 1 1) 1 (cellsOf [p0]) :: .row 31 11 (v17) (xs.length + 1) (cellsOf xs ++ cellsOf [p0]) :: .obj g2 (.cells (p.d.cells p.ts.length).toArray 31) :: [])) A rfl rfl rfl (qbb (z := .agg #[.int .i64 0, .int .i64 0, .bool false, .slice none 0 0, .slice none 0 0, .bool false, .slice none 0 0, .slice none 0 0, .string ⟨#[]⟩, .slice none 0 0, .slice none 0 0]) (sz := 11) (by_ := 192) Tryd.underlying22 (by kernel_rfl) rfl rfl rfl M 1 rfl rfl rfl rfl (qsa (M.has 0 rfl)) (kf [p0]) (by omega)) (fun _ => rfl) ?_
  intro v17 w18 M a A
  replace M : Mg w w18 (.row 31 11 (.slice (some ⟨g15, 0, none⟩) 1 1) 1 (cellsOf [p0]) :: .row 31 11 (v17) ((xs ++ [p0]).length) (cellsOf (xs ++ [p0])) :: .obj g2 (.cells (p.d.cells p.ts.length).toArray 31) :: []) := by
   rw [xr, List.length_append]; exact M
  obtain ⟨so19, ca20, rfl⟩ := yv (M.has 1 rfl)
  refine sda A λa A↦?_
  refine qa (hK12 _ _ (wrl (sdo (v := .pointer (some ⟨g2, 10, none⟩)) A (qb LiD_fld_31_5 rfl rfl) λa A↦?_)))
  refine sdo A (qs M LiD_is1_22 rfl 2 rfl rfl) λa A↦?_
  refine sdo (v := .pointer (some ⟨bp1, op1 + 1 * 11, none⟩)) A (zp (k := 1) Tryd.underlying22 (by kernel_rfl) rfl rfl rfl lp1 (by omega)) λa A↦?_
  refine sdo A (zd M Hp1 LiD_isS_31 rfl rfl) λa A↦?_
  refine qt (us := (p1.d.cells p1.ts.length)) (L' := (.row 31 11 (.slice (some ⟨g15, 0, none⟩) 1 1) 1 (cellsOf [p0]) :: .row 31 11 (.slice so19 ((xs ++ [p0]).length) ca20) ((xs ++ [p0]).length) (cellsOf (xs ++ [p0])) :: .obj g2 (.cells (p1.d.cells p1.ts.length).toArray 31) :: [])) A M rfl rfl (qi rfl rfl rfl (by kernel_rfl) M 2 rfl rfl rfl) 2 rfl rfl rfl ?_
  intro w21 M
  refine qa ?_
  replace M : Mg w w21 (.row 31 11 (.slice so19 ((xs ++ [p0]).length) ca20) ((xs ++ [p0]).length) (cellsOf (xs ++ [p0])) :: .obj g2 (.cells (p1.d.cells p1.ts.length).toArray 31) :: []) := by
   have h9 := M.sub (cn (cc (cc (.refl _))))
   exact h9
  refine hK7 _ _ _ (by have := qne mp1; omega) ⟨p1, xs ++ [p0], so19, ca20, rfl, ⟨rp1_, (qlj hps).2 _ mp1, qsi hxs rp0_, qpj htl hps hb11' ip0 ip1, by have := qne mp1; rw [List.length_append]; simp only [List.length_cons, List.length_nil]; omega⟩, A.keep _ ⟨rfl, rfl, rfl, rfl, rfl, trivial⟩, M⟩
 ·
  have hb11' := ne_of_beq_false hb11
  refine sdc A qn hb11 λa A↦?_
  refine qa (hK10 _ _ (wp_cond_false (A.ev rfl) ?_))
  refine wp_exit (hK5 _ _ (wsk fun K22 hK22 => wsk fun K23 hK23 => wrl (sdo (v := .pointer (some ⟨g2, 0, none⟩)) A (qb LiD_fld_31_0 rfl rfl) λa A↦?_)))
  refine sdo A (qs M LiD_is1_3 rfl 1 rfl rfl) λa A↦?_
  rcases tf ((p.d.k != 1)) with hb24 | hb24
  ·
   have hb24' := bne_iff_ne.1 hb24
   refine sdc A zy hb24 λa A↦?_
   refine qa (hK23 _ _ (wp_cond_true (A.ev rfl) ?_))
   refine wsk fun K25 hK25 => wrl ?_
   iterate 2 refine sda A λa A↦?_
   refine qa (hK25 _ _ (wp_ret (hret _ _ (en2 A rfl (qf rfl) (qf rfl) ?_))))
   exact .inr ⟨rfl, qmb htl hb11' hb24', M.bel⟩
  ·
   have hb24' := bne_eq_false_iff_eq.1 hb24
   refine sdc A zy hb24 λa A↦?_
   refine qa (hK23 _ _ (wp_cond_false (A.ev rfl) ?_))
   refine wp_skip (hK22 _ _ (wsk fun K26 hK26 => wrl (sdm A λa A↦?_)))
   iterate 2 refine sda A λa A↦?_
   refine qa (hK26 _ _ (wp_ret (hret _ _ (en2 A rfl (qf rfl) (qf rfl) ?_))))
   replace M : Mg w w6 (.row 31 11 (.slice so_ xs.length ca_) xs.length (cellsOf xs) :: []) := by
    have h9 := M.sub (cc (cn (.refl _)))
    exact h9
   exact .inl ⟨_, _, xs, rfl, ⟨qma htl hps hb24', hxs, by omega⟩, M⟩
theorem yb {w0 w : World} {t : Dt} (h0 : Below w0.heap.size w0 w) (ht : t.rd w0) (hs : jt qg t.tr = true) (hb : t.tr.bulk ≤ 1000000000) (h : (zk t.tr).isSome = true) : Calls Tryd.prog 23 #[.agg (t.d.cells t.ts.length).toArray] w fun e w' => ∃ so' ca' xs, e = .returned (.tuple #[.slice so' (xs : List Dt).length ca', .int .i64 0]) ∧ (zk t.tr = some (xs.map Dt.tr) ∧ (∀ x ∈ xs, x.rd w0) ∧ xs.length ≤ t.tr.bulk) ∧ Mg w w' [.row 31 11 (.slice so' xs.length ca') xs.length (cellsOf xs)] := by
 refine (ur h0 ht hs hb).mono ?_
 rintro e w' (h1 | ⟨_, h2, _⟩)
 ·
  exact h1
 ·
  rw [h2] at h; cases h
theorem yd {w0 w : World} {t : Dt} (h0 : Below w0.heap.size w0 w) (ht : t.rd w0) (hs : jt qg t.tr = true) (hb : t.tr.bulk ≤ 1000000000) (h : (zk t.tr).isSome = false) : Calls Tryd.prog 23 #[.agg (t.d.cells t.ts.length).toArray] w fun e w' => e = .returned (.tuple #[.slice none 0 0, .int .i64 10]) ∧ Below w.heap.size w w' := by
 refine (ur h0 ht hs hb).mono ?_
 rintro e w' (⟨_, _, xs, _, h1, _⟩ | ⟨h1, _, h3⟩)
 ·
  rw [h1.1] at h; cases h
 ·
  exact ⟨h1, h3⟩
section
variable {F : Fence} {m : Nat} {P : Program} {w0 w w' : World} {L : List Ck} {l : List (Nat × Value)} {ops : List Oper} {Q : Exit → Act → World → Prop} {a : Act} {n : Nat} {o : Oper} {rest : List Oper} {d : Nat} {v : Value}
/-- The slots, whatever waits for the function's end. -/
def Sd (a : Act) (n : Nat) (l : List (Nat × Value)) : Prop := Sl { a with defers := [] } n l
theorem qgd (hnd : ∀ c, o.op ≠ .defer c) (r : Option Nat) (ρ : Operand → Value) : o.semAt r ρ = execOp ρ o := by
  cases r with
  | none => rfl
  | some k => exact Oper.semAt_some k _ _ hnd
theorem vj (hF : ∀ f, F.fn f) (hA : Sd a n l) (hg : qy l ops o = true) (hdst : o.dst = some d) (hd : Nat.blt d n = true) (hnd : ∀ c, o.op ≠ .defer c) (he : Does P l o w v w')
    (hk : ∀ a', Sd a' n ((d, v) :: l) → a'.defers = a.defers → wpListIn F m P ops.toArray Q rest a' w') : wpListIn F m P ops.toArray Q (o :: rest) a w := by
  unfold wpListIn
  rw [if_pos (show Region.wanted o (yielded ops.toArray a.tmps) = true from hA.wanted hg)]
  refine ⟨fun f _ => hF f, ?_⟩
  rw [qgd hnd, he a.eval (fun x u hx => hA.ev hx), Oper.uponIn_value, hdst]
  exact hk _ (hA.put hd v) rfl
theorem qtd (hF : ∀ f, F.fn f) (hA : Sd a n l) (hg : qy l ops o = true) (hdst : o.dst = none) (hnd : ∀ c, o.op ≠ .defer c) (he : Sets P l o w w')
    (hk : wpListIn F m P ops.toArray Q rest a w') : wpListIn F m P ops.toArray Q (o :: rest) a w := by
  unfold wpListIn
  rw [if_pos (show Region.wanted o (yielded ops.toArray a.tmps) = true from hA.wanted hg)]
  refine ⟨fun f _ => hF f, ?_⟩
  rw [qgd hnd, he a.eval (fun x u hx => hA.ev hx), Oper.uponIn_skip, hdst]
  exact hk
theorem qxg (hF : ∀ f, F.fn f) (hd0 : F.depth = none) (hA : Sd a n l) (hg : qy l ops o = true) (hdst : o.dst = some d) (hd : Nat.blt d n = true) (hnd : ∀ c, o.op ≠ .defer c) {f : FuncId} {vs : List Value} (he : Enters P l o w f vs) {R : World → Prop} (hc : CallsIn F (m - 1) P f vs.toArray w fun e w' => e = .returned v ∧ R w')
    (hk : ∀ w', R w' → ∀ a', Sd a' n ((d, v) :: l) → a'.defers = a.defers → wpListIn F m P ops.toArray Q rest a' w') : wpListIn F m P ops.toArray Q (o :: rest) a w := by
  unfold wpListIn
  rw [if_pos (show Region.wanted o (yielded ops.toArray a.tmps) = true from hA.wanted hg)]
  refine ⟨fun f _ => hF f, ?_⟩
  rw [qgd hnd, he a.eval (fun x u hx => hA.ev hx), Oper.uponIn_enter]
  refine ⟨(fun h => by rw [hd0] at h; cases h), hc.mono ?_⟩
  rintro _ w' ⟨rfl, h⟩
  rw [hdst]
  exact hk w' h _ (hA.put hd v) rfl
/-- A loop of so many rounds. -/
theorem qxh {c : Code} (I : Nat → Act → World → Prop) (N : Nat) (h0 : I N a w) (round : ∀ k a w, I k a w → c.wpIn F m P (Exit.then (fun a' w' => ∃ j, k = j + 1 ∧ I j a' w') Q) a w) : (Code.loop c).wpIn F m P Q a w := by
  have key : ∀ k a w, I k a w → Code.roundsIn F m P c Q (k + 1) a w := by
    intro k
    induction k with
    | zero =>
      intro a w h
      refine wpIn_mono (round 0 a w h) (fun e a' w' hq => ?_)
      cases e with
      | normal => obtain ⟨j, hj, _⟩ := hq; omega
      | _ => exact hq
    | succ k ih =>
      intro a w h
      refine wpIn_mono (round (k + 1) a w h) (fun e a' w' hq => ?_)
      cases e with
      | normal =>
        obtain ⟨j, hj, hI⟩ := hq
        obtain rfl : k = j := by omega
        exact ih a' w' hI
      | _ => exact hq
  exact wpIn_loop_rounds (N + 1) (key N a w h0)
/-- A round of a loop is called. -/
theorem qwb (hF : ∀ f, F.fn f) (hd0 : F.depth = none) (hA : Sd a n l) (hg : qy l ops o = true) (hdst : o.dst = some d) (hd : Nat.blt d n = true) (hnd : ∀ c, o.op ≠ .defer c) {k : Nat} {vs : List Value} (he : ∀ ρ : Operand → Value, (∀ x u, ev l x = some u → ρ x = u) → (execOp ρ o).run P w = (Instr.yield k vs.toArray).run P w) {R : Bool → World → Prop} (hy : YieldAt F (m - 1) P k vs.toArray w fun e w' => ∃ b, e = .returned (.bool b) ∧ R b w')
    (hk : ∀ b w', R b w' → ∀ a', Sd a' n ((d, .bool b) :: l) → a'.defers = a.defers → wpListIn F m P ops.toArray Q rest a' w') : wpListIn F m P ops.toArray Q (o :: rest) a w := by
  obtain ⟨fn, tmps, assign, body, h1, h2⟩ := hy
  unfold wpListIn
  rw [if_pos (show Region.wanted o (yielded ops.toArray a.tmps) = true from hA.wanted hg)]
  refine ⟨fun f _ => hF f, ?_⟩
  rw [qgd hnd, he a.eval (fun x u hx => hA.ev hx), h1, Oper.uponIn_round]
  refine ⟨(fun h => by rw [hd0] at h; cases h), h2.mono ?_⟩
  rintro _ w' ⟨b, rfl, h⟩
  rw [hdst]
  exact hk b w' h _ (hA.put hd (.bool b)) rfl
theorem qjc {x : Operand} {k : Nat} {args : List Operand} {ts : Array TypeId} {vs : List Value} {dst : Option Tmp} {ty : TypeId} {pos : String} {after : Array Edge} {guard : Option (Nat × Bool)} (hx : ev l x = some (.func (.yield k) #[] #[])) (ha : evs l args = some vs) :
    ∀ ρ : Operand → Value, (∀ x u, ev l x = some u → ρ x = u) → (execOp ρ ⟨dst, .call ⟨.value x, args.toArray, ts⟩, ty, pos, after, guard⟩).run P w = (Instr.yield k vs.toArray).run P w := fun ρ h => by
  have e := qfa h args vs ha
  simp [execOp, resolve, invoke, h x _ hx, Deferred.ofValue, e]
theorem Sd.sl (h : Sd a n l) (hd : a.defers = []) : Sl a n l := ⟨h.size, h.holds, hd⟩
theorem Sd.ev (h : Sd a n l) {x : Operand} {v : Value} (hx : Go.Proofs.YtnemkamkjfokaaaDoor.G.ev l x = some v) : a.eval x = v := Sl.ev h hx
theorem Sd.keep (h : Sd a n l) (l' : List (Nat × Value)) (hs : AllIn l l') : Sd a n l' := Sl.keep h l' hs
theorem qxi {f : FuncId} {fn : Func} {c : Code} {args : List Value} {Z : Ending → World → Prop} (hf : P.funcs[f]? = some fn) (hb : fn.body = some c) (hF : F.fn f) (hn : fn.ntmps = n) (hl : Nat.ble args.length n = true) (hs : (args.zipIdx.map fun p => (p.2, p.1)) = l) (hro : F.round = none)
    (h : ∀ Q : Exit → Act → World → Prop, (∀ a w, bodyPost P fn Z .ret a w → Q .ret a w) → (∀ a w, bodyPost P fn Z .ret a w → Q .normal a w) → ∀ a, Sd a n l → a.defers = [] → c.wpIn F m P Q a w) : CallsIn F m P f args.toArray w Z := by
  subst hs
  refine callsIn_of_wp hf hb hF (h _ (fun _ _ h => h) (fun _ _ h => h) _ ?_ rfl) hro
  rw [hn]
  exact Sl.enter (Nat.le_of_ble_eq_true hl)
theorem qwc {f : FuncId} {fn : Func} {c : Code} {args : List Value} {Z : Ending → World → Prop} (hf : P.funcs[f]? = some fn) (hb : fn.body = some c) (hF : F.fn f) (hn : fn.ntmps = n) (hl : Nat.ble args.length n = true) (hs : (args.zipIdx.map fun p => (p.2, p.1)) = l) (hro : F.round = none)
    (h : ∀ Q : Exit → Act → World → Prop, (∀ a w, bodyPostM F m P fn Z .ret a w → Q .ret a w) → ∀ a, Sd a n l → a.defers = [] → c.wpIn F m P Q a w) : CallsIn F m P f args.toArray w Z := by
  subst hs
  refine callsIn_of_wp_marks hf hb hF (h _ (fun _ _ h => h) _ ?_ rfl) hro
  rw [hn]
  exact Sl.enter (Nat.le_of_ble_eq_true hl)
theorem ua {x y : Code} (h : ∀ K : Act → World → Prop, (∀ a w, y.wpIn F m P Q a w → K a w) → x.wpIn F m P (Exit.then K Q) a w) : (Code.seq x y).wpIn F m P Q a w := wpIn_seq (h _ (fun _ _ h => h))
theorem qte (hF : ∀ f, F.fn f) (hA : Sd a n l) (hM : Mg w0 w L) (hg : qy l ops o = true) (hdst : o.dst = some d) (hd : Nat.blt d n = true) (hnd : ∀ c, o.op ≠ .defer c) {vs : List Value} {t : TypeId} (val : Nat → Value) (he : Does P l o w (val w.heap.size) (w.alloc (.cells vs.toArray t))) (ht : t ≠ BY)
    (hk : ∀ g w', Mg w0 w' (.obj g (.cells vs.toArray t) :: L) → w.heap.size ≤ g → g < w'.heap.size → Below w.heap.size w w' → KeepsOthers w w' → ∀ a', Sd a' n ((d, val g) :: l) → a'.defers = a.defers → wpListIn F m P ops.toArray Q rest a' w') : wpListIn F m P ops.toArray Q (o :: rest) a w :=
  vj hF hA hg hdst hd hnd he (hk _ _ (hM.addObj _ (vm ht)) (Nat.le_refl _) (by simp) ((Below.refl _ w).alloc (Nat.le_refl _) _) (KeepsOthers.alloc _ _))
end
theorem kh (g : Nat) : ∀ (cs : List Value) (w : World) (o : Nat), KeepsOthers w (w.setCells g o cs)
  | [], w, o => KeepsOthers.refl w
  | c :: cs, w, o => (KeepsOthers.setCell w ⟨g, o, none⟩ c).trans (kh g cs _ _)
theorem yh {B : Nat} (g : Nat) (hg : B ≤ g) : ∀ (cs : List Value) (w : World) (o : Nat), Below B w (w.setCells g o cs)
  | [], w, o => Below.refl _ w
  | c :: cs, w, o => ((Below.refl B w).setCell (p := ⟨g, o, none⟩) hg c).trans (yh g hg cs _ _)
/-- A block that holds no cells is turned: all cells are kept. -/
theorem uk {w w' : World} {row : Option Nat} (hg : w.grownBy w' row) (hr : ∀ r, row = some r → ∃ o : Obj, w.heap[r]? = some o ∧ o.isCells = false) : Kept (fun _ => True) w w' := ⟨hg.size, fun b i v _ hc => by
  by_cases e : row = some b
  · obtain ⟨o, ho, hn⟩ := hr b e
    unfold World.cell? at hc
    simp only [ho] at hc
    cases o <;> simp_all [Obj.isCells]
  · exact hg.cell hc (fun k => e k.symm)⟩
theorem Mg.calm {w0 w w' : World} {L : List Ck} {row : Option Nat} (h : Mg w0 w L) (hg : w.grownBy w' row) (hr : ∀ r, row = some r → w0.heap.size ≤ r ∧ ∃ o : Obj, w.heap[r]? = some o ∧ o.isCells = false) (hL : ∀ c ∈ L, ∃ g vs t, c = .obj g (.cells vs t)) : Mg w0 w' L := by
  refine ⟨h.bel.grown hg h.bel.size (fun k e => (hr k e).1), fun c hc => ?_, h.dis⟩
  obtain ⟨g, vs, t, rfl⟩ := hL c hc
  have h2 := h.all _ hc
  refine ⟨h2.1, (hg.block g (Array.getElem?_eq_some_iff.1 h2.2).1 (fun e => ?_)).trans h2.2⟩
  obtain ⟨_, o, ho, hn⟩ := hr g e.symm
  rw [h2.2] at ho
  cases ho
  cases hn
theorem Dt.at_true : ∀ t : Dt, t.at_ (fun _ => True) := Dt.indT fun d ts ih => Dt.at_iff.2 ⟨⟨fun _ _ _ _ => trivial, fun _ _ _ _ => trivial, fun _ _ _ _ => trivial, fun _ _ _ _ => trivial, fun _ _ _ _ => trivial⟩, fun _ _ _ _ => trivial, ih⟩
theorem Here.kept {w w' : World} {b o : Nat} {cs : List Value} (h : Here w b o cs) (hk : Kept (fun _ => True) w w') : Here w' b o cs := ⟨Nat.lt_of_lt_of_le h.1 hk.1, fun j v hj => hk.2 _ _ _ trivial (h.2 j v hj)⟩
theorem qbi : Is1 Tryd.prog 22 := ⟨⟨_, Tryd.underlying22, rfl⟩, by kernel_rfl⟩
theorem vw : IsS Tryd.prog 31 11 := ⟨⟨_, Tryd.underlying31⟩, by kernel_rfl⟩
/-- What is handed to a round: a place, and a datum that was there. -/
def Al (w : World) : Type := { x : Int × Dt // x.2.rd w }
def qyc {w : World} (x : Al w) : Array Value := #[.int .i64 x.1.1, .agg (x.1.2.d.cells x.1.2.ts.length).toArray]
/-- What a round keeps: what lay there, and the iterator's own box. -/
def KpB (n₀ Bs : Nat) (W W' : World) : Prop := Below n₀ W W' ∧ ∀ v, W.cell? ⟨Bs, 0, none⟩ = some v → W'.cell? ⟨Bs, 0, none⟩ = some v
theorem KpB.refl (n₀ Bs : Nat) (W : World) : KpB n₀ Bs W W := ⟨Below.refl _ _, fun _ h => h⟩
theorem KpB.trans {n₀ Bs : Nat} {A B C : World} (h : KpB n₀ Bs A B) (k : KpB n₀ Bs B C) : KpB n₀ Bs A C := ⟨h.1.trans k.1, fun v hv => k.2 v (h.2 v hv)⟩
set_option maxRecDepth 100000 in
set_option maxHeartbeats 400000 in
theorem qmd {wA w0 : World} {Bs : Nat} {so : Option Addr} {ca : Nat} {ts : List Dt} (hR : Rt wA so ts) (hD : ∀ t ∈ ts, t.rd wA) (hb : Below wA.heap.size wA w0) (hBs : w0.cell? ⟨Bs, 0, none⟩ = some (.slice so ts.length ca)) (hBl : Bs < w0.heap.size) (hl : ts.length ≤ 1000000000) (n : Nat) :
    SeqStopsK Fence.wide n Tryd.prog 35 #[.pointer (some ⟨Bs, 0, none⟩)] (qyc (w := wA)) (KpB wA.heap.size Bs) (fun ys => ys.map (fun x => x.1.2) = ts.reverse) (fun _ => True) ts.length w0 := by
  intro l J Jx W hW hJ hJx hY h0
  have hF : ∀ f, Fence.wide.fn f := fun _ => trivial
  rw [List.append_toArray]
  refine qxi (l := [(0, .func (.yield l) #[] #[]), (1, .pointer (some ⟨Bs, 0, none⟩))]) Tryd.func35 rfl trivial rfl rfl rfl rfl ?_
  intro Q hret hnorm a hA hdf
  have hc : W.cell? ⟨Bs, 0, none⟩ = some (.slice so ts.length ca) := (hW.cell (p := ⟨Bs, 0, none⟩) hBl).trans hBs
  refine ua fun K1 hK1 => wpIn_region_lit ?_
  refine vj (v := .slice so ts.length ca) hF hA rfl rfl rfl (by intro c h; cases h) (jc rfl (xg qbi hc)) fun a hA h2 => ?_
  refine vj (v := .int .i64 (ts.length : Nat)) hF hA rfl rfl rfl (by intro c h; cases h) (qw Tryd.underlying22 rfl) fun a hA h3 => ?_
  refine vj (v := .int .i64 ((ts.length : Int) - 1)) hF hA rfl rfl rfl (by intro c h; cases h) (qh rfl rfl (ar_sub (in_i64 (by omega) (by omega)))) fun a hA h4 => ?_
  refine vj (v := .int .i64 ((ts.length : Int) - 1)) hF hA rfl rfl rfl (by intro c h; cases h) (jb rfl) fun a hA h5 => ?_
  refine wpListIn_nil (hK1 _ _ (wpIn_block ?_))
  refine qxh (fun k a W' => k ≤ ts.length ∧ Sd a 19 [(0, .func (.yield l) #[] #[]), (1, .pointer (some ⟨Bs, 0, none⟩)), (3, .int .i64 ((k : Int) - 1))] ∧ a.defers = [] ∧ KpB wA.heap.size Bs W W' ∧ ∃ pre, J pre W' ∧ pre.map (fun x => x.1.2) = (ts.drop k).reverse) ts.length ⟨Nat.le_refl _, hA.keep _ ⟨rfl, rfl, rfl, trivial⟩, by rw [h5, h4, h3, h2, hdf], KpB.refl _ _ _, [], h0, by rw [List.drop_length]; rfl⟩ ?_
  rintro k a W' ⟨hk, hA, hd, hKp, pre, hJp, hpre⟩
  have hc' := hKp.2 _ hc
  refine ua fun K2 hK2 => ua fun K3 hK3 => wpIn_region_lit ?_
  refine vj (v := .int .i64 ((k : Int) - 1)) hF hA rfl rfl rfl (by intro c h; cases h) (qz rfl) fun a hA h2 => ?_
  refine vj (v := .bool (decide ((0 : Int) ≤ (k : Int) - 1))) hF hA rfl rfl rfl (by intro c h; cases h) (qh rfl rfl kv) fun a hA h3 => ?_
  refine wpListIn_nil (hK3 _ _ ?_)
  refine wpIn_cond_split (t := decide ((0 : Int) ≤ (k : Int) - 1)) (hA.ev rfl) (fun hq => ?_) (fun hq => ?_)
  · have hq' := of_decide_eq_true hq
    refine wpIn_skip (hK2 _ _ (ua fun K4 hK4 => wpIn_block (ua fun K5 hK5 => wpIn_region_lit ?_)))
    obtain ⟨t1, b1, o1, it1, mt1, rt1, lt1, Ht1⟩ := qvj hR hD (i := k - 1) (by omega)
    refine vj (v := .func (.yield l) #[] #[]) hF hA rfl rfl rfl (by intro c h; cases h) (qz rfl) fun a hA h4 => ?_
    refine vj (v := .int .i64 ((k : Int) - 1)) hF hA rfl rfl rfl (by intro c h; cases h) (qz rfl) fun a hA h5 => ?_
    refine vj (v := .slice so ts.length ca) hF hA rfl rfl rfl (by intro c h; cases h) (jc rfl (xg qbi hc')) fun a hA h6 => ?_
    refine vj (v := .int .i64 ((k : Int) - 1)) hF hA rfl rfl rfl (by intro c h; cases h) (qz rfl) fun a hA h7 => ?_
    refine vj (v := .pointer (some ⟨b1, o1 + (k - 1) * 11, none⟩)) hF hA rfl rfl rfl (by intro c h; cases h) (zp (k := k - 1) Tryd.underlying22 (by kernel_rfl) rfl rfl (by omega) lt1 (by omega)) fun a hA h8 => ?_
    have hbW : Below wA.heap.size wA W' := (hb.trans (hW.mono hb.size)).trans hKp.1
    refine vj (v := .agg (t1.d.cells t1.ts.length).toArray) hF hA rfl rfl rfl (by intro c h; cases h) (jc rfl (xf vw _ rfl (fun j v hj => (hbW.cell Ht1.1).trans (Ht1.2 j v hj)))) fun a hA h9 => ?_
    have hlen : pre.length < ts.length := by
      have := congrArg List.length hpre
      simp only [List.length_map, List.length_reverse, List.length_drop] at this
      omega
    refine qwb (k := l) (vs := [.int .i64 ((k : Int) - 1), .agg (t1.d.cells t1.ts.length).toArray]) (R := fun b W2 => (b = true ∧ J (pre ++ [⟨((k : Int) - 1, t1), rt1⟩]) W2 ∧ KpB wA.heap.size Bs W' W2) ∨ (b = false ∧ Jx (pre ++ [⟨((k : Int) - 1, t1), rt1⟩]) W2)) hF rfl hA rfl rfl rfl (by intro c h; cases h) (qjc rfl rfl) ?_ ?_
    · have := hY pre ⟨((k : Int) - 1, t1), rt1⟩ W' hJp hlen
      obtain ⟨fn, tmps, assign, body, e1, e2⟩ := this
      refine ⟨fn, tmps, assign, body, e1, e2.mono ?_⟩
      rintro e W2 (⟨rfl, h1, h2⟩ | ⟨rfl, h1⟩)
      · exact ⟨true, rfl, .inl ⟨rfl, h1, h2⟩⟩
      · exact ⟨false, rfl, .inr ⟨rfl, h1⟩⟩
    · rintro b W2 hR2 a hA h10
      refine vj (v := .bool (!b)) hF hA rfl rfl rfl (by intro c h; cases h) (zm rfl zv) fun a hA h11 => ?_
      refine wpListIn_nil (hK5 _ _ ?_)
      have hdd : a.defers = [] := by rw [h11, h10, h9, h8, h7, h6, h5, h4, h3, h2, hd]
      rcases hR2 with ⟨rfl, hJ2, hK2'⟩ | ⟨rfl, hJx2⟩
      · refine wpIn_cond_false (hA.ev rfl) (wpIn_skip (hK4 _ _ (wpIn_region_lit ?_)))
        refine vj (v := .int .i64 ((k : Int) - 1)) hF hA rfl rfl rfl (by intro c h; cases h) (qz rfl) fun a hA g1 => ?_
        refine vj (v := .int .i64 (((k - 1 : Nat) : Int) - 1)) hF hA rfl rfl rfl (by intro c h; cases h) (qh rfl rfl (ar_sub ((in_i64 (by omega) (by omega)).trans (by omega)))) fun a hA g2 => ?_
        refine vj (v := .int .i64 (((k - 1 : Nat) : Int) - 1)) hF hA rfl rfl rfl (by intro c h; cases h) (jb rfl) fun a hA g3 => ?_
        refine wpListIn_nil ?_
        refine ⟨k - 1, by omega, by omega, hA.keep _ ⟨rfl, rfl, rfl, trivial⟩, by rw [g3, g2, g1, hdd], hKp.trans hK2', _, hJ2, ?_⟩
        rw [List.map_append, hpre, List.drop_eq_getElem_cons (show k - 1 < ts.length by omega), List.reverse_cons, show k - 1 + 1 = k by omega]
        congr 1
        have := (List.getElem?_eq_some_iff.1 it1).2
        rw [this]
        rfl
      · refine wpIn_cond_true (hA.ev rfl) (wpIn_ret ?_)
        refine hret _ _ ?_
        exact kb (rs := []) (vs := []) (v := .tuple #[]) (hA.sl hdd) rfl .nil rfl ⟨⟨_, rfl⟩, .inr ⟨_, trivial, hJx2⟩⟩
  · have hq' := of_decide_eq_false hq
    refine wpIn_exit ?_
    obtain rfl : k = 0 := by omega
    refine hnorm _ _ ?_
    exact kb (rs := []) (vs := []) (v := .tuple #[]) (hA.sl (by rw [h3, h2, hd])) rfl .nil rfl ⟨⟨_, rfl⟩, .inl ⟨pre, hpre, hJp⟩⟩
theorem qtf {w : World} {so : Option Addr} {k ca : Nat} : Calls Tryd.prog 25 #[.slice so k ca] w fun e w' => e = .returned (.func (.func 35) #[] #[.pointer (some ⟨w.heap.size, 0, none⟩)]) ∧ w' = w.alloc (.cells #[.slice so k ca] 22) := by
  refine qx (l := [(0, .slice so k ca)]) Tryd.func25 rfl Tryd.ntmps25 rfl rfl ?_
  intro Q hret hnorm hP a hA
  refine wp_seq_k (fun K1 hK1 => ?_)
  refine wp_region_lit ?_
  refine zr (v := .pointer (some ⟨w.heap.size, 0, none⟩)) (w' := w.alloc (.cells #[.slice so k ca] 22)) hA rfl rfl rfl (zj (vs := [.slice so k ca]) rfl rfl) fun a hA => ?_
  refine zr hA rfl rfl rfl (jb rfl) fun a hA => ?_
  refine qa (hK1 _ _ (wp_seq_k (fun K2 hK2 => wp_region_lit ?_)))
  refine zr hA rfl rfl rfl (qdb rfl) fun a hA => ?_
  refine zr hA rfl rfl rfl (jb rfl) fun a hA => ?_
  refine qa (hK2 _ _ (wp_ret (hret _ _ ?_)))
  exact kb (rs := [.tmp 2]) hA rfl (.cons (qf rfl) .nil) rfl ⟨rfl, rfl⟩
def ZC : List Value := [.int .i64 0, .int .i64 0, .bool false, .slice none 0 0, .slice none 0 0, .bool false, .slice none 0 0, .slice none 0 0, .string ⟨#[]⟩, .slice none 0 0, .slice none 0 0]
theorem qjd {g1 g2 : Nat} {v1 v2 : Array Value} {t : TypeId} : ∀ c ∈ [Ck.obj g1 (.cells v1 t), Ck.obj g2 (.cells v2 t)], ∃ g vs t, c = Ck.obj g (.cells vs t) := by
  intro c hc
  simp only [List.mem_cons, List.not_mem_nil, or_false] at hc
  rcases hc with rfl | rfl
  · exact ⟨_, _, _, rfl⟩
  · exact ⟨_, _, _, rfl⟩
/-- The last datum so far lies in the box. -/
def LinkI (w : World) (g3 g4 : Nat) (u : Tr) (pre : List (Al w)) (W : World) : Prop := ∃ z : Dt, Mg w W [.obj g4 (.cells ZC.toArray 31), .obj g3 (.cells (z.d.cells z.ts.length).toArray 31)] ∧ z.rd W ∧ z.at_ (fun b => b ≠ g3 ∧ b ≠ g4) ∧ z.tr = qr ((pre.map (fun x => x.1.2.tr)).reverse) u
theorem qqg (w : World) (g3 g4 : Nat) (u : Tr) (B : Nat) (hB : w.heap.size ≤ B) : OwnFrom B (LinkI w g3 g4 u) := by
  rintro pre W W' row ⟨z, hM, hr, ha, ht⟩ hg hrow
  exact ⟨z, hM.calm hg (fun r e => ⟨Nat.le_trans hB (hrow r e).1, (hrow r e).2⟩) qjd, Dt.kept (uk hg (fun r e => (hrow r e).2)) _ hr (Dt.at_true _), ha, ht⟩
set_option maxRecDepth 100000 in
set_option maxHeartbeats 1000000 in
theorem qbj {w : World} {so : Option Addr} {ca : Nat} {ts : List Dt} {u : Dt} (hR : Rt w so ts) (hD : ∀ t ∈ ts, t.rd w) (hu : u.rd w) (hl : ts.length ≤ 1000000000) : Calls Tryd.prog 18 #[.slice so ts.length ca, .agg (u.d.cells u.ts.length).toArray] w fun e w' => ∃ t2 : Dt, e = .returned (.agg (t2.d.cells t2.ts.length).toArray) ∧ (t2.rd w' ∧ t2.tr = qr (ts.map Dt.tr) u.tr) ∧ Below w.heap.size w w' := by
  refine (callsIn_wide (n := 5)).1 ?_
  have hF : ∀ f, Fence.wide.fn f := fun _ => trivial
  refine qwc (l := [(0, .slice so ts.length ca), (1, .agg (u.d.cells u.ts.length).toArray)]) Tryd.func18 rfl trivial rfl rfl rfl rfl ?_
  intro Q hret a hA hdf
  have hM : Mg w w [] := Mg.start w
  refine ua fun K1 hK1 => wpIn_region_lit ?_
  refine qte (vs := u.d.cells u.ts.length) (t := 31) hF hA hM rfl rfl rfl (by intro c h; cases h) (fun g => .pointer (some ⟨g, 0, none⟩)) (zj rfl rfl) (by decide) ?_
  intro g3 W1 hM hg3 hg3' hB1 _ a hA h2
  refine qte (vs := ZC) (t := 31) hF hA hM rfl rfl rfl (by intro c h; cases h) (fun g => .pointer (some ⟨g, 0, none⟩)) (ql (z := .agg ZC.toArray) (by kernel_rfl) rfl) (by decide) ?_
  intro g4 W2 hM hg4 hg4' hB2 _ a hA h3
  refine wpListIn_nil (hK1 _ _ (ua fun K2 hK2 => ua fun K3 hK3 => wpIn_region_lit ?_))
  refine vj (v := .slice so ts.length ca) hF hA rfl rfl rfl (by intro c h; cases h) (qz rfl) fun a hA h4 => ?_
  refine qxg (R := fun W3 => W3 = W2.alloc (.cells #[.slice so ts.length ca] 22)) hF rfl hA rfl rfl rfl (by intro c h; cases h) (ze rfl rfl (fun w => by kernel_rfl)) (callsIn_wide.2 qtf) ?_
  rintro W3 hW3 a hA h5
  refine wpListIn_nil (hK3 _ _ (wpIn_block ?_))
  have hB3 : Below W2.heap.size W2 W3 := hW3 ▸ (Below.refl _ W2).alloc (Nat.le_refl _) _
  have hs3 : W3.heap.size = W2.heap.size + 1 := by rw [hW3]; simp
  have hc3 : W3.cell? ⟨W2.heap.size, 0, none⟩ = some (.slice so ts.length ca) := by
    rw [hW3, cell_of_row _ _ _ _ _ _ (heap_alloc_new W2 _)]; rfl
  replace hM := hM.call hB3
  have hw2 : w.heap.size ≤ W2.heap.size := by omega
  have hur : u.rd W3 := Dt.keep hM.bel _ hu
  have hua : u.at_ (fun b => b ≠ g3 ∧ b ≠ g4) := Dt.at_mono (fun b hb => by constructor <;> omega) _ (Dt.at_lt _ hu)
  refine wpIn_rangeFunc_ownH (F := Fence.wide) rfl (by decide) (gf := 35) (lb := #[.pointer (some ⟨W2.heap.size, 0, none⟩)]) (hA.ev rfl) trivial (fun us w => by kernel_rfl)
    (qmd hR hD hM.bel hc3 (by omega) hl _) KpB.trans ?hkb (Below.refl _ _) (fun _ => rfl)
    (LinkI w g3 g4 u.tr) (fun _ _ _ => False) (qqg w g3 g4 u.tr _ (by omega)) (fun _ _ _ _ _ hs _ _ => hs)
    ⟨u, hM, hur, hua, rfl⟩
    (fun x a' W => ∃ Bx, Sd a' 16 [(3, .pointer (some ⟨g3, 0, none⟩)), (4, .pointer (some ⟨g4, 0, none⟩)), (6, .pointer (some ⟨Bx, 0, none⟩))] ∧ Here W Bx 0 (x.1.2.d.cells x.1.2.ts.length))
    (fun x a' _ X Y row hs hg hr => by obtain ⟨Bx, h1, h2⟩ := hs; exact ⟨Bx, h1, h2.kept (uk hg (fun r e => (hr r e).2))⟩)
    ?assign ?body ?done ?stop
  case hkb =>
    intro W l o o' hl1 hl2 hl3 _
    refine ⟨⟨rfl, rfl, rfl, (grownBy_putObj' W l o').size, fun k hk => ?_⟩, fun v hv => ?_⟩
    · by_cases hk2 : k < W.heap.size
      · exact (grownBy_putObj' W l o').block k hk2 (fun e => by cases e; omega)
      · have := (Array.getElem?_eq_some_iff.1 hl2).1; omega
    · exact (grownBy_putObj' W l o').cell hv (fun e => by have e' : W2.heap.size = l := Option.some.inj e; omega)
  case assign =>
    rintro l pre x W K ⟨z, hMz, hrz, haz, htz⟩ hK
    have hA1 : Sd { tmps := (a.tmps.setIfInBounds 9 (.int .i64 x.1.1)).setIfInBounds 10 (.agg (x.1.2.d.cells x.1.2.ts.length).toArray), defers := [] } 16 _ := Sl.put (Sl.put hA (d := 9) rfl (.int .i64 x.1.1)) (d := 10) rfl (.agg (x.1.2.d.cells x.1.2.ts.length).toArray)
    have hF2 : ∀ f, (Fence.wide.inRound l).fn f := fun _ => trivial
    have hxr : x.1.2.rd W := Dt.keep hMz.bel _ x.2
    simp only [qyc, List.zip_toArray, List.zip_cons_cons, List.zip_nil_left, List.zip_nil_right, List.foldl_toArray', List.foldl_toArray, List.foldl_cons, List.foldl_nil]
    refine wpIn_region_lit ?_
    refine qte (a := { tmps := (a.tmps.setIfInBounds 9 (.int .i64 x.1.1)).setIfInBounds 10 (.agg (x.1.2.d.cells x.1.2.ts.length).toArray), defers := [] }) (vs := ZC) (t := 31) hF2 hA1 hMz rfl rfl rfl (by intro c h; cases h) (fun g => .pointer (some ⟨g, 0, none⟩)) (ql (z := .agg ZC.toArray) (by kernel_rfl) rfl) (by decide) ?_
    intro Bx W6 hM6 hBx hBx' hB6 hK6 a6 hA6 _
    refine qtd (w' := W6.setCells Bx 0 (x.1.2.d.cells x.1.2.ts.length)) hF2 hA6 rfl rfl (by intro c h; cases h) (qi rfl rfl rfl (by kernel_rfl) hM6 0 rfl rfl (xl x.1.2)) ?_
    have hM7 : Mg w (W6.setCells Bx 0 (x.1.2.d.cells x.1.2.ts.length)) (.obj Bx (.cells (x.1.2.d.cells x.1.2.ts.length).toArray 31) :: [.obj g4 (.cells ZC.toArray 31), .obj g3 (.cells (z.d.cells z.ts.length).toArray 31)]) := Mg.puts (x.1.2.d.cells x.1.2.ts.length) W6 _ ZC 0 hM6 0 rfl
    have hkp : Kept (· ≠ Bx) W6 (W6.setCells Bx 0 (x.1.2.d.cells x.1.2.ts.length)) := vv _ _ _ _
    have hks := hK6.trans (kh Bx (x.1.2.d.cells x.1.2.ts.length) W6 0)
    have hsW := hMz.bel.size
    have hbs := (hB6.mono hsW).trans (yh (B := w.heap.size) Bx (by omega) (x.1.2.d.cells x.1.2.ts.length) W6 0)
    revert hkp hM7 hks hbs
    generalize W6.setCells Bx 0 (x.1.2.d.cells x.1.2.ts.length) = W7
    intro hM7 hkp hks hbs
    refine wpListIn_nil (hK _ _ (hks.from _) ⟨hbs, fun v hv => hkp.2 _ _ _ (show W2.heap.size ≠ Bx by have := cell_lt hv; omega) ((hB6.cell (p := ⟨W2.heap.size, 0, none⟩) (cell_lt hv)).trans hv)⟩ ⟨z, hM7.sub (cn (.refl _)), Dt.kept hkp _ (Dt.keep hB6 _ hrz) (Dt.at_mono (fun b hb => by intro e; omega) _ (Dt.at_lt _ hrz)), haz, htz⟩ ⟨Bx, hA6.keep _ ⟨rfl, rfl, rfl, trivial⟩, (Array.getElem?_eq_some_iff.1 (hM7.obj 0 rfl)).1, fun j v hj => by rw [Nat.zero_add]; exact hM7.cell 0 rfl j hj⟩)
  case body =>
    rintro l pre x a' W hl1 _ ⟨z, hMz, hrz, haz, htz⟩ ⟨Bx, hA, hH⟩ _
    have hF2 : ∀ f, (Fence.wide.inRound l).fn f := fun _ => trivial
    have hxr : x.1.2.rd W := Dt.keep hMz.bel _ x.2
    refine wpIn_block (wpIn_region_lit ?_)
    refine vj (v := .agg (x.1.2.d.cells x.1.2.ts.length).toArray) hF2 hA rfl rfl rfl (by intro c h; cases h) (jc rfl (xf vw _ rfl (fun j v hj => by have := hH.2 j v hj; rwa [Nat.zero_add] at this ⊢))) fun a hA h6 => ?_
    refine vj (v := .agg (z.d.cells z.ts.length).toArray) hF2 hA rfl rfl rfl (by intro c h; cases h) (za hMz vw rfl 1 rfl (cs := z.d.cells z.ts.length) rfl rfl) fun a hA h7 => ?_
    refine vj (v := .slice (some ⟨W.heap.size, 0, none⟩) 2 2) (w' := W.alloc (.cells (cellsOf [x.1.2, z]).toArray 31)) hF2 hA rfl rfl rfl (by intro c h; cases h) (zh rfl (by kernel_rfl)) fun a hA h8 => ?_
    obtain ⟨z2, hz2⟩ : ∃ z2 : Dt, z2 = yy W.heap.size x.1.2 z := ⟨_, rfl⟩
    refine vj (v := .agg (z2.d.cells z2.ts.length).toArray) hF2 hA rfl rfl rfl (by intro c h; cases h) (by rw [hz2, qja]; exact zb rfl (fun w => by kernel_rfl)) fun a hA h9 => ?_
    have hB4 : Below W.heap.size W (W.alloc (.cells (cellsOf [x.1.2, z]).toArray 31)) := (Below.refl _ W).alloc (Nat.le_refl _) _
    have hM4 := hMz.call hB4
    have hnew := heap_alloc_new W (.cells (cellsOf [x.1.2, z]).toArray 31)
    have hK4 : KeepsOthers W (W.alloc (.cells (cellsOf [x.1.2, z]).toArray 31)) := KeepsOthers.alloc _ _
    have hs4 : (W.alloc (.cells (cellsOf [x.1.2, z]).toArray 31)).heap.size = W.heap.size + 1 := by simp
    have hg3W : g3 < W.heap.size := (Ck.lt (hMz.has 1 rfl) g3 rfl).2
    have hg4W : g4 < W.heap.size := (Ck.lt (hMz.has 0 rfl) g4 rfl).2
    have hsW := hMz.bel.size
    revert hB4 hM4 hnew hK4 hs4
    generalize W.alloc (.cells (cellsOf [x.1.2, z]).toArray 31) = W4
    intro hB4 hM4 hnew hK4 hs4
    refine qtd (w' := W4.setCells g3 0 (z2.d.cells z2.ts.length)) hF2 hA rfl rfl (by intro c h; cases h) (qi rfl rfl rfl (by kernel_rfl) hM4 1 rfl rfl (xl z2)) ?_
    refine wpListIn_nil ?_
    have hkp : Kept (· ≠ g3) W4 (W4.setCells g3 0 (z2.d.cells z2.ts.length)) := vv _ _ _ _
    have hM5 : Mg w (W4.setCells g3 0 (z2.d.cells z2.ts.length)) [.obj g4 (.cells ZC.toArray 31), .obj g3 (.cells (z2.d.cells z2.ts.length).toArray 31)] := Mg.puts (z2.d.cells z2.ts.length) W4 _ (z.d.cells z.ts.length) 0 hM4 1 rfl
    have hx5 : x.1.2.rd (W4.setCells g3 0 (z2.d.cells z2.ts.length)) := Dt.keep hM5.bel _ x.2
    have hz5 : z.rd (W4.setCells g3 0 (z2.d.cells z2.ts.length)) := Dt.kept hkp _ (Dt.keep hB4 _ hrz) (Dt.at_mono (fun b hb => hb.1) _ haz)
    have hxa : x.1.2.at_ (fun b => b ≠ g3 ∧ b ≠ g4) := Dt.at_mono (fun b hb => by constructor <;> omega) _ (Dt.at_lt _ x.2)
    have hks := hK4.trans (kh g3 (z2.d.cells z2.ts.length) W4 0)
    have hbs := (hB4.mono hsW).trans (yh (B := w.heap.size) g3 (by omega) (z2.d.cells z2.ts.length) W4 0)
    revert hkp hM5 hx5 hz5 hks hbs
    generalize W4.setCells g3 0 (z2.d.cells z2.ts.length) = W5
    intro hkp hM5 hx5 hz5 hks hbs
    refine ⟨hks.from _, ⟨hbs, fun v hv => hkp.2 _ _ _ (show W2.heap.size ≠ g3 by omega) ((hB4.cell (p := ⟨W2.heap.size, 0, none⟩) (cell_lt hv)).trans hv)⟩, z2, hM5, ?_, ?_, ?_⟩
    · rw [hz2]
      refine qtb (by have := hkp.1; omega) (fun p v hp => hkp.2 _ _ _ (show W.heap.size ≠ g3 by omega) ?_) hx5 hz5
      rw [cell_of_row _ _ _ _ _ _ hnew]
      simpa using hp
    · rw [hz2]
      exact qtc ⟨by omega, by omega⟩ hxa haz
    · rw [hz2, qta, List.map_append, List.reverse_append]
      show Tr.mk 8 0 Q6.zero ⟨#[]⟩ [] [x.1.2.tr, z.tr] = qr (x.1.2.tr :: _) u.tr
      rw [htz]
      rfl
  case done =>
    rintro D xs W hD1 hS ⟨z, hMz, hrz, haz, htz⟩ hDf
    have hA2 : Sd { a with defers := { target := .collected D, args := #[] } :: a.defers } 16 _ := hA
    revert hA2
    generalize hae : ({ a with defers := { target := .collected D, args := #[] } :: a.defers } : Act) = a2
    intro hA2
    have had : a2.defers = [{ target := .collected D, args := #[] }] := by rw [← hae]; show _ :: a.defers = _; rw [h5, h4, h3, h2, hdf]
    refine hK2 _ _ (ua fun K6 hK6 => wpIn_region_lit ?_)
    refine vj (v := .agg (z.d.cells z.ts.length).toArray) hF hA2 rfl rfl rfl (by intro c h; cases h) (za hMz vw rfl 1 rfl (cs := z.d.cells z.ts.length) rfl rfl) fun a3 hA3 h6 => ?_
    refine qtd (w' := W.setCells g4 0 (z.d.cells z.ts.length)) hF hA3 rfl rfl (by intro c h; cases h) (qi rfl rfl rfl (by kernel_rfl) hMz 0 rfl rfl (xl z)) ?_
    have hM5 : Mg w (W.setCells g4 0 (z.d.cells z.ts.length)) [.obj g4 (.cells (z.d.cells z.ts.length).toArray 31), .obj g3 (.cells (z.d.cells z.ts.length).toArray 31)] := Mg.puts (z.d.cells z.ts.length) W _ ZC 0 hMz 0 rfl
    have hz5 : z.rd (W.setCells g4 0 (z.d.cells z.ts.length)) := Dt.kept (vv _ _ _ _) _ hrz (Dt.at_mono (fun b hb => hb.2) _ haz)
    have hD5 := (kh g4 (z.d.cells z.ts.length) W 0).same D _ hDf rfl
    have hgr := grownBy_putObj' (W.setCells g4 0 (z.d.cells z.ts.length)) D (.deferred none)
    have hM6 := hM5.calm hgr (fun r e => by cases e; exact ⟨by omega, _, hD5, rfl⟩) qjd
    have hz6 := Dt.kept (uk hgr (fun r e => by cases e; exact ⟨_, hD5, rfl⟩)) _ hz5 (Dt.at_true _)
    refine wpListIn_nil (hK6 _ _ (wpIn_ret (hret _ _ ?_)))
    show LeavesInM _ _ _ _ _ _ a3.defers .returning _
    rw [h6, had]
    refine ⟨by simp, .inl ⟨D, _, rfl, run_takeDeferred hD5, ?_⟩⟩
    have hfin : (fun (e : Ending) (w' : World) => ∃ t2 : Dt, e = .returned (.agg (t2.d.cells t2.ts.length).toArray) ∧ (t2.rd w' ∧ t2.tr = qr (ts.map Dt.tr) u.tr) ∧ Below w.heap.size w w') (.returned (.agg (z.d.cells z.ts.length).toArray)) ((W.setCells g4 0 (z.d.cells z.ts.length)).putObj D (.deferred none)) := by
      refine ⟨z, rfl, ⟨hz6, ?_⟩, hM6.bel⟩
      rw [htz]
      have e1 : xs.map (fun x => x.1.2.tr) = (xs.map (fun x => x.1.2)).map Dt.tr := by rw [List.map_map]; rfl
      rw [e1, show xs.map (fun x => x.1.2) = ts.reverse from hS, List.map_reverse, List.reverse_reverse]
    exact (kb (P := Tryd.prog) (fn := Tryd.f18) (Z := (fun (e : Ending) (w' : World) => ∃ t2 : Dt, e = .returned (.agg (t2.d.cells t2.ts.length).toArray) ∧ (t2.rd w' ∧ t2.tr = qr (ts.map Dt.tr) u.tr) ∧ Below w.heap.size w w')) (v := .agg (z.d.cells z.ts.length).toArray) (rs := [.cell 4 31]) (vs := [.agg (z.d.cells z.ts.length).toArray]) hA3 rfl (.cons (zg hM6 vw rfl 0 rfl (cs := z.d.cells z.ts.length) rfl rfl) .nil) rfl hfin).2
  case stop =>
    rintro D c pre W _ _ h _
    exact h.elim
mutual
/-- How many nodes. -/
def vr : Tr → Nat
  | .mk _ _ _ _ _ ts => 1 + zx ts
def zx : List Tr → Nat
  | [] => 0
  | t :: ts => vr t + zx ts
end
mutual
/-- Not too deep. -/
def kk (dp : Int) : Tr → Bool
  | .mk k _ _ _ _ ts => decide (dp ≤ 200) && ut dp (decide (k = 8)) 0 ts
def ut (dp : Int) (pr : Bool) (i : Nat) : List Tr → Bool
  | [] => true
  | t :: ts => kk (if pr = true ∧ i = 1 then dp else dp + 1) t && ut dp pr (i + 1) ts
end
def FitC (t : Tr) : Prop := ∀ dp left : Int, ((zu dp left t).1 = true ↔ kk dp t = true ∧ (vr t : Int) ≤ left) ∧ ((zu dp left t).1 = true → (zu dp left t).2 = left - vr t)
theorem qdi {dp : Int} {pr : Bool} : ∀ {ts : List Tr}, (∀ t ∈ ts, FitC t) → ∀ (i : Nat) (m : Int), 0 ≤ m → ((vq dp pr i m ts).1 = true ↔ ut dp pr i ts = true ∧ (zx ts : Int) ≤ m) ∧ ((vq dp pr i m ts).1 = true → (vq dp pr i m ts).2 = m - zx ts)
  | [], _, i, m, hm => by simp [vq, ut, zx, hm]
  | t :: ts, h, i, m, hm => by
    have h1 := h t List.mem_cons_self (if pr = true ∧ i = 1 then dp else dp + 1) m
    have hp := qaa t (if pr = true ∧ i = 1 then dp else dp + 1) m
    rw [vq, ut, zx]
    generalize (if pr = true ∧ i = 1 then dp else dp + 1) = D at h1 hp ⊢
    by_cases hc : (zu D m t).1 = true
    · rw [if_pos hc]
      have h2 := qdi (dp := dp) (pr := pr) (fun x hx => h x (List.mem_cons_of_mem _ hx)) (i + 1) _ (hp hc)
      have h3 := h1.1.1 hc
      have h4 := h1.2 hc
      rw [h4] at h2 ⊢
      rw [Bool.and_eq_true, h3.1]
      refine ⟨⟨fun k => ?_, fun k => ?_⟩, fun k => ?_⟩
      · have := h2.1.1 k; exact ⟨⟨rfl, this.1⟩, by have := this.2; push_cast; omega⟩
      · exact h2.1.2 ⟨k.1.2, by have := k.2; push_cast at this; omega⟩
      · rw [h2.2 k]; push_cast; omega
    · rw [if_neg hc]
      refine ⟨⟨(fun k => by cases k), fun k => absurd (h1.1.2 ⟨?_, ?_⟩) hc⟩, (fun k => by cases k)⟩
      · have := k.1; rw [Bool.and_eq_true] at this; exact this.1
      · have := k.2; push_cast at this; omega
theorem qtg : ∀ t : Tr, FitC t := by
  refine Tr.indT fun k n q s rl ts ih dp left => ?_
  rw [zu, kk, vr]
  by_cases hc : left - 1 < 0 ∨ 200 < dp
  · rw [if_pos hc]
    refine ⟨⟨(fun k => by cases k), fun k => ?_⟩, (fun k => by cases k)⟩
    have h1 := k.1
    have h2 := k.2
    rw [Bool.and_eq_true, decide_eq_true_eq] at h1
    push_cast at h2
    omega
  · rw [if_neg hc]
    have h2 := qdi (dp := dp) (pr := decide (k = 8)) ih 0 (left - 1) (by omega)
    rw [decide_eq_true (show dp ≤ 200 by omega), Bool.true_and]
    refine ⟨⟨fun k => ?_, fun k => ?_⟩, fun k => ?_⟩
    · have := h2.1.1 k; exact ⟨this.1, by have := this.2; push_cast; omega⟩
    · exact h2.1.2 ⟨k.1, by have := k.2; push_cast at this; omega⟩
    · rw [h2.2 k]; push_cast; omega
theorem qca : ∀ (xs : List Tr) (z : Tr), vr (qr xs z) = zx xs + xs.length + vr z
  | [], z => by simp [qr, zx]
  | x :: xs, z => by rw [qr, vr, zx, zx, zx, qca xs z, zx, List.length_cons]; omega
theorem qdj : ∀ (xs : List Tr) (z : Tr), kk 1 (qr xs z) = (xs.all (kk 2) && kk 1 z)
  | [], z => by simp [qr]
  | x :: xs, z => by
    rw [qr, kk, ut, ut, ut, List.all_cons]
    have : (if decide ((8 : Int) = 8) = true ∧ 0 = 1 then (1 : Int) else 1 + 1) = 2 := by decide
    rw [this]
    have : (if decide ((8 : Int) = 8) = true ∧ 0 + 1 = 1 then (1 : Int) else 1 + 1) = 1 := by decide
    rw [this, qdj xs z]
    simp [Bool.and_assoc]
theorem qje : ∀ (xs : List Tr) (z : Tr), jt qg (qr xs z) = (xs.all (jt qg) && jt qg z)
  | [], z => by simp [qr]
  | x :: xs, z => by
    rw [qr, jt, yg, yg, yg, List.all_cons, qje xs z]
    have : qg (.mk 8 0 Q6.zero ⟨#[]⟩ [] [x, qr xs z]) = true := by rfl
    rw [this]
    simp [Bool.and_assoc]
theorem qme (t : Tr) : qp qg t = true ↔ kk 1 t = true ∧ vr t ≤ 20000 ∧ jt qg t = true := by
  unfold qp
  rw [Bool.and_eq_true, (qtg t 1 20000).1]
  constructor
  · rintro ⟨⟨h1, h2⟩, h3⟩; exact ⟨h1, by omega, h3⟩
  · rintro ⟨h1, h2, h3⟩; exact ⟨⟨h1, by omega⟩, h3⟩
theorem qcb (xs : List Tr) (z : Tr) : qp qg (qr xs z) = true ↔ (xs.all (kk 2) = true ∧ kk 1 z = true) ∧ zx xs + xs.length + vr z ≤ 20000 ∧ xs.all (jt qg) = true ∧ jt qg z = true := by
  rw [qme, qdj, qca, qje, Bool.and_eq_true, Bool.and_eq_true]
theorem qge {xs : List Tr} {z : Tr} (h : 20000 < xs.length) : qp qg (qr xs z) = false := by
  apply Bool.eq_false_iff.2
  intro k
  have := ((qcb xs z).1 k).2.1
  omega
/-! ### What the calls answer -/
def fitS (xs : List Tr) (z : Tr) : Tr × Int := if qp qg (qr xs z) = true then (qr xs z, 0) else (jj, 4)
def ofS (xs : List Tr) : Tr := (fitS xs nilT).1
noncomputable def jf (L : List Tr) : Tr × Int :=
  if L.all (qp qg) = false then (jj, 2) else if L = [] then (nilT, 0) else match zt (L.take (L.length - 1)) with
    | none => (jj, 10)
    | some xs => fitS xs (L.getD (L.length - 1) nilT)
noncomputable def ye (t : Tr) (n : Int) : Tr × Int :=
  if qp qg t = false then (jj, 2) else match zk t with
    | none => (jj, 10)
    | some xs => if n < 0 ∨ (xs.length : Int) < n then (jj, 1) else (qr (xs.drop n.toNat) nilT, 0)
noncomputable def ux (t : Tr) : Tr × Int :=
  if qp qg t = false then (jj, 2) else match zk t with
    | none => (jj, 10)
    | some xs => (qr xs.reverse nilT, 0)
theorem ul {xs : List Tr} {z : Tr} (h : 20000 < xs.length) : fitS xs z = (jj, 4) := by unfold fitS; rw [if_neg (by rw [qge h]; decide)]
theorem ku {xs : List Tr} {z : Tr} (h : qp qg (qr xs z) = true) : fitS xs z = (qr xs z, 0) := by unfold fitS; rw [if_pos h]
theorem qgf {xs : List Tr} {z : Tr} (h : qp qg (qr xs z) = false) : fitS xs z = (jj, 4) := by unfold fitS; rw [if_neg (by rw [h]; decide)]
theorem all_map (ts : List Dt) : (ts.map Dt.tr).all (qp qg) = ts.all fun t => qp qg t.tr := by rw [List.all_map]; rfl
theorem qth {ts : List Dt} (h : (ts.all fun t => qp qg t.tr) = false) : jf (ts.map Dt.tr) = (jj, 2) := by unfold jf; rw [if_pos (by rw [all_map]; exact h)]
theorem qti : jf [] = (nilT, 0) := by unfold jf; rw [if_neg (by simp), if_pos rfl]
theorem qqh {ts : List Dt} (h : (ts.all fun t => qp qg t.tr) = true) (hne : ts ≠ []) (hj : zt ((ts.take (ts.length - 1)).map Dt.tr) = none) : jf (ts.map Dt.tr) = (jj, 10) := by
  unfold jf
  rw [if_neg (by rw [all_map, h]; decide), if_neg (by simpa using hne), List.length_map, ← List.map_take, hj]
theorem qqi {ts : List Dt} {t : Dt} {xs : List Tr} (h : (ts.all fun t => qp qg t.tr) = true) (ht : ts[ts.length - 1]? = some t) (hj : zt ((ts.take (ts.length - 1)).map Dt.tr) = some xs) : jf (ts.map Dt.tr) = fitS xs t.tr := by
  have hne : ts ≠ [] := fun k => by subst k; simp at ht
  unfold jf
  rw [if_neg (by rw [all_map, h]; decide), if_neg (by simpa using hne), List.length_map, ← List.map_take, hj, List.getD_eq_getElem?_getD, List.getElem?_map, ht]
  rfl
theorem Rt.take {w : World} {so : Option Addr} {ts : List Dt} (h : Rt w so ts) (n : Nat) : Rt w so (ts.take n) := fun hne => by
  obtain ⟨b, o, e, h2⟩ := h (fun k => hne (by rw [k]; simp))
  refine ⟨b, o, e, fun i t hi => h2 i t ?_⟩
  rw [List.getElem?_take] at hi
  split at hi
  · exact hi
  · cases hi
theorem Rt.drop {w : World} {so : Option Addr} {ts : List Dt} (h : Rt w so ts) (cap n : Nat) (hc : ts.length ≤ cap) : Rt w (if cap = n then so else so.map (·.add (n * 11))) (ts.drop n) := fun hne => by
  have hlt : n < ts.length := by
    apply Classical.byContradiction
    intro k
    exact hne (List.drop_of_length_le (by omega))
  obtain ⟨b, o, e, h2⟩ := h (fun k => by rw [k] at hlt; simp at hlt)
  rw [if_neg (by omega), e]
  refine ⟨b, o + n * 11, by simp [jp], fun i t hi => ?_⟩
  rw [List.getElem?_drop] at hi
  have := h2 _ _ hi
  rwa [Nat.add_mul, ← Nat.add_assoc] at this
theorem xm {t : Tr} {xs : List Tr} (h : zk t = some xs) : Tr.bulks xs + xs.length + 1 = t.bulk := by
  rw [qii h, vi]
  rfl
/-! ### The other way round -/
/-- So many from both kb are exchanged. -/
def RevI (ys zs : List Dt) (i : Nat) : Prop := zs.length = ys.length ∧ ∀ k, k < ys.length → zs[k]? = if k < i ∨ ys.length < k + 1 + i then ys[ys.length - 1 - k]? else ys[k]?
theorem qqj (ys : List Dt) : RevI ys ys 0 := ⟨rfl, fun k hk => by rw [if_neg (by omega)]⟩
theorem qtj {ys zs : List Dt} {i : Nat} (h : RevI ys zs i) (hi : ys.length ≤ i + i + 1) : zs = ys.reverse := by
  apply List.ext_getElem?
  intro k
  by_cases hk : k < ys.length
  · rw [h.2 k hk, List.getElem?_reverse hk]
    by_cases hc : k < i ∨ ys.length < k + 1 + i
    · rw [if_pos hc]
    · rw [if_neg hc, show ys.length - 1 - k = k by omega]
  · rw [List.getElem?_eq_none (by rw [h.1]; omega), List.getElem?_eq_none (by rw [List.length_reverse]; omega)]
theorem qea {ys zs : List Dt} {i : Nat} {a b : Dt} (h : RevI ys zs i) (hi : i + i + 1 < ys.length) (ha : zs[i]? = some a) (hb : zs[ys.length - 1 - i]? = some b) : RevI ys ((zs.set i b).set (ys.length - 1 - i) a) (i + 1) := by
  refine ⟨by rw [List.length_set, List.length_set, h.1], fun k hk => ?_⟩
  have h1 := h.1
  rw [List.getElem?_set, List.getElem?_set, List.length_set]
  have ha2 := h.2 i (by omega)
  have hb2 := h.2 (ys.length - 1 - i) (by omega)
  rw [if_neg (by omega), ha] at ha2
  rw [if_neg (by omega), hb] at hb2
  by_cases e1 : ys.length - 1 - i = k
  · subst e1
    rw [if_pos rfl, if_pos (by omega), if_pos (by omega), ha2, show ys.length - 1 - (ys.length - 1 - i) = i by omega]
  · rw [if_neg e1]
    by_cases e2 : i = k
    · subst e2
      rw [if_pos rfl, if_pos (by omega), if_pos (by omega), hb2]
    · rw [if_neg e2, h.2 k hk]
      by_cases hc : k < i ∨ ys.length < k + 1 + i
      · rw [if_pos hc, if_pos (by omega)]
      · rw [if_neg hc, if_neg (by omega)]
theorem LiE_isS_31 : IsS Tryd.prog 31 11 := ⟨⟨_, Tryd.underlying31⟩, by kernel_rfl⟩
theorem vk {w : World} {so : Option Addr} {ca : Nat} {ts : List Dt} (hR : Rt w so ts) (hD : ∀ t ∈ ts, t.rd w) (hl : ts.length ≤ 1000000000) (hT : Tabs8 w) {b : Bool} (h : (ts.all fun t => qp qg t.tr) = b) : Calls Tryd.prog 12 #[.slice so ts.length ca] w fun e w' => e = .returned (.bool b) ∧ Below w.heap.size w w' := h ▸ qgb hR hD hl hT
theorem ub {w : World} {so : Option Addr} {ca : Nat} {t : Dt} (hR : Rt w so [t]) (ht : t.rd w) (hT : Tabs8 w) {b : Bool} (h : qp qg t.tr = b) : Calls Tryd.prog 12 #[.slice so 1 ca] w fun e w' => e = .returned (.bool b) ∧ Below w.heap.size w w' :=
 vk (ts := [t]) hR (fun u hu => by rw [List.mem_singleton.1 hu]; exact ht) (by simp) hT (by rw [List.all_cons, List.all_nil, Bool.and_true]; exact h)
theorem yi {w0 w : World} {t : Dt} (h0 : Below w0.heap.size w0 w) (ht0 : t.rd w0) {so : Option Addr} {ca : Nat} {ts : List Dt} (hR : Rt w so ts) (hD : ∀ t ∈ ts, t.rd w) (hl : ts.length ≤ 1000000000) (hb : t.tr.bulk ≤ 1000000000) (hT : Tabs8 w) : Calls Tryd.prog 14 #[.agg (t.d.cells t.ts.length).toArray, .slice so ts.length ca] w fun e w' => (∃ so' ca' ys, e = .returned (.tuple #[.slice so' (ys : List Dt).length ca', .int .i64 0]) ∧ ((qp qg t.tr && (ts.all fun t => qp qg t.tr)) = true ∧ zk t.tr = some (ys.map Dt.tr) ∧ (∀ x ∈ ys, x.rd w0) ∧ ys.length ≤ t.tr.bulk) ∧ Mg w w' [.row 31 11 (.slice so' ys.length ca') ys.length (cellsOf ys)]) ∨ (e = .returned (.tuple #[.slice none 0 0, .int .i64 10]) ∧ ((qp qg t.tr && (ts.all fun t => qp qg t.tr)) = true ∧ zk t.tr = none) ∧ Below w.heap.size w w') ∨ (e = .returned (.tuple #[.slice none 0 0, .int .i64 2]) ∧ (qp qg t.tr && (ts.all fun t => qp qg t.tr)) = false ∧ Below w.heap.size w w') := by
 have ht := Dt.keep h0 _ ht0
 have M : Mg w w ([]) := Mg.start w
 refine qx (l := [(0, .agg (t.d.cells t.ts.length).toArray), (1, .slice so ts.length ca)]) Tryd.func14 rfl Tryd.ntmps14 rfl rfl ?_
 intro Q hret hnorm hP a A
 refine wsk fun K1 hK1 => wrl (zn (vs := (t.d.cells t.ts.length)) (t := 31) A M rfl rfl rfl pg (zj rfl rfl) (by decide) ?_)
 intro g2 w3 M a A
 iterate 2 refine sda A λa A↦?_
 refine qa (hK1 _ _ (wsk fun K4 hK4 => wsk fun K5 hK5 => wrl (sdo A (za M LiE_isS_31 rfl 0 rfl (cs := (t.d.cells t.ts.length)) rfl rfl) λa A↦?_)))
 refine kd (e := 31) (sz := 11) (m := 1) (vs := cellsOf [t]) A M rfl rfl rfl (zh rfl (by kernel_rfl)) rfl rfl (.inl (by decide)) ?_
 intro g6 w7 M a A
 rcases tf (qp qg t.tr) with hb8 | hb8
 ·
  refine gcl A M (ef rfl rfl) (ub (xw (M.has 0 rfl)).1 (Dt.keep M.bel _ ht) (hT.below M.bel) hb8) fun w10 hb9 M a A => ?_
  refine sdo (v := .bool false) A (zm rfl zv) λa A↦?_
  iterate 2 refine sdm A λa A↦?_
  rcases tf ((ts.all fun t => qp qg t.tr)) with hb11 | hb11
  ·
   refine gcl A M (ef rfl rfl) (vk (hR.below M.bel) (fun t ht => Dt.keep M.bel _ (hD t ht)) hl (hT.below M.bel) hb11) fun w13 hb12 M a A => ?_
   refine sdo (v := .bool false) A (zm rfl zv) λa A↦?_
   refine sdk (v := .bool false) A λa A↦?_
   refine qa (hK5 _ _ (wp_cond_false (A.ev rfl) ?_))
   refine wp_skip (hK4 _ _ (wsk fun K14 hK14 => wrl (sdo A (za M LiE_isS_31 rfl 1 rfl (cs := (t.d.cells t.ts.length)) rfl rfl) λa A↦?_)))
   rcases tf ((zk t.tr).isSome) with hb15 | hb15
   ·
    refine sct A (ef rfl rfl) (yb (h0.trans (M.bel.mono h0.size)) ht0 (kz hb8) hb hb15) ?_
    rintro _ w17 ⟨so7, ca7, ys, rfl, ⟨hy1, hy2, hy3⟩, hM7⟩
    replace M : Mg w w17 (.row 31 11 (.slice so7 ys.length ca7) ys.length (cellsOf ys) :: .row 31 11 (.slice (some ⟨g6, 0, none⟩) 1 1) 1 (cellsOf [t]) :: .obj g2 (.cells (t.d.cells t.ts.length).toArray 31) :: []) := (M.both hM7 (zi (by simp) (zi (by simp) (zf zl))) (zi (by simp) (zf zl)))
    refine ⟨_, rfl, ?_⟩
    intro a A
    iterate 2 refine sdo A (qm (vs := [.slice so7 ys.length ca7, .int .i64 0]) rfl rfl) λa A↦?_
    iterate 2 refine sda A λa A↦?_
    refine qa (hK14 _ _ (wp_ret (hret _ _ (en2 A rfl (qf rfl) (qf rfl) ?_))))
    replace M : Mg w w17 (.row 31 11 (.slice so7 ys.length ca7) ys.length (cellsOf ys) :: []) := by
     have h9 := M.sub (cc (cn (cn (.refl _))))
     exact h9
    exact .inl ⟨_, _, ys, rfl, ⟨(by rw [hb8, hb11]; rfl), hy1, hy2, hy3⟩, M⟩
   ·
    refine gcl A M (ef rfl rfl) (yd (h0.trans (M.bel.mono h0.size)) ht0 (kz hb8) hb hb15) fun w19 hb18 M a A => ?_
    iterate 2 refine sdo A (qm (vs := [.slice none 0 0, .int .i64 10]) rfl rfl) λa A↦?_
    iterate 2 refine sda A λa A↦?_
    refine qa (hK14 _ _ (wp_ret (hret _ _ (en2 A rfl (qf rfl) (qf rfl) ?_))))
    exact .inr (.inl ⟨rfl, ⟨(by rw [hb8, hb11]; rfl), Option.isSome_eq_false_iff.1 hb15 |> Option.isNone_iff_eq_none.1⟩, M.bel⟩)
  ·
   refine gcl A M (ef rfl rfl) (vk (hR.below M.bel) (fun t ht => Dt.keep M.bel _ (hD t ht)) hl (hT.below M.bel) hb11) fun w21 hb20 M a A => ?_
   refine sdo (v := .bool true) A (zm rfl zv) λa A↦?_
   refine sdk (v := .bool true) A λa A↦?_
   refine qa (hK5 _ _ (wp_cond_true (A.ev rfl) ?_))
   refine wsk fun K22 hK22 => wrl ?_
   iterate 2 refine sda A λa A↦?_
   refine qa (hK22 _ _ (wp_ret (hret _ _ (en2 A rfl (qf rfl) (qf rfl) ?_))))
   exact .inr (.inr ⟨rfl, by rw [hb8, hb11]; rfl, M.bel⟩)
 ·
  refine gcl A M (ef rfl rfl) (ub (xw (M.has 0 rfl)).1 (Dt.keep M.bel _ ht) (hT.below M.bel) hb8) fun w24 hb23 M a A => ?_
  refine sdo (v := .bool true) A (zm rfl zv) λa A↦?_
  refine sdm A λa A↦?_
  iterate 3 refine qj A rfl rfl rfl λa A↦?_
  refine sdk (v := .bool true) A λa A↦?_
  refine qa (hK5 _ _ (wp_cond_true (A.ev rfl) ?_))
  refine wsk fun K25 hK25 => wrl ?_
  iterate 2 refine sda A λa A↦?_
  refine qa (hK25 _ _ (wp_ret (hret _ _ (en2 A rfl (qf rfl) (qf rfl) ?_))))
  exact .inr (.inr ⟨rfl, by rw [hb8]; rfl, M.bel⟩)
theorem qcc {w0 w : World} {t : Dt} (h0 : Below w0.heap.size w0 w) (ht : t.rd w0) (hb : t.tr.bulk ≤ 1000000000) (hT : Tabs8 w) (hs : qp qg t.tr = true) (h : (zk t.tr).isSome = true) : Calls Tryd.prog 14 #[.agg (t.d.cells t.ts.length).toArray, .slice none 0 0] w fun e w' => ∃ so' ca' ys, e = .returned (.tuple #[.slice so' (ys : List Dt).length ca', .int .i64 0]) ∧ (zk t.tr = some (ys.map Dt.tr) ∧ (∀ x ∈ ys, x.rd w0) ∧ ys.length ≤ t.tr.bulk) ∧ Mg w w' [.row 31 11 (.slice so' ys.length ca') ys.length (cellsOf ys)] := by
 refine (yi (ts := []) h0 ht (so := none) (ca := 0) (fun k => absurd rfl k) (fun t h => by cases h) (by decide) hb hT).mono ?_
 rintro e w' (⟨so', ca', ys, h1, h2, h3⟩ | ⟨_, h2, _⟩ | ⟨_, h2, _⟩)
 ·
  exact ⟨so', ca', ys, h1, h2.2, h3⟩
 ·
  rw [h2.2] at h; cases h
 ·
  rw [hs] at h2; cases h2
theorem qcd {w0 w : World} {t : Dt} (h0 : Below w0.heap.size w0 w) (ht : t.rd w0) (hb : t.tr.bulk ≤ 1000000000) (hT : Tabs8 w) (hs : qp qg t.tr = true) (h : (zk t.tr).isSome = false) : Calls Tryd.prog 14 #[.agg (t.d.cells t.ts.length).toArray, .slice none 0 0] w fun e w' => e = .returned (.tuple #[.slice none 0 0, .int .i64 10]) ∧ Below w.heap.size w w' := by
 refine (yi (ts := []) h0 ht (so := none) (ca := 0) (fun k => absurd rfl k) (fun t h => by cases h) (by decide) hb hT).mono ?_
 rintro e w' (⟨so', ca', ys, h1, h2, h3⟩ | ⟨h1, h2, h3⟩ | ⟨_, h2, _⟩)
 ·
  rw [h2.2.1] at h; cases h
 ·
  exact ⟨h1, h3⟩
 ·
  rw [hs] at h2; cases h2
theorem qeb {w0 w : World} {t : Dt} (h0 : Below w0.heap.size w0 w) (ht : t.rd w0) (hb : t.tr.bulk ≤ 1000000000) (hT : Tabs8 w) (hs : qp qg t.tr = false) : Calls Tryd.prog 14 #[.agg (t.d.cells t.ts.length).toArray, .slice none 0 0] w fun e w' => e = .returned (.tuple #[.slice none 0 0, .int .i64 2]) ∧ Below w.heap.size w w' := by
 refine (yi (ts := []) h0 ht (so := none) (ca := 0) (fun k => absurd rfl k) (fun t h => by cases h) (by decide) hb hT).mono ?_
 rintro e w' (⟨so', ca', ys, h1, h2, h3⟩ | ⟨h1, h2, h3⟩ | ⟨h1, h2, h3⟩)
 ·
  rw [hs] at h2; cases h2.1
 ·
  rw [hs] at h2; cases h2.1
 ·
  exact ⟨h1, h3⟩
theorem LiF_isS_31 : IsS Tryd.prog 31 11 := ⟨⟨_, Tryd.underlying31⟩, by kernel_rfl⟩
theorem qec {w : World} {so : Option Addr} {ca : Nat} {ts : List Dt} (hR : Rt w so ts) (hD : ∀ t ∈ ts, t.rd w) (S : ∀ t ∈ ts, qp qg t.tr = true) (hb : Tr.bulks (ts.map Dt.tr) ≤ 1000000000) : Calls Tryd.prog 13 #[.slice so ts.length ca] w fun e w' => (∃ so' ca' ys J, e = .returned (.tuple #[.slice so' (ys : List Dt).length ca', .int .i64 0]) ∧ (zt (ts.map Dt.tr) = some J ∧ (ys.map Dt.tr = J ∨ (20000 < ys.length ∧ 20000 < J.length)) ∧ (∀ x ∈ ys, x.rd w) ∧ Tr.bulks (ys.map Dt.tr) ≤ Tr.bulks (ts.map Dt.tr)) ∧ Mg w w' [.row 31 11 (.slice so' ys.length ca') ys.length (cellsOf ys)]) ∨ (e = .returned (.tuple #[.slice none 0 0, .int .i64 10]) ∧ zt (ts.map Dt.tr) = none ∧ Below w.heap.size w w') := by
 have hbl := ji ts
 have M : Mg w w ([]) := Mg.start w
 refine qx (l := [(0, .slice so ts.length ca)]) Tryd.func13 rfl Tryd.ntmps13 rfl rfl ?_
 intro Q hret hnorm hP a A
 refine wsk fun K1 hK1 => wrl ?_
 iterate 2 refine sda A λa A↦?_
 refine qa (hK1 _ _ (wsk fun K2 hK2 => wrl (sda A λa A↦?_)))
 refine qa (hK2 _ _ (wsk fun K3 hK3 => wsk fun K4 hK4 => wrl (sdm A λa A↦?_)))
 refine sdo A (qw Tryd.underlying22 rfl) λa A↦?_
 refine sdm A λa A↦?_
 refine qa (hK4 _ _ (wp_block ?_))
 replace M := M.nilRow (zf zl) 31 11
 refine jg (fun m_ a w1 => ∃ (i : Nat) (xs : List Dt) (so_ : Option Addr) (ca_ : Nat), m_ = 1 + (ts.length - i) ∧ (i ≤ ts.length ∧ (∀ x ∈ xs, x.rd w) ∧ Tr.bulks (xs.map Dt.tr) ≤ Tr.bulks ((ts.take i).map Dt.tr) ∧ ∃ J, zt ((ts.take i).map Dt.tr) = some J ∧ (xs.map Dt.tr = J ∨ (20000 < xs.length ∧ 20000 < J.length))) ∧ Sl a 31 [(0, .slice so ts.length ca), (4, .slice so_ xs.length ca_), (9, .slice so ts.length ca), (10, .int .i64 (((ts.length : Nat) : Int))), (11, .int .i64 (((i : Nat) : Int)))] ∧ Mg w w1 (.row 31 11 (.slice so_ xs.length ca_) xs.length (cellsOf xs) :: [])) _ ⟨0, [], none, 0, rfl, ⟨Nat.zero_le _, (fun x h => by cases h), Nat.zero_le _, [], rfl, .inl rfl⟩, A.keep _ ⟨rfl, rfl, rfl, rfl, rfl, trivial⟩, M⟩ ?_
 clear M A
 rintro m_ a w5 ⟨i, xs, so_, ca_, rfl, hinv7, A, M⟩ K6 hK6
 obtain ⟨hi0, hxs, hbx, J, hJ, hor⟩ := hinv7
 have hxl := ji xs
 refine wsk fun K8 hK8 => wrl ?_
 rcases tf (decide (((i : Nat) : Int) < ((ts.length : Nat) : Int))) with hb9 | hb9
 ·
  have hb9' := of_decide_eq_true hb9
  refine sdc A zq hb9 λa A↦?_
  refine qa (hK8 _ _ (wsk fun K10 hK10 => wp_cond_true (A.ev rfl) ?_))
  refine wp_skip (hK10 _ _ (wsk fun K11 hK11 => wp_block (wsk fun K12 hK12 => ?_)))
  obtain ⟨t1, bt1, ot1, it1, mt1, rt1_, lt1, Ht1⟩ := qvj hR hD (i := i) (by omega)
  have hbt := qmc it1
  have hbp := qbh (ts := ts) (i + 1)
  refine wrl (sdo (v := .pointer (some ⟨bt1, ot1 + i * 11, none⟩)) A (zp (k := i) Tryd.underlying22 (by kernel_rfl) rfl rfl rfl lt1 (by omega)) λa A↦?_)
  refine sdo A (zd M Ht1 LiF_isS_31 rfl rfl) λa A↦?_
  refine zn (vs := (qe.d.cells qe.ts.length)) (t := 31) A M rfl rfl rfl pg (ql (z := .agg (qe.d.cells qe.ts.length).toArray) (by kernel_rfl) rfl) (by decide) ?_
  intro g13 w14 M a A
  refine qt (us := (t1.d.cells t1.ts.length)) (L' := (.obj g13 (.cells (t1.d.cells t1.ts.length).toArray 31) :: .row 31 11 (.slice so_ xs.length ca_) xs.length (cellsOf xs) :: [])) A M rfl rfl (qi rfl rfl rfl (by kernel_rfl) M 0 rfl rfl rfl) 0 rfl rfl rfl ?_
  intro w15 M
  refine qa (hK12 _ _ (wsk fun K16 hK16 => wrl (sdo A (za M LiF_isS_31 rfl 0 rfl (cs := (t1.d.cells t1.ts.length)) rfl rfl) λa A↦?_)))
  rcases tf ((zk t1.tr).isSome) with hb17 | hb17
  ·
   refine sct A (ef rfl rfl) (yb M.bel rt1_ (kz (S t1 mt1)) (by omega) hb17) ?_
   rintro _ w19 ⟨so7, ca7, ys, rfl, ⟨hy1, hy2, hy3⟩, hM7⟩
   replace M : Mg w w19 (.row 31 11 (.slice so7 ys.length ca7) ys.length (cellsOf ys) :: .obj g13 (.cells (t1.d.cells t1.ts.length).toArray 31) :: .row 31 11 (.slice so_ xs.length ca_) xs.length (cellsOf xs) :: []) := (M.both hM7 (zi (by simp) (zi (by simp) (zf zl))) (zi (by simp) (zf zl)))
   refine ⟨_, rfl, ?_⟩
   intro a A
   refine sdm A λa A↦?_
   iterate 2 refine sdo A (qm (vs := [.slice so7 ys.length ca7, .int .i64 0]) rfl rfl) λa A↦?_
   iterate 2 refine sda A λa A↦?_
   refine qa (hK16 _ _ (wsk fun K20 hK20 => wsk fun K21 hK21 => wrl (sdm A λa A↦?_)))
   refine sdo (v := .bool false) A (qh rfl rfl (fun w => by kernel_rfl)) λa A↦?_
   refine qa (hK21 _ _ (wp_cond_false (A.ev rfl) ?_))
   refine wp_skip (hK20 _ _ (wsk fun K22 hK22 => wrl (sdm A λa A↦?_)))
   refine sdo A (qw Tryd.underlying22 rfl) λa A↦?_
   rcases tf (decide (((xs.length : Nat) : Int) ≤ 20000)) with hb23 | hb23
   ·
    have hb23' := of_decide_eq_true hb23
    refine sdc A yn hb23 λa A↦?_
    refine qa (hK22 _ _ (wp_cond_true (A.ev rfl) ?_))
    refine wrl ?_
    iterate 2 refine sdm A λa A↦?_
    refine vu (e := 31) (sz := 11) (k := 2) (q := xs.length) (m := ys.length) (xs := cellsOf xs) (news := cellsOf ys) (L' := fun v24 => (.row 31 11 (.slice so7 ys.length ca7) ys.length (cellsOf ys) :: .obj g13 (.cells (t1.d.cells t1.ts.length).toArray 31) :: .row 31 11 (v24) (xs.length + ys.length) (cellsOf xs ++ cellsOf ys) :: [])) A rfl rfl rfl (qbb (z := .agg #[.int .i64 0, .int .i64 0, .bool false, .slice none 0 0, .slice none 0 0, .bool false, .slice none 0 0, .slice none 0 0, .string ⟨#[]⟩, .slice none 0 0, .slice none 0 0]) (sz := 11) (by_ := 192) Tryd.underlying22 (by kernel_rfl) rfl rfl rfl M 2 rfl rfl rfl (xk ys) (qsa (M.has 0 rfl)) (kf ys) (by omega)) (fun _ => rfl) ?_
    intro v24 w25 M a A
    replace M : Mg w w25 (.row 31 11 (.slice so7 ys.length ca7) ys.length (cellsOf ys) :: .obj g13 (.cells (t1.d.cells t1.ts.length).toArray 31) :: .row 31 11 (v24) ((xs ++ ys).length) (cellsOf (xs ++ ys)) :: []) := by
     rw [xr, List.length_append]; exact M
    obtain ⟨so26, ca27, rfl⟩ := yv (M.has 2 rfl)
    refine sda A λa A↦?_
    refine qa (hK11 _ _ (wrl (sdo (v := .int .i64 (((i + 1 : Nat) : Int))) A (qh rfl rfl (fun w => (xb (vt (by omega) (by omega)) w).trans (by rw [show (((i : Nat) : Int) + 1 : Int) = ((i + 1 : Nat) : Int) from by omega]))) λa A↦?_)))
    refine sdm A λa A↦?_
    refine qa ?_
    have hyb := xm hy1
    replace M : Mg w w25 (.row 31 11 (.slice so26 ((xs ++ ys).length) ca27) ((xs ++ ys).length) (cellsOf (xs ++ ys)) :: []) := by
     have h9 := M.sub (cn (cn (cc (.refl _))))
     exact h9
    refine hK6 _ _ _ (by omega) ⟨i + 1, xs ++ ys, so26, ca27, rfl, ⟨by omega, (fun x hx => (List.mem_append.1 hx).elim (hxs x) (hy2 x)), by rw [List.map_append, jd]; omega, _, by rw [qfi it1]; exact qbg hJ hy1, hor.elim (fun e => .inl (by rw [List.map_append, e])) (fun e => by omega)⟩, A.keep _ ⟨rfl, rfl, rfl, rfl, rfl, trivial⟩, M⟩
   ·
    have hb23' := of_decide_eq_false hb23
    refine sdc A yn hb23 λa A↦?_
    refine qa (hK22 _ _ (wp_cond_false (A.ev rfl) ?_))
    refine wp_skip (hK11 _ _ (wrl (sdo (v := .int .i64 (((i + 1 : Nat) : Int))) A (qh rfl rfl (fun w => (xb (vt (by omega) (by omega)) w).trans (by rw [show (((i : Nat) : Int) + 1 : Int) = ((i + 1 : Nat) : Int) from by omega]))) λa A↦?_)))
    refine sdm A λa A↦?_
    refine qa ?_
    have hyb := xm hy1
    replace M : Mg w w19 (.row 31 11 (.slice so_ xs.length ca_) xs.length (cellsOf xs) :: []) := by
     have h9 := M.sub (cn (cn (cc (.refl _))))
     exact h9
    refine hK6 _ _ _ (by omega) ⟨i + 1, xs, so_, ca_, rfl, ⟨by omega, hxs, by omega, _, by rw [qfi it1]; exact qbg hJ hy1, .inr ⟨by omega, by rw [List.length_append]; exact hor.elim (fun e => by rw [← e, List.length_map]; omega) (fun e => by omega)⟩⟩, A.keep _ ⟨rfl, rfl, rfl, rfl, rfl, trivial⟩, M⟩
  ·
   refine gcl A M (ef rfl rfl) (yd M.bel rt1_ (kz (S t1 mt1)) (by omega) hb17) fun w29 hb28 M a A => ?_
   refine sdm A λa A↦?_
   iterate 2 refine sdo A (qm (vs := [.slice none 0 0, .int .i64 10]) rfl rfl) λa A↦?_
   iterate 2 refine sda A λa A↦?_
   refine qa (hK16 _ _ (wsk fun K30 hK30 => wsk fun K31 hK31 => wrl (sdm A λa A↦?_)))
   refine sdo (v := .bool true) A (qh rfl rfl (fun w => by kernel_rfl)) λa A↦?_
   refine qa (hK31 _ _ (wp_cond_true (A.ev rfl) ?_))
   refine wsk fun K32 hK32 => wrl (sdm A λa A↦?_)
   iterate 2 refine sda A λa A↦?_
   refine qa (hK32 _ _ (wp_ret (hret _ _ (en2 A rfl (qf rfl) (qf rfl) ?_))))
   exact .inr ⟨rfl, qqb hJ it1 (Option.isSome_eq_false_iff.1 hb17 |> Option.isNone_iff_eq_none.1), M.bel⟩
 ·
  have hb9' := of_decide_eq_false hb9
  refine sdc A zq hb9 λa A↦?_
  refine qa (hK8 _ _ (wsk fun K33 hK33 => wp_cond_false (A.ev rfl) ?_))
  refine wp_exit (hK3 _ _ (wsk fun K34 hK34 => wrl (sdm A λa A↦?_)))
  iterate 2 refine sda A λa A↦?_
  refine qa (hK34 _ _ (wp_ret (hret _ _ (en2 A rfl (qf rfl) (qf rfl) ?_))))
  replace M : Mg w w5 (.row 31 11 (.slice so_ xs.length ca_) xs.length (cellsOf xs) :: []) := by
   have h9 := M.sub (cc (.refl _))
   exact h9
  have e9 : ts.take i = ts := List.take_of_length_le (by omega)
  rw [e9] at hJ hbx
  exact .inl ⟨_, _, xs, J, rfl, ⟨hJ, hor, hxs, hbx⟩, M⟩
theorem qce {w : World} {so : Option Addr} {ca : Nat} {ts : List Dt} (hR : Rt w so ts) (hD : ∀ t ∈ ts, t.rd w) (hb : Tr.bulks (ts.map Dt.tr) ≤ 400000000) : Calls Tryd.prog 15 #[.slice so ts.length ca] w fun e w' => ∃ t2 : Dt, e = .returned (.agg (t2.d.cells t2.ts.length).toArray) ∧ (t2.rd w' ∧ t2.at_ (w.heap.size ≤ ·) ∧ t2.tr = qr (ts.map Dt.tr) nilT) ∧ Below w.heap.size w w' := by
 have hbl := ji ts
 have hnb : jm.tr.bulk = 1 := by rw [yx]; rfl
 have M : Mg w w ([]) := Mg.start w
 refine qx (l := [(0, .slice so ts.length ca)]) Tryd.func15 rfl Tryd.ntmps15 rfl rfl ?_
 intro Q hret hnorm hP a A
 refine wsk fun K1 hK1 => wrl (zn (vs := (qe.d.cells qe.ts.length)) (t := 31) A M rfl rfl rfl pg (ql (z := .agg (qe.d.cells qe.ts.length).toArray) (by kernel_rfl) rfl) (by decide) ?_)
 intro g2 w3 M a A
 refine qa (hK1 _ _ (wsk fun K4 hK4 => wrl (sdm A λa A↦?_)))
 refine gcl A M (ef rfl rfl) (qgc) fun w6 hb5 M a A => ?_
 have hlt7 := (Ck.lt (M.has 0 rfl) g2 rfl).2
 have hzt3 := M.bel.size
 refine sct A (ef rfl rfl) (qbj (hR.below M.bel) (fun t ht => Dt.keep M.bel _ (hD t ht)) (qfh _) (by omega)) ?_
 rintro _ w9 ⟨t3, rfl, ⟨hrt3, htt3⟩, hb8⟩
 replace M := M.call hb8
 refine ⟨_, rfl, ?_⟩
 intro a A
 have hlt10 := (Ck.lt (M.has 0 rfl) g2 rfl).2
 have hzt2 := M.bel.size
 refine sct A (ef rfl rfl) (qbd t3 hrt3 (by rw [htt3, vi, List.length_map]; omega)) ?_
 rintro _ w12 ⟨t2, rfl, ⟨hrt2, hat2, htt2⟩, hb11⟩
 replace M := M.call hb11
 refine ⟨_, rfl, ?_⟩
 intro a A
 refine jw (us := (t2.d.cells t2.ts.length)) (L' := (.obj g2 (.cells (t2.d.cells t2.ts.length).toArray 31) :: [])) A M rfl rfl (qi rfl rfl rfl (by kernel_rfl) M 0 rfl rfl rfl) 0 rfl rfl rfl ?_
 intro w13 M hK14
 replace hrt2 := Dt.kept hK14 _ hrt2 (Dt.at_mono (fun b hb => by rintro rfl; omega) _ hat2)
 refine qa (hK4 _ _ (wp_ret (hret _ _ (en1 A rfl (zg M LiF_isS_31 rfl 0 rfl (cs := [.int .i64 t2.d.k, .int .i64 t2.d.n, .bool t2.d.y.q.b1, .slice t2.d.y.o1 t2.d.y.q.t1.length t2.d.y.c1, .slice t2.d.y.o2 t2.d.y.q.q1.length t2.d.y.c2, .bool t2.d.y.q.b2, .slice t2.d.y.o3 t2.d.y.q.t2.length t2.d.y.c3, .slice t2.d.y.o4 t2.d.y.q.q2.length t2.d.y.c4, .string t2.d.s, .slice t2.d.ro t2.d.rl.length t2.d.rc, .slice t2.d.lo t2.ts.length t2.d.lc]) rfl rfl) ?_))))
 exact ⟨t2, rfl, ⟨hrt2, Dt.at_mono (fun b hb => Nat.le_trans hzt2 hb) _ hat2, by rw [htt2, htt3, yx]⟩, M.bel⟩
theorem uu {w : World} {so : Option Addr} {ca : Nat} {ts : List Dt} (hR : Rt w so ts) (hD : ∀ t ∈ ts, t.rd w) {u : Dt} (hu : u.rd w) (hb : Tr.bulks (ts.map Dt.tr) + u.tr.bulk ≤ 400000000) (hT : Tabs8 w) : Calls Tryd.prog 10 #[.slice so ts.length ca, .agg (u.d.cells u.ts.length).toArray] w fun e w' => ∃ (t2 : Dt) (k : Int), e = .returned (.tuple #[.agg (t2.d.cells t2.ts.length).toArray, .int .i64 k]) ∧ (t2.rd w' ∧ t2.at_ (w.heap.size ≤ ·) ∧ (t2.tr, k) = fitS (ts.map Dt.tr) u.tr) ∧ Below w.heap.size w w' := by
 have hbl := ji ts
 have M : Mg w w ([]) := Mg.start w
 refine qx (l := [(0, .slice so ts.length ca), (1, .agg (u.d.cells u.ts.length).toArray)]) Tryd.func10 rfl Tryd.ntmps10 rfl rfl ?_
 intro Q hret hnorm hP a A
 refine wsk fun K1 hK1 => wrl (zn (vs := (u.d.cells u.ts.length)) (t := 31) A M rfl rfl rfl pg (zj rfl rfl) (by decide) ?_)
 intro g2 w3 M a A
 refine zn (vs := (qe.d.cells qe.ts.length)) (t := 31) A M rfl rfl rfl pg (ql (z := .agg (qe.d.cells qe.ts.length).toArray) (by kernel_rfl) rfl) (by decide) ?_
 intro g4 w5 M a A
 refine sda A λa A↦?_
 refine qa (hK1 _ _ (wsk fun K6 hK6 => wsk fun K7 hK7 => wrl (sdm A λa A↦?_)))
 refine sdo A (qw Tryd.underlying22 rfl) λa A↦?_
 rcases tf (decide (20000 < ((ts.length : Nat) : Int))) with hb8 | hb8
 ·
  have hb8' := of_decide_eq_true hb8
  refine sdc A vf hb8 λa A↦?_
  refine qa (hK7 _ _ (wp_cond_true (A.ev rfl) ?_))
  refine wsk fun K9 hK9 => wrl (sdo (v := .agg (qe.d.cells qe.ts.length).toArray) A (zb rfl (fun w => by kernel_rfl)) λa A↦?_)
  refine qt (us := (qe.d.cells qe.ts.length)) (L' := (.obj g4 (.cells (qe.d.cells qe.ts.length).toArray 31) :: .obj g2 (.cells (u.d.cells u.ts.length).toArray 31) :: [])) A M rfl rfl (qi rfl rfl rfl (by kernel_rfl) M 0 rfl rfl rfl) 0 rfl rfl rfl ?_
  intro w10 M
  refine sda A λa A↦?_
  refine qa (hK9 _ _ (wp_ret (hret _ _ (en2 A rfl (zg M LiF_isS_31 rfl 0 rfl (cs := [.int .i64 0, .int .i64 0, .bool false, .slice none 0 0, .slice none 0 0, .bool false, .slice none 0 0, .slice none 0 0, .string (⟨#[]⟩), .slice none 0 0, .slice none 0 0]) rfl rfl) (qf rfl) ?_))))
  exact ⟨qe, 4, rfl, ⟨jy _, jz _, by rw [ul (by rw [List.length_map]; omega), jx]⟩, M.bel⟩
 ·
  have hb8' := of_decide_eq_false hb8
  refine sdc A vf hb8 λa A↦?_
  refine qa (hK7 _ _ (wp_cond_false (A.ev rfl) ?_))
  refine wp_skip (hK6 _ _ (wsk fun K11 hK11 => wrl (sdm A λa A↦?_)))
  refine sdo A (za M LiF_isS_31 rfl 1 rfl (cs := (u.d.cells u.ts.length)) rfl rfl) λa A↦?_
  have hlt12 := (Ck.lt (M.has 0 rfl) g4 rfl).2
  have hlt13 := (Ck.lt (M.has 1 rfl) g2 rfl).2
  have hzt3 := M.bel.size
  refine sct A (ef rfl rfl) (qbj (hR.below M.bel) (fun t ht => Dt.keep M.bel _ (hD t ht)) (Dt.keep M.bel _ hu) (by omega)) ?_
  rintro _ w15 ⟨t3, rfl, ⟨hrt3, htt3⟩, hb14⟩
  replace M := M.call hb14
  refine ⟨_, rfl, ?_⟩
  intro a A
  refine qle (vs := (qe.d.cells qe.ts.length)) (t := 31) A M rfl rfl rfl pg (ql (z := .agg (qe.d.cells qe.ts.length).toArray) (by kernel_rfl) rfl) (by decide) ?_
  intro g16 w17 M hg18 hb19 a A
  have hnt3g16 := Dt.at_mono (q := (· ≠ g16)) (fun b hb => by intro e; omega) _ (Dt.at_lt _ hrt3)
  replace hrt3 := Dt.keep hb19 _ hrt3
  refine jw (us := (t3.d.cells t3.ts.length)) (L' := (.obj g16 (.cells (t3.d.cells t3.ts.length).toArray 31) :: .obj g4 (.cells (qe.d.cells qe.ts.length).toArray 31) :: .obj g2 (.cells (u.d.cells u.ts.length).toArray 31) :: [])) A M rfl rfl (qi rfl rfl rfl (by kernel_rfl) M 0 rfl rfl rfl) 0 rfl rfl rfl ?_
  intro w20 M hK21
  replace hrt3 := Dt.kept hK21 _ hrt3 hnt3g16
  refine qa (hK11 _ _ (wsk fun K22 hK22 => wsk fun K23 hK23 => wrl (sdo A (za M LiF_isS_31 rfl 0 rfl (cs := (t3.d.cells t3.ts.length)) rfl rfl) λa A↦?_)))
  rcases tf (qp qg t3.tr) with hb24 | hb24
  ·
   refine sct A (ef rfl rfl) ((hb24 ▸ sound_any (t := t3) hrt3 (hT.below M.bel))) ?_
   rintro _ w26 ⟨rfl, hb25⟩
   replace hrt3 := Dt.keep hb25 _ hrt3
   replace M := M.call hb25
   refine ⟨_, rfl, ?_⟩
   intro a A
   refine sdo (v := .bool false) A (zm rfl zv) λa A↦?_
   refine qa (hK23 _ _ (wp_cond_false (A.ev rfl) ?_))
   refine wp_skip (hK22 _ _ (wsk fun K27 hK27 => wrl (sdo A (za M LiF_isS_31 rfl 0 rfl (cs := (t3.d.cells t3.ts.length)) rfl rfl) λa A↦?_)))
   have hlt28 := (Ck.lt (M.has 0 rfl) g16 rfl).2
   have hlt29 := (Ck.lt (M.has 1 rfl) g4 rfl).2
   have hlt30 := (Ck.lt (M.has 2 rfl) g2 rfl).2
   have hzt2 := M.bel.size
   refine sct A (ef rfl rfl) (qbd t3 hrt3 (by rw [htt3, vi, List.length_map]; omega)) ?_
   rintro _ w32 ⟨t2, rfl, ⟨hrt2, hat2, htt2⟩, hb31⟩
   replace M := M.call hb31
   refine ⟨_, rfl, ?_⟩
   intro a A
   refine jw (us := (t2.d.cells t2.ts.length)) (L' := (.obj g16 (.cells (t3.d.cells t3.ts.length).toArray 31) :: .obj g4 (.cells (t2.d.cells t2.ts.length).toArray 31) :: .obj g2 (.cells (u.d.cells u.ts.length).toArray 31) :: [])) A M rfl rfl (qi rfl rfl rfl (by kernel_rfl) M 1 rfl rfl rfl) 1 rfl rfl rfl ?_
   intro w33 M hK34
   replace hrt2 := Dt.kept hK34 _ hrt2 (Dt.at_mono (fun b hb => by rintro rfl; omega) _ hat2)
   refine sda A λa A↦?_
   refine qa (hK27 _ _ (wp_ret (hret _ _ (en2 A rfl (zg M LiF_isS_31 rfl 1 rfl (cs := [.int .i64 t2.d.k, .int .i64 t2.d.n, .bool t2.d.y.q.b1, .slice t2.d.y.o1 t2.d.y.q.t1.length t2.d.y.c1, .slice t2.d.y.o2 t2.d.y.q.q1.length t2.d.y.c2, .bool t2.d.y.q.b2, .slice t2.d.y.o3 t2.d.y.q.t2.length t2.d.y.c3, .slice t2.d.y.o4 t2.d.y.q.q2.length t2.d.y.c4, .string t2.d.s, .slice t2.d.ro t2.d.rl.length t2.d.rc, .slice t2.d.lo t2.ts.length t2.d.lc]) rfl rfl) (qf rfl) ?_))))
   exact ⟨t2, 0, rfl, ⟨hrt2, Dt.at_mono (fun b hb => Nat.le_trans hzt2 hb) _ hat2, by rw [htt3] at hb24; rw [ku hb24, htt2, htt3]⟩, M.bel⟩
  ·
   refine sct A (ef rfl rfl) ((hb24 ▸ sound_any (t := t3) hrt3 (hT.below M.bel))) ?_
   rintro _ w36 ⟨rfl, hb35⟩
   replace hrt3 := Dt.keep hb35 _ hrt3
   replace M := M.call hb35
   refine ⟨_, rfl, ?_⟩
   intro a A
   refine sdo (v := .bool true) A (zm rfl zv) λa A↦?_
   refine qa (hK23 _ _ (wp_cond_true (A.ev rfl) ?_))
   refine wsk fun K37 hK37 => wrl (sdo (v := .agg (qe.d.cells qe.ts.length).toArray) A (zb rfl (fun w => by kernel_rfl)) λa A↦?_)
   refine jw (us := (qe.d.cells qe.ts.length)) (L' := (.obj g16 (.cells (t3.d.cells t3.ts.length).toArray 31) :: .obj g4 (.cells (qe.d.cells qe.ts.length).toArray 31) :: .obj g2 (.cells (u.d.cells u.ts.length).toArray 31) :: [])) A M rfl rfl (qi rfl rfl rfl (by kernel_rfl) M 1 rfl rfl rfl) 1 rfl rfl rfl ?_
   intro w38 M hK39
   refine sda A λa A↦?_
   refine qa (hK37 _ _ (wp_ret (hret _ _ (en2 A rfl (zg M LiF_isS_31 rfl 1 rfl (cs := [.int .i64 0, .int .i64 0, .bool false, .slice none 0 0, .slice none 0 0, .bool false, .slice none 0 0, .slice none 0 0, .string (⟨#[]⟩), .slice none 0 0, .slice none 0 0]) rfl rfl) (qf rfl) ?_))))
   exact ⟨qe, 4, rfl, ⟨jy _, jz _, by rw [htt3] at hb24; rw [qgf hb24, jx]⟩, M.bel⟩
end Go.Proofs.YtnemkamkjfokaaaDoor.G
