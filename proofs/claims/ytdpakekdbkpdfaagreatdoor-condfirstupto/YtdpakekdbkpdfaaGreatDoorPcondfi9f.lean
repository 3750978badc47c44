/- A number as it lies in a row of cells. Data as trees: as they lie in memory, and as they are. Steps over data: what is read of a node, and of a list of them. How much a datum holds. The order of data, told on trees: it is one, and 0 for the same trees alone. Where data lie, and rows of data. Steps over rows of any kind, and steps that tell what they keep. Rows of words and of bytes that are new. Lists of data as they are: linked, taken apart, found. Data that stand by pieces of memory which nothing changes; rows of structs of any width. Rows of texts and of truth values. Sets of texts: what the laws say of them, without memory. Record types and records: what they are, and what is asked of them. Conditions: types, parts, and what is asked of them. Walks of the size of data. The library's contracts, as theorems of this program. Walks of what makes a node sound. Walks of sound data. The library's contracts, as theorems of this program. Walks of copies of lists and numbers. Walks of copies of data. Walks of what is found in a slice of data, and of lists that are taken apart. Walks of types of conditions. Walks of parts of conditions. -/
import Derived.Test.YtdpakekdbkpdfaaGreatDoorPcondfi9c
import Derived.Test.YtdpakekdbkpdfaaGreatDoorPcondfi9d
import Derived.Test.YtdpakekdbkpdfaaGreatDoorPcondfi9e
import Derived.Lib.ValidU
import Derived.Lib.Bytealg
import Derived.Lib.SlicesS
import Derived.Lib.SlicesCompact
import Derived.Sort.EncStr
import Derived.Test.YtdpakekdbkpdfaaGreatDoorProg
import Derived.Shelf.Strings.Builder1
import Derived.Shelf.Small.Utf8
import Derived.Shelf.Small.Bits
import Derived.Shelf.Small.Strs
import Derived.Shelf.Strings.BuilderF
import Derived.Shelf.Strings.BuilderK
import Derived.Shelf.Strings.BuilderRune
import Derived.Shelf.Utf8.AppendRunePlain
import Derived.Shelf.Strconv.Itoa0
import Derived.Shelf.Strconv.Itoa1
import Derived.Shelf.LaysM
import Derived.Shelf.Strconv.Itoa2
import Derived.Shelf.Strconv.Itoa3
import Derived.Shelf.Strconv.Clone
import Derived.Shelf.Strings.Search1
import Derived.Shelf.Strings.Prefix
import Derived.Shelf.Strings.Runes
import Derived.Shelf.Slices.Turned
import Derived.Shelf.Unicode.ValidAny
namespace Go.Proofs.YtdpakekdbkpdfaaGreatDoor.G
open Go.RowKit
set_option linter.unusedVariables false
set_option linter.unusedSimpArgs false

/-- A number as it lies in a row of cells. -/
structure Nu where
  q : Q6
  o1 : Option Addr
  c1 : Nat
  o2 : Option Addr
  c2 : Nat
  o3 : Option Addr
  c3 : Nat
  o4 : Option Addr
  c4 : Nat
def Nu.nm (w : World) (y : Nu) : Prop := Nm w y.q y.o1 y.c1 y.o2 y.c2 y.o3 y.c3 y.o4 y.c4
theorem Nu.below {w w' : World} {y : Nu} (h : y.nm w) (hb : Below w.heap.size w w') : y.nm w' := ⟨h.s1.below hb, h.s2.below hb, h.s3.below hb, h.s4.below hb⟩
def Nu.val (y : Nu) : Value := numV y.q y.o1 y.c1 y.o2 y.c2 y.o3 y.c3 y.o4 y.c4
theorem jc {P : Program} {w : World} {l : List (Nat × Value)} {dst : Option Tmp} {ty : TypeId} {pos : String} {after : Array Edge} {guard : Option (Nat × Bool)} {x : Operand} {a : Addr} (hx : ev l x = some (.pointer (some a))) : Does P l ⟨dst, .nilCheck x, ty, pos, after, guard⟩ w (.pointer (some a)) w := fun ρ h => by
  simp only [execOp, h x _ hx, Sem.run_pure]
/-- A node, but for what is below it. -/
structure Nd where
  k : Int
  n : Int
  y : Nu
  s : ByteArray
  ro : Option Addr
  rc : Nat
  rl : List UInt8
  lo : Option Addr
  lc : Nat
/-- A datum as it lies in memory. -/
inductive Dt where
  | mk (d : Nd) (ts : List Dt)
def Dt.d : Dt → Nd
  | .mk d _ => d
def Dt.ts : Dt → List Dt
  | .mk _ ts => ts
def Nd.cells (d : Nd) (m : Nat) : List Value := [.int .i64 d.k, .int .i64 d.n, .bool d.y.q.b1, .slice d.y.o1 d.y.q.t1.length d.y.c1, .slice d.y.o2 d.y.q.q1.length d.y.c2, .bool d.y.q.b2, .slice d.y.o3 d.y.q.t2.length d.y.c3, .slice d.y.o4 d.y.q.q2.length d.y.c4, .string d.s, .slice d.ro d.rl.length d.rc, .slice d.lo m d.lc]
def Dt.cells (t : Dt) : List Value := t.d.cells t.ts.length
/-- A datum as it is. -/
inductive Tr where
  | mk (k n : Int) (q : Q6) (s : ByteArray) (rl : List UInt8) (ts : List Tr)
def Tr.k : Tr → Int
  | .mk k _ _ _ _ _ => k
def Tr.n : Tr → Int
  | .mk _ n _ _ _ _ => n
def Tr.q : Tr → Q6
  | .mk _ _ q _ _ _ => q
def Tr.s : Tr → ByteArray
  | .mk _ _ _ s _ _ => s
def Tr.rl : Tr → List UInt8
  | .mk _ _ _ _ r _ => r
def Tr.ts : Tr → List Tr
  | .mk _ _ _ _ _ ts => ts
mutual
def Dt.tr : Dt → Tr
  | .mk d ts => .mk d.k d.n d.y.q d.s d.rl (Dt.trs ts)
def Dt.trs : List Dt → List Tr
  | [] => []
  | t :: ts => t.tr :: Dt.trs ts
end
theorem Dt.trs_map : ∀ ts : List Dt, Dt.trs ts = ts.map Dt.tr
  | [] => by simp [Dt.trs]
  | t :: ts => by simp [Dt.trs, Dt.trs_map ts]
mutual
theorem Dt.indT {P : Dt → Prop} (h : ∀ d ts, (∀ t ∈ ts, P t) → P (.mk d ts)) : ∀ t, P t
  | .mk d ts => h d ts (Dt.indL h ts)
theorem Dt.indL {P : Dt → Prop} (h : ∀ d ts, (∀ t ∈ ts, P t) → P (.mk d ts)) : ∀ ts : List Dt, ∀ t ∈ ts, P t
  | [], t, ht => by cases ht
  | u :: us, t, ht => by
    rcases List.mem_cons.1 ht with e | e
    · rw [e]; exact Dt.indT h u
    · exact Dt.indL h us t e
end
mutual
theorem Tr.indT {P : Tr → Prop} (h : ∀ k n q s rl ts, (∀ t ∈ ts, P t) → P (.mk k n q s rl ts)) : ∀ t, P t
  | .mk k n q s rl ts => h k n q s rl ts (Tr.indL h ts)
theorem Tr.indL {P : Tr → Prop} (h : ∀ k n q s rl ts, (∀ t ∈ ts, P t) → P (.mk k n q s rl ts)) : ∀ ts : List Tr, ∀ t ∈ ts, P t
  | [], t, ht => by cases ht
  | u :: us, t, ht => by
    rcases List.mem_cons.1 ht with e | e
    · rw [e]; exact Tr.indT h u
    · exact Tr.indL h us t e
end
/-- These cells stand there. -/
def Here (w : World) (b o : Nat) (cs : List Value) : Prop := b < w.heap.size ∧ ∀ j v, cs[j]? = some v → w.cell? ⟨b, o + j, none⟩ = some v
theorem Here.below {w w' : World} {b o : Nat} {cs : List Value} (h : Here w b o cs) (hb : Below w.heap.size w w') : Here w' b o cs := ⟨Nat.lt_of_lt_of_le h.1 hb.size, fun j v hj => (hb.cell h.1).trans (h.2 j v hj)⟩
/-- A slice reads as these data, one behind the other. -/
def Rt (w : World) (lo : Option Addr) (ts : List Dt) : Prop := ts ≠ [] → ∃ b o, lo = some ⟨b, o, none⟩ ∧ ∀ i t, ts[i]? = some t → Here w b (o + i * 11) t.cells
theorem Rt.below {w w' : World} {lo : Option Addr} {ts : List Dt} (h : Rt w lo ts) (hb : Below w.heap.size w w') : Rt w' lo ts := fun hne => by
  obtain ⟨b, o, e, h2⟩ := h hne
  exact ⟨b, o, e, fun i t hi => (h2 i t hi).below hb⟩
structure NdOk (w : World) (d : Nd) : Prop where
  num : d.y.nm w
  len : LenQ d.y.q
  raw : Rb w d.ro d.rl
  rcap : d.rl.length ≤ d.rc
  rmax : d.rc ≤ 9223372036854775807
  k0 : -9223372036854775808 ≤ d.k
  k1 : d.k ≤ 9223372036854775807
  n0 : -9223372036854775808 ≤ d.n
  n1 : d.n ≤ 9223372036854775807
  smax : d.s.size ≤ 9223372036854775807
theorem NdOk.below {w w' : World} {d : Nd} (h : NdOk w d) (hb : Below w.heap.size w w') : NdOk w' d := { h with num := Nu.below h.num hb, raw := h.raw.below hb }
mutual
/-- A datum reads so. -/
def Dt.rd (w : World) : Dt → Prop
  | .mk d ts => NdOk w d ∧ ts.length ≤ d.lc ∧ d.lc ≤ 9223372036854775807 ∧ Rt w d.lo ts ∧ Dt.rds w ts
def Dt.rds (w : World) : List Dt → Prop
  | [] => True
  | t :: ts => t.rd w ∧ Dt.rds w ts
end
theorem Dt.rds_iff {w : World} : ∀ {ts : List Dt}, Dt.rds w ts ↔ ∀ t ∈ ts, t.rd w
  | [] => by simp [Dt.rds]
  | t :: ts => by simp [Dt.rds, Dt.rds_iff (ts := ts)]
theorem Dt.rd_iff {w : World} {d : Nd} {ts : List Dt} : (Dt.mk d ts).rd w ↔ NdOk w d ∧ ts.length ≤ d.lc ∧ d.lc ≤ 9223372036854775807 ∧ Rt w d.lo ts ∧ ∀ t ∈ ts, t.rd w := by
  rw [← Dt.rds_iff]; unfold Dt.rd; exact Iff.rfl
theorem Dt.keep {w w' : World} (hb : Below w.heap.size w w') : ∀ t : Dt, t.rd w → t.rd w' :=
  Dt.indT fun d ts ih h => by
    rw [Dt.rd_iff] at h ⊢
    exact ⟨h.1.below hb, h.2.1, h.2.2.1, h.2.2.2.1.below hb, fun t ht => ih t ht (h.2.2.2.2 t ht)⟩
theorem Dt.tr_mk (d : Nd) (ts : List Dt) : (Dt.mk d ts).tr = .mk d.k d.n d.y.q d.s d.rl (ts.map Dt.tr) := by rw [Dt.tr, Dt.trs_map]
/-! ### Sound data -/
mutual
/-- How many nodes are left, and whether it was within the limits. -/
def je (dp left : Int) : Tr → Bool × Int
  | .mk k _ _ _ _ ts => if left - 1 < 0 ∨ 200 < dp then (false, left - 1) else vl dp (decide (k = 8)) 0 (left - 1) ts
def vl (dp : Int) (pr : Bool) (i : Nat) (left : Int) : List Tr → Bool × Int
  | [] => (true, left)
  | t :: ts => if (je (if pr = true ∧ i = 1 then dp else dp + 1) left t).1 = true then vl dp pr (i + 1) (je (if pr = true ∧ i = 1 then dp else dp + 1) left t).2 ts else (false, (je (if pr = true ∧ i = 1 then dp else dp + 1) left t).2)
end
mutual
/-- Is each node so? -/
def jz (p : Tr → Bool) : Tr → Bool
  | .mk k n q s rl ts => p (.mk k n q s rl ts) && yg p ts
def yg (p : Tr → Bool) : List Tr → Bool
  | [] => true
  | t :: ts => jz p t && yg p ts
end
theorem qcb : ∀ t : Tr, ∀ dp left : Int, (je dp left t).1 = true → 0 ≤ (je dp left t).2 := by
  refine Tr.indT fun k n q s rl ts ih dp left h => ?_
  rw [je] at h ⊢
  by_cases hc : left - 1 < 0 ∨ 200 < dp
  · rw [if_pos hc] at h; cases h
  · rw [if_neg hc] at h ⊢
    have hl : 0 ≤ left - 1 := by omega
    generalize left - 1 = m at h hl ⊢
    generalize decide (k = 8) = pr at h ⊢
    have key : ∀ (us : List Tr), (∀ t ∈ us, ∀ dp left : Int, (je dp left t).1 = true → 0 ≤ (je dp left t).2) → ∀ (i : Nat) (m : Int), 0 ≤ m → (vl dp pr i m us).1 = true → 0 ≤ (vl dp pr i m us).2 := by
      intro us
      induction us with
      | nil => intro _ i m hm _; exact hm
      | cons t us ih2 =>
        intro hu i m hm h
        rw [vl] at h ⊢
        by_cases ht : (je (if pr = true ∧ i = 1 then dp else dp + 1) m t).1 = true
        · rw [if_pos ht] at h ⊢
          exact ih2 (fun x hx => hu x (List.mem_cons_of_mem _ hx)) _ _ (hu t List.mem_cons_self _ _ ht) h
        · rw [if_neg ht] at h; cases h
    exact key ts ih 0 m hl h
/-- Within the limits, and sound at each node. -/
def qz (p : Tr → Bool) (t : Tr) : Bool := (je 1 20000 t).1 && jz p t
section
variable {P : Program} {w0 w : World} {L : List Ck} {l : List (Nat × Value)} {dst : Option Tmp} {ty : TypeId} {pos : String} {after : Array Edge} {guard : Option (Nat × Bool)} {v : Value}
theorem kw (hM : Mg w0 w L) {b o o' j : Nat} {cs : List Value} (hH : Here w0 b o cs) {t : TypeId} (ht : Is1 P t) {x : Operand} (hx : ev l x = some (.pointer (some ⟨b, o', none⟩))) (ho : o' = o + j) (hv : cs[j]? = some v) : Does P l ⟨dst, .load t x, ty, pos, after, guard⟩ w v w := by
  subst ho
  exact jb hx (jw ht ((hM.bel.cell hH.1).trans (hH.2 j v hv)))
theorem jp (hM : Mg w0 w L) {b o n : Nat} {cs : List Value} (hH : Here w0 b o cs) {t : TypeId} (ht : IsS P t n) {x : Operand} (hx : ev l x = some (.pointer (some ⟨b, o, none⟩))) (hl : cs.length = n) : Does P l ⟨dst, .load t x, ty, pos, after, guard⟩ w (.agg cs.toArray) w :=
  jb hx (jv ht cs hl (fun j v hj => (hM.bel.cell hH.1).trans (hH.2 j v hj)))
theorem zp {t e : TypeId} {sz : Nat} (hu : P.underlying t = some (.slice e)) (he : (P.info? e).map (·.size) = some sz) {x i : Operand} {so : Option Addr} {g off n c k : Nat} {z : Int} (hx : ev l x = some (.slice so n c)) (hi : ev l i = some (.int .i64 z)) (hz : z = (k : Nat)) (hso : so = some ⟨g, off, none⟩) (hk : k < n) :
    Does P l ⟨dst, .indexAddr t x i, ty, pos, after, guard⟩ w (.pointer (some ⟨g, off + k * sz, none⟩)) w := by
  subst hz hso
  exact xd (l := l) (dst := dst) (ty := ty) (pos := pos) (after := after) (guard := guard) (w := w) hx hi (qcj hu he hk)
end
/-- A child of a node. -/
theorem kid {w : World} {d : Nd} {ts : List Dt} (h : (Dt.mk d ts).rd w) {i : Nat} (hi : i < ts.length) : ∃ t b o, ts[i]? = some t ∧ t ∈ ts ∧ t.rd w ∧ d.lo = some ⟨b, o, none⟩ ∧ Here w b (o + i * 11) t.cells := by
  rw [Dt.rd_iff] at h
  have hne : ts ≠ [] := fun e => by subst e; simp at hi
  obtain ⟨b, o, e, h2⟩ := h.2.2.2.1 hne
  have ht := List.getElem?_eq_getElem hi
  exact ⟨ts[i], b, o, ht, List.getElem_mem hi, h.2.2.2.2 _ (List.getElem_mem hi), e, h2 i _ ht⟩
theorem ko {ts : List Dt} {i : Nat} {t : Dt} (h : ts[i]? = some t) : (ts.map Dt.tr).drop i = t.tr :: (ts.map Dt.tr).drop (i + 1) := by
  obtain ⟨hi, rfl⟩ := List.getElem?_eq_some_iff.1 h
  rw [List.drop_eq_getElem_cons (by simpa using hi)]
  simp
theorem un {ts : List Dt} {i : Nat} (h : ¬ i < ts.length) : (ts.map Dt.tr).drop i = [] := List.drop_of_length_le (by simp; omega)
theorem fit_le : ∀ t : Tr, ∀ dp left : Int, (je dp left t).2 ≤ left := by
  refine Tr.indT fun k n q s rl ts ih dp left => ?_
  rw [je]
  split
  · show left - 1 ≤ left; omega
  · have key : ∀ (us : List Tr), (∀ t ∈ us, ∀ dp left : Int, (je dp left t).2 ≤ left) → ∀ (i : Nat) (m : Int), (vl dp (decide (k = 8)) i m us).2 ≤ m := by
      intro us
      induction us with
      | nil => intro _ i m; exact Int.le_refl _
      | cons t us ih2 =>
        intro hu i m
        rw [vl]
        generalize (if decide (k = 8) = true ∧ i = 1 then dp else dp + 1) = D
        have h1 := hu t List.mem_cons_self D m
        split
        · exact Int.le_trans (ih2 (fun x hx => hu x (List.mem_cons_of_mem _ hx)) _ _) h1
        · exact h1
    have := key ts ih 0 (left - 1)
    omega
theorem qig {dp m D : Int} {pr : Bool} {i : Nat} {ts : List Dt} {t : Dt} (hi : ts[i]? = some t) (hD : (if pr = true ∧ i = 1 then dp else dp + 1) = D) (h : (je D m t.tr).1 = true) : vl dp pr i m ((ts.map Dt.tr).drop i) = vl dp pr (i + 1) (je D m t.tr).2 ((ts.map Dt.tr).drop (i + 1)) := by
  rw [ko hi, vl, hD, if_pos h]
theorem uq {dp m D : Int} {pr : Bool} {i : Nat} {ts : List Dt} {t : Dt} (hi : ts[i]? = some t) (hD : (if pr = true ∧ i = 1 then dp else dp + 1) = D) (h : (je D m t.tr).1 = false) : vl dp pr i m ((ts.map Dt.tr).drop i) = (false, (je D m t.tr).2) := by
  rw [ko hi, vl, hD, if_neg (by rw [h]; decide)]
theorem qcc {dp left : Int} {d : Nd} {ts : List Dt} (h1 : ¬ left - 1 < 0) (h2 : ¬ 200 < dp) : je dp left (Dt.mk d ts).tr = vl dp (decide (d.k = 8)) 0 (left - 1) ((ts.map Dt.tr).drop 0) := by
  rw [Dt.tr_mk, je, if_neg (by omega), List.drop_zero]
theorem fitT_no {dp left : Int} {d : Nd} {ts : List Dt} (h : left - 1 < 0 ∨ 200 < dp) : je dp left (Dt.mk d ts).tr = (false, left - 1) := by
  rw [Dt.tr_mk, je, if_pos h]
theorem qih {p : Tr → Bool} {d : Nd} {ts : List Dt} : jz p (Dt.mk d ts).tr = (p (Dt.mk d ts).tr && yg p ((ts.map Dt.tr).drop 0)) := by
  rw [Dt.tr_mk, jz, List.drop_zero]
theorem allL_go {p : Tr → Bool} {i : Nat} {ts : List Dt} {t : Dt} (hi : ts[i]? = some t) : yg p ((ts.map Dt.tr).drop i) = (jz p t.tr && yg p ((ts.map Dt.tr).drop (i + 1))) := by
  rw [ko hi, yg]
/-- A fraction without words. -/
def qdb (b : Bool) (m m' : Nat) : Bool := !b && (decide (m = 0) && decide (m' = 0))
/-- Nothing beside the kind. -/
def xe (n : Int) (b1 : Bool) (m1 m2 : Nat) (b2 : Bool) (m3 m4 : Nat) (s : ByteArray) (mr ml : Nat) : Bool := decide (n = 0) && (qdb b1 m1 m2 && (qdb b2 m3 m4 && (decide (s = ⟨#[]⟩) && (decide (mr = 0) && decide (ml = 0)))))
def qfi (n : Int) : Bool := decide (0 ≤ n ∧ n ≤ 1114111 ∧ (n < 55296 ∨ 57343 < n))
/-- A text of characters. -/
def okS (s : ByteArray) : Bool := Lib.validD s.data.toList
/-- Sound by its kind. -/
def jf (k n : Int) (q : Q6) (s : ByteArray) (mr ml : Nat) : Bool :=
  if k = 1 ∨ k = 10 then xe n q.b1 q.t1.length q.q1.length q.b2 q.t2.length q.q2.length s mr ml
  else if k = 2 then decide (n = 0 ∨ n = 1) && xe 0 q.b1 q.t1.length q.q1.length q.b2 q.t2.length q.q2.length s mr ml
  else if k = 3 then qie q && xe n false 0 0 false 0 0 s mr ml
  else if k = 4 then qfi n && xe 0 q.b1 q.t1.length q.q1.length q.b2 q.t2.length q.q2.length s mr ml
  else if k = 5 ∨ k = 6 ∨ k = 11 then okS s && xe n q.b1 q.t1.length q.q1.length q.b2 q.t2.length q.q2.length ⟨#[]⟩ mr ml
  else if k = 7 then xe n q.b1 q.t1.length q.q1.length q.b2 q.t2.length q.q2.length s 0 ml
  else if k = 8 then decide (ml = 2) && xe n q.b1 q.t1.length q.q1.length q.b2 q.t2.length q.q2.length s mr 0
  else if k = 9 then xe n q.b1 q.t1.length q.q1.length q.b2 q.t2.length q.q2.length s mr 0
  else false
def qh : Tr → Bool
  | .mk k n q s rl ts => jf k n q s rl.length ts.length
theorem ur {d : Nd} {ts : List Dt} : qh (Dt.mk d ts).tr = jf d.k d.n d.y.q d.s d.rl.length ts.length := by
  rw [Dt.tr_mk, qh, List.length_map]
mutual
/-- How much a datum holds. -/
def Tr.bulk : Tr → Nat
  | .mk _ _ q s rl ts => s.size + rl.length + (q.t1.length + q.q1.length + (q.t2.length + q.q2.length)) + 1 + Tr.bulks ts
def Tr.bulks : List Tr → Nat
  | [] => 0
  | t :: ts => t.bulk + Tr.bulks ts
end
theorem vd {k n : Int} {q : Q6} {s : ByteArray} {rl : List UInt8} {ts : List Tr} : (Tr.mk k n q s rl ts).bulk = s.size + rl.length + (q.t1.length + q.q1.length + (q.t2.length + q.q2.length)) + 1 + Tr.bulks ts := by rw [Tr.bulk]
theorem ut : ∀ {ts : List Tr} {t : Tr}, t ∈ ts → t.bulk ≤ Tr.bulks ts
  | u :: us, t, h => by
    rw [Tr.bulks]
    rcases List.mem_cons.1 h with e | e
    · subst e; omega
    · have := ut e; omega
theorem bulk_kid {d : Nd} {ts : List Dt} {t : Dt} (h : t ∈ ts) : t.tr.bulk + d.s.size + 1 ≤ (Dt.mk d ts).tr.bulk := by
  rw [Dt.tr_mk, vd]
  have := ut (List.mem_map_of_mem (f := Dt.tr) h)
  omega
open Go.RowKit Go.Lib
/-! ### The order of trees -/
/-! ### The same trees -/
def Q6.none : Q6 := ⟨false, [], [], false, [], []⟩
/-- What is not named by the kind is nothing. -/
structure Bare (k n : Int) (q : Q6) (s : ByteArray) (mr ml : Nat) : Prop where
  hn : k ≠ 2 → k ≠ 4 → n = 0
  hq : k ≠ 3 → q = Q6.none
  hs : k ≠ 5 → k ≠ 6 → k ≠ 11 → s = ⟨#[]⟩
  hr : k ≠ 7 → mr = 0
  hl : k ≠ 8 → k ≠ 9 → ml = 0
  h8 : k = 8 → ml = 2
  h3 : k = 3 → qie q = true
  h0 : 1 ≤ k
  h1 : k ≤ 11
  h2 : k = 2 → n = 0 ∨ n = 1
  h4 : k = 4 → qfi n = true
  h5 : k = 5 ∨ k = 6 ∨ k = 11 → okS s = true
/-! ### Trees as they lie in memory -/
theorem Dt.eta (t : Dt) : Dt.mk t.d t.ts = t := by cases t; rfl
theorem Dt.tr_eta (t : Dt) : t.tr = .mk t.d.k t.d.n t.d.y.q t.d.s t.d.rl (t.ts.map Dt.tr) := by rw [← Dt.tr_mk, Dt.eta]
theorem kidT {w : World} {t : Dt} (h : t.rd w) {i : Nat} (hi : i < t.ts.length) : ∃ t1 b o, t.ts[i]? = some t1 ∧ t1 ∈ t.ts ∧ t1.rd w ∧ t.d.lo = some ⟨b, o, none⟩ ∧ Here w b (o + i * 11) (t1.d.cells t1.ts.length) := kid (d := t.d) (by rw [Dt.eta]; exact h) hi
theorem Dt.okT {w : World} {t : Dt} (h : t.rd w) : NdOk w t.d ∧ t.ts.length ≤ 9223372036854775807 := by
  rw [← Dt.eta t, Dt.rd_iff] at h
  exact ⟨h.1, Nat.le_trans h.2.1 h.2.2.1⟩
theorem bulkT {t c : Dt} (h : c ∈ t.ts) : c.tr.bulk + t.d.s.size + 1 ≤ t.tr.bulk := by
  have := bulk_kid (d := t.d) h
  rwa [Dt.eta] at this
/-! ### The law -/
/-! ### The hash -/
/-- One more number in a hash. -/
def hw (h n : Int) : Int := bits .xor .u64 (IntKind.u64.wrap (bits .xor .u64 h n * 1099511628211)) (IntKind.u64.wrap (bits .xor .u64 h n * 1099511628211) / 2 ^ 32)
/-- A slice that has something lies in a block of p. -/
def In {α : Type} (p : Nat → Prop) (so : Option Addr) (l : List α) : Prop := l ≠ [] → ∀ b o, so = some ⟨b, o, none⟩ → p b
theorem In.mono {α : Type} {p q : Nat → Prop} {so : Option Addr} {l : List α} (h : In p so l) (hp : ∀ b, p b → q b) : In q so l := fun hne b o e => hp b (h hne b o e)
structure Nd.at_ (p : Nat → Prop) (d : Nd) : Prop where
  i1 : In p d.y.o1 d.y.q.t1
  i2 : In p d.y.o2 d.y.q.q1
  i3 : In p d.y.o3 d.y.q.t2
  i4 : In p d.y.o4 d.y.q.q2
  i5 : In p d.ro d.rl
mutual
/-- All memory of a datum lies in blocks of p. -/
def Dt.at_ (p : Nat → Prop) : Dt → Prop
  | .mk d ts => d.at_ p ∧ In p d.lo ts ∧ Dt.ats p ts
def Dt.ats (p : Nat → Prop) : List Dt → Prop
  | [] => True
  | t :: ts => t.at_ p ∧ Dt.ats p ts
end
theorem Dt.ats_iff {p : Nat → Prop} : ∀ {ts : List Dt}, Dt.ats p ts ↔ ∀ t ∈ ts, t.at_ p
  | [] => by simp [Dt.ats]
  | t :: ts => by simp [Dt.ats, Dt.ats_iff (ts := ts)]
theorem Dt.at_iff {p : Nat → Prop} {d : Nd} {ts : List Dt} : (Dt.mk d ts).at_ p ↔ d.at_ p ∧ In p d.lo ts ∧ ∀ t ∈ ts, t.at_ p := by
  rw [← Dt.ats_iff]; unfold Dt.at_; exact Iff.rfl
theorem Nd.at_mono {p q : Nat → Prop} {d : Nd} (h : d.at_ p) (hp : ∀ b, p b → q b) : d.at_ q := ⟨h.i1.mono hp, h.i2.mono hp, h.i3.mono hp, h.i4.mono hp, h.i5.mono hp⟩
theorem Dt.at_mono {p q : Nat → Prop} (hp : ∀ b, p b → q b) : ∀ t : Dt, t.at_ p → t.at_ q :=
  Dt.indT fun d ts ih h => by
    rw [Dt.at_iff] at h ⊢
    exact ⟨Nd.at_mono h.1 hp, h.2.1.mono hp, fun t ht => ih t ht (h.2.2 t ht)⟩
/-- The cells of these blocks are kept. -/
def Kept (p : Nat → Prop) (w w' : World) : Prop := w.heap.size ≤ w'.heap.size ∧ ∀ b i v, p b → w.cell? ⟨b, i, none⟩ = some v → w'.cell? ⟨b, i, none⟩ = some v
theorem rd_kept {p : Nat → Prop} {w w' : World} {so : Option Addr} {l : List Nat} (h : Rd w so l) (hi : In p so l) (hk : Kept p w w') : Rd w' so l := by
  refine ⟨h.dig, fun hne => ?_⟩
  obtain ⟨b, off, h1, h2, h3⟩ := h.pos hne
  exact ⟨b, off, h1, Nat.lt_of_lt_of_le h2 hk.1, fun j hj => hk.2 _ _ _ (hi hne _ _ h1) (h3 j hj)⟩
theorem rb_kept {p : Nat → Prop} {w w' : World} {so : Option Addr} {l : List UInt8} (h : Rb w so l) (hi : In p so l) (hk : Kept p w w') : Rb w' so l := by
  refine ⟨fun hne => ?_⟩
  obtain ⟨b, off, h1, h2, h3⟩ := h.pos hne
  exact ⟨b, off, h1, Nat.lt_of_lt_of_le h2 hk.1, fun j hj => hk.2 _ _ _ (hi hne _ _ h1) (h3 j hj)⟩
theorem xt {p : Nat → Prop} {w w' : World} {so : Option Addr} {c : Nat} {l : List Nat} (h : Sc w so c l) (hi : In p so l) (hk : Kept p w w') : Sc w' so c l := ⟨rd_kept h.rd hi hk, h.nil, h.cap⟩
theorem NdOk.kept {p : Nat → Prop} {w w' : World} {d : Nd} (h : NdOk w d) (hi : d.at_ p) (hk : Kept p w w') : NdOk w' d := { h with num := ⟨xt h.num.s1 hi.i1 hk, xt h.num.s2 hi.i2 hk, xt h.num.s3 hi.i3 hk, xt h.num.s4 hi.i4 hk⟩, raw := rb_kept h.raw hi.i5 hk }
theorem Rt.kept {p : Nat → Prop} {w w' : World} {lo : Option Addr} {ts : List Dt} (h : Rt w lo ts) (hi : In p lo ts) (hk : Kept p w w') : Rt w' lo ts := fun hne => by
  obtain ⟨b, o, e, h2⟩ := h hne
  exact ⟨b, o, e, fun i t hi' => ⟨Nat.lt_of_lt_of_le (h2 i t hi').1 hk.1, fun j v hj => hk.2 _ _ _ (hi hne _ _ e) ((h2 i t hi').2 j v hj)⟩⟩
/-- Where all its memory is kept, a datum vn. -/
theorem Dt.kept {p : Nat → Prop} {w w' : World} (hk : Kept p w w') : ∀ t : Dt, t.rd w → t.at_ p → t.rd w' :=
  Dt.indT fun d ts ih h hi => by
    rw [Dt.rd_iff] at h ⊢
    rw [Dt.at_iff] at hi
    exact ⟨h.1.kept hi.1 hk, h.2.1, h.2.2.1, h.2.2.2.1.kept hi.2.1 hk, fun t ht => ih t ht (h.2.2.2.2 t ht) (hi.2.2 t ht)⟩
theorem kx {w : World} {so : Option Addr} {l : List Nat} (h : Rd w so l) : In (· < w.heap.size) so l := fun hne b o e => by
  obtain ⟨b', off, h1, h2, _⟩ := h.pos hne
  rw [h1] at e; cases e; exact h2
theorem in_lt_byte {w : World} {so : Option Addr} {l : List UInt8} (h : Rb w so l) : In (· < w.heap.size) so l := fun hne b o e => by
  obtain ⟨b', off, h1, h2, _⟩ := h.pos hne
  rw [h1] at e; cases e; exact h2
theorem qgg {w : World} {lo : Option Addr} {ts : List Dt} (h : Rt w lo ts) : In (· < w.heap.size) lo ts := fun hne b o e => by
  obtain ⟨b', o', h1, h2⟩ := h hne
  rw [h1] at e; cases e
  cases ts with
  | nil => exact absurd rfl hne
  | cons t ts => exact (h2 0 t rfl).1
/-- What is there lies in what there is. -/
theorem Dt.at_lt {w : World} : ∀ t : Dt, t.rd w → t.at_ (· < w.heap.size) :=
  Dt.indT fun d ts ih h => by
    rw [Dt.rd_iff] at h
    rw [Dt.at_iff]
    exact ⟨⟨kx h.1.num.s1.rd, kx h.1.num.s2.rd, kx h.1.num.s3.rd, kx h.1.num.s4.rd, in_lt_byte h.1.raw⟩, qgg h.2.2.2.1, fun t ht => ih t ht (h.2.2.2.2 t ht)⟩
theorem Kept.trans {p : Nat → Prop} {w w' w'' : World} (h : Kept p w w') (k : Kept p w' w'') : Kept p w w'' := ⟨Nat.le_trans h.1 k.1, fun b i v hb hc => k.2 b i v hb (h.2 b i v hb hc)⟩
theorem Kept.mono {p q : Nat → Prop} {w w' : World} (h : Kept p w w') (hq : ∀ b, q b → p b) : Kept q w w' := ⟨h.1, fun b i v hb hc => h.2 b i v (hq b hb) hc⟩
theorem vq (w : World) (g o : Nat) (cs : List Value) : Kept (· ≠ g) w (w.setCells g o cs) := by
  induction cs generalizing w o with
  | nil => exact ⟨Nat.le_refl _, fun _ _ _ _ h => h⟩
  | cons c cs ih =>
    refine Kept.trans ⟨by simp, fun b i v hb hc => ?_⟩ (ih (w.setCell ⟨g, o, none⟩ c) (o + 1))
    have : (w.setCell ⟨g, o, none⟩ c).cell? ⟨b, i, none⟩ = w.cell? ⟨b, i, none⟩ := by
      unfold World.cell?
      rw [Below.heap_setCell w ⟨g, o, none⟩ c b hb]
    rw [this]; exact hc
/-! ### Rows of data -/
def cellsOf (ts : List Dt) : List Value := ts.flatMap Dt.cells
theorem xp (t : Dt) : t.cells.length = 11 := rfl
theorem xv : ∀ ts : List Dt, (cellsOf ts).length = ts.length * 11
  | [] => rfl
  | t :: ts => by
    have := xv ts
    unfold cellsOf at this ⊢
    rw [List.flatMap_cons, List.length_append, xp, this, List.length_cons]; omega
theorem vf (a b : List Dt) : cellsOf (a ++ b) = cellsOf a ++ cellsOf b := List.flatMap_append
theorem qle (t : Dt) : cellsOf [t] = t.cells := by unfold cellsOf; rw [List.flatMap_singleton]
theorem ka : ∀ (ts : List Dt) (i : Nat), (cellsOf ts).drop (i * 11) = cellsOf (ts.drop i)
  | ts, 0 => by rw [Nat.zero_mul]; rfl
  | [], i + 1 => by simp [cellsOf]
  | t :: ts, i + 1 => by
    have := ka ts i
    rw [List.drop_succ_cons, ← this]
    unfold cellsOf
    rw [List.flatMap_cons, show (i + 1) * 11 = t.cells.length + i * 11 by rw [xp]; omega, List.drop_append, List.drop_of_length_le (by omega), Nat.add_sub_cancel_left, List.nil_append]
theorem yy : ∀ (ts : List Dt) (i : Nat), (cellsOf ts).take (i * 11) = cellsOf (ts.take i)
  | ts, 0 => by rw [Nat.zero_mul]; rfl
  | [], i + 1 => by simp [cellsOf]
  | t :: ts, i + 1 => by
    have := yy ts i
    rw [List.take_succ_cons]
    unfold cellsOf at this ⊢
    rw [List.flatMap_cons, List.flatMap_cons, show (i + 1) * 11 = t.cells.length + i * 11 by rw [xp]; omega, List.take_length_add_append, this]
theorem yi {ts : List Dt} {i : Nat} {t : Dt} (h : ts[i]? = some t) : ((cellsOf ts).drop (i * 11)).take 11 = t.cells := by
  obtain ⟨hi, rfl⟩ := List.getElem?_eq_some_iff.1 h
  rw [ka, List.drop_eq_getElem_cons hi]
  unfold cellsOf
  rw [List.flatMap_cons, show 11 = (ts[i]).cells.length from rfl, List.take_left]
theorem yz {ts : List Dt} {i j : Nat} {t : Dt} {v : Value} (h : ts[i]? = some t) (hj : t.cells[j]? = some v) : (cellsOf ts)[i * 11 + j]? = some v := by
  have hlt : j < 11 := by have := (List.getElem?_eq_some_iff.1 hj).1; rwa [xp] at this
  rw [← yi h, List.getElem?_take, if_pos hlt, List.getElem?_drop] at hj
  exact hj
theorem qlf {ts : List Dt} {i : Nat} (t : Dt) (h : i < ts.length) : over (cellsOf ts) (i * 11) t.cells = cellsOf (ts.set i t) := by
  rw [over_eq (by rw [xv, xp]; omega), xp, show i * 11 + 11 = (i + 1) * 11 by omega, ka, yy, List.set_eq_take_append_cons_drop, if_pos h, vf]
  rw [show t :: ts.drop (i + 1) = [t] ++ ts.drop (i + 1) from rfl, vf, qle, List.append_assoc]
theorem vg {w : World} {B : Nat} {e : TypeId} {so : Option Addr} {n cap : Nat} {ts : List Dt} (h : w.ownsRow B e 11 (.slice so n cap) n (cellsOf ts)) : Rt w so ts ∧ n = ts.length ∧ n ≤ cap ∧ cap ≤ 9223372036854775807 := by
  have hn : n = ts.length := by have := h.1; rw [xv] at this; omega
  refine ⟨fun hne => ?_, hn, ?_⟩
  · rcases h.2 with ⟨e1, e2⟩ | ⟨g, cap', cur, e1, hg, hc, h1, h2, h3, h4⟩
    · subst e2; exact absurd (List.length_eq_zero_iff.1 hn.symm) hne
    · cases e1
      refine ⟨g, 0, rfl, fun i t hi => ⟨(Array.getElem?_eq_some_iff.1 hc).1, fun j v hj => ?_⟩⟩
      have hlt : j < 11 := by have := (List.getElem?_eq_some_iff.1 hj).1; rwa [xp] at this
      have hil := (List.getElem?_eq_some_iff.1 hi).1
      have h5 := yz hi hj
      rw [← h4, List.getElem?_take, if_pos (by omega)] at h5
      rw [show (⟨g, 0 + i * 11 + j, none⟩ : Addr) = ⟨g, i * 11 + j, none⟩ by rw [Nat.zero_add], cell_of_row w g _ cur e (0, 0) hc]
      simpa using h5
  · rcases h.2 with ⟨e1, e2⟩ | ⟨g, cap', cur, e1, hg, hc, h1, h2, h3, h4⟩
    · cases e1; exact ⟨Nat.le_refl _, by omega⟩
    · cases e1; refine ⟨h1, Nat.le_trans h2 ?_⟩; decide
section
variable {P : Program} {w0 w : World} {L : List Ck} {l : List (Nat × Value)} {dst : Option Tmp} {ty : TypeId} {pos : String} {after : Array Edge} {guard : Option (Nat × Bool)} {v : Value}
/-- A slice reads as these cells, so many elements. -/
def Rc (w : World) (so : Option Addr) (cs : List Value) : Prop := cs ≠ [] → ∃ b off, so = some ⟨b, off, none⟩ ∧ ∀ p u, cs[p]? = some u → w.cell? ⟨b, off + p, none⟩ = some u
theorem Rc.below {w w' : World} {so : Option Addr} {cs : List Value} (h : Rc w so cs) (hb : Below w.heap.size w w') : Rc w' so cs := fun hne => by
  obtain ⟨b, off, e, h2⟩ := h hne
  exact ⟨b, off, e, fun p u hp => (hb.cell (cell_lt (h2 p u hp))).trans (h2 p u hp)⟩
theorem rc_rt {w : World} {so : Option Addr} {ts : List Dt} (h : Rt w so ts) : Rc w so (cellsOf ts) := fun hne => by
  obtain ⟨b, o, e, h2⟩ := h (fun k => hne (by rw [k]; rfl))
  refine ⟨b, o, e, fun p u hp => ?_⟩
  have hlt : p < ts.length * 11 := by have := (List.getElem?_eq_some_iff.1 hp).1; rwa [xv] at this
  have hi : p / 11 < ts.length := by omega
  have ht := List.getElem?_eq_getElem hi
  have hp2 : p = p / 11 * 11 + p % 11 := by omega
  have h3 := (h2 (p / 11) _ ht).2 (p % 11) u (by
    have h4 := yi ht
    rw [← h4, List.getElem?_take, if_pos (by omega), List.getElem?_drop, ← hp2]; exact hp)
  rw [show o + p = o + p / 11 * 11 + p % 11 by omega]; exact h3
theorem xq {w : World} {B : Nat} {e : TypeId} {sz n cap : Nat} {so : Option Addr} {xs : List Value} (h : w.ownsRow B e sz (.slice so n cap) n xs) : Rc w so xs := fun hne => by
  rcases h.2 with ⟨e1, e2⟩ | ⟨g, cap', cur, e1, hg, hc, h1, h2, h3, h4⟩
  · subst e2; exact absurd (List.length_eq_zero_iff.1 (by rw [h.1]; simp)) hne
  · cases e1
    exact ⟨g, 0, rfl, fun p u hp => by rw [Nat.zero_add, World.ownsRow.cellAt h p (by have := (List.getElem?_eq_some_iff.1 hp).1; rw [h.1] at this; exact this)]; exact hp⟩
theorem vm {e t : TypeId} {sz by_ : Nat} {z : Value} {x y : Operand} (ht : P.underlying t = some (.slice e)) (hinfo : (P.info? e).map (fun i => (i.zero, i.size, i.bytes)) = some (some z, sz, by_)) (hzc : z.cells.size = sz) (hsz : Nat.ble 1 sz = true) (hby : Nat.ble by_ 1000 = true) (hM : Mg w0 w L) (k : Nat) {q : Nat} {xs : List Value} (hk : L[k]? = some (.row e sz v q xs)) (hx : ev l x = some v) {so : Option Addr} {m c2 : Nat} {news : List Value} (hy : ev l y = some (.slice so m c2)) (hnl : news.length = m * sz) (hr : Rc w so news) (h1 : ∀ u ∈ news, u.oneCell' = true) (hlen : q + m ≤ 1000000000) :
    ∃ v' w', Does P l ⟨dst, .call ⟨.builtin .append, #[x, y], #[t, t]⟩, ty, pos, after, guard⟩ w v' w' ∧ Mg w0 w' (L.set k (.row e sz v' (q + m) (xs ++ news))) := by
  obtain ⟨i, hi, hzz⟩ := Option.map_eq_some_iff.1 hinfo
  simp only [Prod.mk.injEq] at hzz
  obtain ⟨hz, hs, hb⟩ := hzz
  have hrow := hM.has k hk
  by_cases hm : m = 0
  · subst hm
    have h0 : news = [] := List.length_eq_zero_iff.1 (by rw [hnl]; simp)
    subst h0
    obtain ⟨so1, cap, hle, rfl⟩ : ∃ so1 cap, q ≤ cap ∧ v = .slice so1 q cap := by
      rcases hrow.2 with ⟨rfl, rfl⟩ | ⟨g, cap, cur, rfl, _, _, h, _⟩
      · exact ⟨none, 0, Nat.le_refl _, rfl⟩
      · exact ⟨_, cap, h, rfl⟩
    have h2 : (sizeOf e).run P w = .ok sz w := by simp [sizeOf, typeInfo, hi, hs]
    refine ⟨.slice so1 q cap, w, ?_, ?_⟩
    · intro ρ h
      cases so <;> cases so1 <;> simp [execOp, resolve, invoke, builtin, h x _ hx, h y _ hy, Builtin.append_, run_underlying ht, h2, Builtin.lenOf, Builtin.firstCells, loadCells, loadCellsFrom, storeCells, hle]
    · rw [show L.set k (.row e sz (.slice so1 q cap) (q + 0) (xs ++ [])) = L from by rw [List.append_nil]; exact qci hk]
      exact hM
  · have hne : news ≠ [] := fun e0 => by
      rw [e0] at hnl
      have h5 := Nat.le_of_ble_eq_true hsz
      have : 0 < m * sz := Nat.mul_pos (by omega) h5
      simp at hnl; omega
    obtain ⟨b, off, rfl, hcell⟩ := hr hne
    have hbig : (q + m) * by_ ≤ 140737488355328 := Nat.le_trans (Nat.mul_le_mul hlen (Nat.le_of_ble_eq_true hby)) (by decide)
    obtain ⟨g, cap, w', hr, hown, hgr, hat, hlt⟩ := run_append_lies (P := P) w t ty w0.heap.size e i z sz by_ ht hi hz hs hb hzc (Nat.le_of_ble_eq_true hsz) v q xs hrow ⟨b, off, none⟩ m c2 news hnl (fun p u hp => by
        rw [jg]
        exact hcell p u hp) h1 (by omega) (by unfold maxLen; omega) hbig hM.bel.size w.heap.size rfl
    refine ⟨.slice (some ⟨g, 0, none⟩) (q + m) cap, w', fun ρ h => ?_, hM.turn k hk (by simp) hgr hown (fun d hd ha => ?_)⟩
    · simp [execOp, resolve, invoke, builtin, h x _ hx, h y _ hy, hr]
    · have hl := Ck.lt (hM.all d hd)
      have key : ∀ z, d.at_ = some z → v.ownBlock ≠ some z → g ≠ z := fun z hz hne e => by
        subst e
        rcases hat with h | h
        · exact hne h
        · have := (hl g hz).2; omega
      cases d with
      | obj g' o' => exact fun e => key g' rfl ha (by simpa [Value.ownBlock] using e)
      | row e' sz' v' n' xs' =>
        right
        intro e
        have e2 : v'.ownBlock = some g := e.symm
        rcases ha with ha | ha
        · exact key g e2 (by rw [ha]; simp) rfl
        · exact key g e2 (fun h => ha (h.trans e2.symm)) rfl
      | bld b' bs' => exact ⟨ha.1, fun e => key b' rfl ha.2 (by simpa [Value.ownBlock] using e)⟩
/-- A row of nothing. -/
theorem Mg.nilRow (h : Mg w0 w L) (hb : xl L) (e : TypeId) (sz : Nat) : Mg w0 w (.row e sz (.slice none 0 0) 0 [] :: L) := by
  refine h.add (Below.refl _ _) ⟨by simp, .inl ⟨rfl, rfl⟩⟩ (fun k hk => by cases hk) (.inr (.inl ⟨_, _, _, _, _, rfl, .inr hb⟩))
theorem uu {w : World} {B : Nat} {e : TypeId} {sz n cap : Nat} {so : Option Addr} {xs : List Value} (h : w.ownsRow B e sz (.slice so n cap) n xs) {α : Type} (l : List α) : In (B ≤ ·) so l := fun _ b o e1 => by
  rcases h.2 with ⟨e2, _⟩ | ⟨g, cap', cur, e2, hg, _⟩
  · cases e2; cases e1
  · cases e2; cases e1; exact hg
theorem qgh (t : Dt) : ∀ u ∈ t.cells, u.oneCell' = true := by
  intro u hu
  unfold Dt.cells Nd.cells at hu
  simp only [List.mem_cons, List.not_mem_nil, or_false] at hu
  rcases hu with h | h | h | h | h | h | h | h | h | h | h <;> subst h <;> rfl
theorem ua (ts : List Dt) : ∀ u ∈ cellsOf ts, u.oneCell' = true := by
  intro u hu
  unfold cellsOf at hu
  obtain ⟨t, _, ht⟩ := List.mem_flatMap.1 hu
  exact qgh t u ht
section
variable {ops : List Oper} {Q : Exit → Act → World → Prop} {a : Act} {n : Nat} {o : Oper} {rest : List Oper} {d : Nat}
/-- A new block: all that was there is kept. -/
theorem qii (hA : Sl a n l) (hM : Mg w0 w L) (hg : zi l ops o = true) (hdst : o.dst = some d) (hd : Nat.blt d n = true) {vs : List Value} {t : TypeId} (val : Nat → Value) (he : Does P l o w (val w.heap.size) (w.alloc (.cells vs.toArray t))) (ht : t ≠ BY)
    (hk : ∀ g w', Mg w0 w' (.obj g (.cells vs.toArray t) :: L) → w.heap.size ≤ g → Below w.heap.size w w' → ∀ a', Sl a' n ((d, val g) :: l) → wpList P ops.toArray Q rest a' w') : wpList P ops.toArray Q (o :: rest) a w :=
  jd hA hg hdst hd he (hk _ _ (hM.addObj _ (vi ht)) (Nat.le_refl _) ((Below.refl _ w).alloc (Nat.le_refl _) _))
/-- A store into a block: the others are kept. -/
theorem xw (hA : Sl a n l) (hM : Mg w0 w L) (hg : zi l ops o = true) (hdst : o.dst = none) {g q : Nat} {cs vs us : List Value} {e : TypeId} (he : Sets P l o w (w.setCells g q cs)) (k : Nat) (hk0 : L[k]? = some (.obj g (.cells vs.toArray e))) (hus : over vs q cs = us) {L' : List Ck} (hL : L.set k (.obj g (.cells us.toArray e)) = L')
    (hk : ∀ w', Mg w0 w' L' → Kept (· ≠ g) w w' → wpList P ops.toArray Q rest a w') : wpList P ops.toArray Q (o :: rest) a w :=
  qbj hA hg hdst he (hk _ (by subst hus hL; exact Mg.puts cs w L vs q hM k hk0) (vq _ _ _ _))
/-- .. into a row. -/
theorem uw (hA : Sl a n l) (hM : Mg w0 w L) (hg : zi l ops o = true) (hdst : o.dst = none) {g q m cap : Nat} {cs xs us : List Value} {e : TypeId} {sz : Nat} (he : Sets P l o w (w.setCells g q cs)) (k : Nat) (hk0 : L[k]? = some (.row e sz (.slice (some ⟨g, 0, none⟩) m cap) m xs)) (hus : over xs q cs = us) {L' : List Ck} (hL : L.set k (.row e sz (.slice (some ⟨g, 0, none⟩) m cap) m us) = L')
    (hk : ∀ w', Mg w0 w' L' → Kept (· ≠ g) w w' → wpList P ops.toArray Q rest a w') : wpList P ops.toArray Q (o :: rest) a w :=
  qbj hA hg hdst he (hk _ (by subst hus hL; exact Mg.rowPuts cs w L xs q hM k hk0) (vq _ _ _ _))
end
section
variable {ops : List Oper} {Q : Exit → Act → World → Prop} {a : Act} {n : Nat} {o : Oper} {S : World → Prop} {md : Region.Mode} {fuel : Nat} {listed : Array Bool}
theorem qdc (hA : Sl a n l) (hM : Mg w0 w L) (i : Nat) (hi : ops[i]? = some o) (hg : zi l ops o = true) (hdst : o.dst = none) {g q : Nat} {cs vs us : List Value} {e : TypeId} (he : Sets P l o w (w.setCells g q cs)) (k : Nat) (hk0 : L[k]? = some (.obj g (.cells vs.toArray e))) (hus : over vs q cs = us) {L' : List Ck} (hL : L.set k (.obj g (.cells us.toArray e)) = L')
    (hk : ∀ w', Mg w0 w' L' → Kept (· ≠ g) w w' → S w' ∧ wpAnyH P md ops.toArray Q S fuel (listed.setIfInBounds i true) a w') : wpOp P ops.toArray Q i (fun a' w' => S w' ∧ wpAnyH P md ops.toArray Q S fuel (listed.setIfInBounds i true) a' w') a w := by
  have h := hk _ (by subst hus hL; exact Mg.puts cs w L vs q hM k hk0) (vq _ _ _ _)
  exact op_set hA i hi hg hdst he h.1 h.2
end
end
def jn (l : List Nat) : List Value := l.map fun n => .int .u32 ((n : Nat) : Int)
theorem words_n (l : List Nat) : (jn l).length = l.length * 1 := by unfold jn; simp
theorem qgf (l : List Nat) : ∀ u ∈ jn l, u.oneCell' = true := by
  intro u hu
  unfold jn at hu
  obtain ⟨n, _, rfl⟩ := List.mem_map.1 hu
  rfl
theorem bytes_n (l : List UInt8) : (Lib.byteCells l).length = l.length * 1 := by unfold Lib.byteCells; simp
theorem bytes_one (l : List UInt8) : ∀ u ∈ Lib.byteCells l, u.oneCell' = true := by
  intro u hu
  unfold Lib.byteCells at hu
  obtain ⟨n, _, rfl⟩ := List.mem_map.1 hu
  rfl
theorem rc_bytes {w : World} {so : Option Addr} {l : List UInt8} (h : Rb w so l) : Rc w so (Lib.byteCells l) := fun hne => by
  obtain ⟨b, off, h1, h2, h3⟩ := h.pos (fun k => hne (by rw [k]; rfl))
  refine ⟨b, off, h1, fun p u hp => ?_⟩
  have hlt : p < l.length := by have := (List.getElem?_eq_some_iff.1 hp).1; rw [bytes_n] at this; omega
  rw [h3 p hlt, ← hp]
  simp [Lib.byteCells, List.getD_eq_getElem?_getD, hlt]
theorem rc_words {w : World} {so : Option Addr} {l : List Nat} (h : Rd w so l) : Rc w so (jn l) := fun hne => by
  obtain ⟨b, off, h1, h2, h3⟩ := h.pos (fun k => hne (by rw [k]; rfl))
  refine ⟨b, off, h1, fun p u hp => ?_⟩
  have hlt : p < l.length := by have := (List.getElem?_eq_some_iff.1 hp).1; rw [words_n] at this; omega
  rw [h3 p hlt, ← hp]
  simp [jn, List.getD_eq_getElem?_getD, hlt]
theorem row_cap {w : World} {B : Nat} {e : TypeId} {sz n cap : Nat} {so : Option Addr} {xs : List Value} (h : w.ownsRow B e sz (.slice so n cap) n xs) : n ≤ cap := by
  rcases h.2 with ⟨e1, e2⟩ | ⟨g, cap', cur, e1, hg, hc, h1, _⟩
  · cases e1; exact Nat.le_refl _
  · cases e1; exact h1
theorem row_max {w : World} {B : Nat} {e : TypeId} {sz n cap : Nat} {so : Option Addr} {xs : List Value} (h : w.ownsRow B e sz (.slice so n cap) n xs) : cap ≤ 9223372036854775807 := by
  rcases h.2 with ⟨e1, e2⟩ | ⟨g, cap', cur, e1, hg, hc, h1, h2, _⟩
  · cases e1; decide
  · cases e1; refine Nat.le_trans h2 ?_; decide
theorem sc_row {w : World} {B : Nat} {e : TypeId} {cap : Nat} {so : Option Addr} {l : List Nat} (hd : Dig l) (h : w.ownsRow B e 1 (.slice so l.length cap) l.length (jn l)) : Sc w so cap l := by
  refine ⟨⟨hd, fun hne => ?_⟩, fun e0 => ?_, row_cap h⟩
  · rcases h.2 with ⟨e1, e2⟩ | ⟨g, cap', cur, e1, hg, hc, h1, _⟩
    · exact absurd (List.length_eq_zero_iff.1 e2) hne
    · cases e1
      refine ⟨g, 0, rfl, (Array.getElem?_eq_some_iff.1 hc).1, fun j hj => ?_⟩
      rw [Nat.zero_add, World.ownsRow.cellAt h j (by omega)]
      simp [jn, List.getD_eq_getElem?_getD, hj]
  · rcases h.2 with ⟨e1, e2⟩ | ⟨g, cap', cur, e1, _⟩
    · simp only [Value.slice.injEq] at e1; exact e1.2.2
    · cases e1; cases e0
theorem jr {w : World} {B : Nat} {e : TypeId} {sz : Nat} {v : Value} {n : Nat} {xs : List Value} (h : w.ownsRow B e sz v n xs) : ∃ so cap, v = .slice so n cap := by
  rcases h.2 with ⟨rfl, rfl⟩ | ⟨g, cap, cur, rfl, _⟩
  · exact ⟨none, 0, rfl⟩
  · exact ⟨_, cap, rfl⟩
theorem row_open {w : World} {B : Nat} {e : TypeId} {sz : Nat} {v : Value} {n : Nat} {xs : List Value} (h : w.ownsRow B e sz v n xs) (hn : n ≠ 0) : ∃ g cap, v = .slice (some ⟨g, 0, none⟩) n cap := by
  rcases h.2 with ⟨rfl, rfl⟩ | ⟨g, cap, cur, rfl, _⟩
  · exact absurd rfl hn
  · exact ⟨g, cap, rfl⟩
/-- New data, apart from a block. -/
def CsOk (B : Nat) (g : Nat) (w : World) (cs : List Dt) : Prop := ∀ t ∈ cs, t.rd w ∧ t.at_ (fun b => B ≤ b ∧ b ≠ g)
theorem csok_nil {B g : Nat} {w : World} : CsOk B g w [] := fun t h => by cases h
theorem CsOk.below {B g : Nat} {w w' : World} {cs : List Dt} (h : CsOk B g w cs) (hb : Below w.heap.size w w') : CsOk B g w' cs := fun t ht => ⟨Dt.keep hb _ (h t ht).1, (h t ht).2⟩
theorem CsOk.new {B g g' : Nat} {w w' w'' : World} {cs : List Dt} (h : CsOk B g w cs) (hg : w.heap.size ≤ g') (hb : Below w.heap.size w w') (hk : Kept (· ≠ g') w' w'') : CsOk B g w'' cs := fun t ht => ⟨Dt.kept hk _ (Dt.keep hb _ (h t ht).1) (Dt.at_mono (fun b hb' => by intro e; omega) _ (Dt.at_lt _ (h t ht).1)), (h t ht).2⟩
theorem CsOk.snoc {B g : Nat} {w w' : World} {cs : List Dt} {t : Dt} (h : CsOk B g w cs) (hr : t.rd w) (ha : t.at_ (fun b => B ≤ b ∧ b ≠ g)) (hk : Kept (· ≠ g) w w') : CsOk B g w' (cs ++ [t]) := fun u hu => by
  rcases List.mem_append.1 hu with h1 | h1
  · exact ⟨Dt.kept hk _ (h u h1).1 (Dt.at_mono (fun b hb => hb.2) _ (h u h1).2), (h u h1).2⟩
  · rw [List.mem_singleton.1 h1]
    exact ⟨Dt.kept hk _ hr (Dt.at_mono (fun b hb => hb.2) _ ha), ha⟩
theorem at_row {ts cs : List Dt} {i : Nat} (hl : cs.length = i) (hi : i < ts.length) : ∃ t, ts[i]? = some t ∧ t ∈ ts ∧ (cs ++ ts.drop i)[i]? = some t := by
  have ht := List.getElem?_eq_getElem hi
  refine ⟨ts[i], ht, List.getElem_mem hi, ?_⟩
  rw [List.getElem?_append_right (by omega), List.getElem?_drop, hl, Nat.sub_self, Nat.add_zero, ht]
theorem set_row {ts cs : List Dt} {i : Nat} (t : Dt) (hl : cs.length = i) (hi : i < ts.length) : (cs ++ ts.drop i).set i t = (cs ++ [t]) ++ ts.drop (i + 1) := by
  rw [List.set_append_right _ _ (by omega), hl, Nat.sub_self, List.drop_eq_getElem_cons hi, List.set_cons_zero, List.append_assoc]
  rfl
theorem tr_snoc {ts cs : List Dt} {i : Nat} {t u : Dt} (h : cs.map Dt.tr = (ts.take i).map Dt.tr) (hi : ts[i]? = some t) (hu : u.tr = t.tr) : (cs ++ [u]).map Dt.tr = (ts.take (i + 1)).map Dt.tr := by
  obtain ⟨hl, rfl⟩ := List.getElem?_eq_some_iff.1 hi
  rw [List.map_append, h, List.take_succ_eq_append_getElem hl, List.map_append, List.map_singleton, List.map_singleton, hu]
theorem ub {ts : List Dt} {t : Dt} (h : t ∈ ts) : t.tr.bulk ≤ Tr.bulks (ts.map Dt.tr) := ut (List.mem_map_of_mem h)
theorem vr : ∀ ts : List Dt, ts.length ≤ Tr.bulks (ts.map Dt.tr)
  | [] => Nat.le_refl _
  | t :: ts => by
    have := vr ts
    have h2 : 1 ≤ t.tr.bulk := by cases t; rw [Dt.tr_mk, vd]; omega
    rw [List.map_cons, Tr.bulks, List.length_cons]; omega
theorem bulk_parts {d : Nd} {ts : List Dt} : (Dt.mk d ts).tr.bulk = d.s.size + d.rl.length + (d.y.q.t1.length + d.y.q.q1.length + (d.y.q.t2.length + d.y.q.q2.length)) + 1 + Tr.bulks (ts.map Dt.tr) := by rw [Dt.tr_mk, vd]
theorem ky (t : Dt) : t.cells.all Value.oneCell' = true := List.all_eq_true.2 (qgh t)
theorem over_row {ts : List Dt} {i : Nat} {t : Dt} {us : List Dt} (h : i < ts.length) (he : ts.set i t = us) : over (cellsOf ts) (i * 11) (t.d.cells t.ts.length) = cellsOf us := he ▸ qlf t h
/-- The empty list, and nothing. -/
def nilD : Dt := .mk ⟨1, 0, ⟨Q6.zero, none, 0, none, 0, none, 0, none, 0⟩, ⟨#[]⟩, none, 0, [], none, 0⟩ []
def qs : Dt := .mk ⟨0, 0, ⟨Q6.zero, none, 0, none, 0, none, 0, none, 0⟩, ⟨#[]⟩, none, 0, [], none, 0⟩ []
def nilT : Tr := .mk 1 0 Q6.zero ⟨#[]⟩ [] []
def qlg : Tr := .mk 0 0 Q6.zero ⟨#[]⟩ [] []
theorem nilD_tr : nilD.tr = nilT := by unfold nilD nilT; rw [Dt.tr_mk]; rfl
theorem qlh : qs.tr = qlg := by unfold qs qlg; rw [Dt.tr_mk]; rfl
theorem ux : LenQ Q6.zero := ⟨by decide, by decide, by decide, by decide⟩
theorem bare_rd (w : World) (k : Int) (h0 : -9223372036854775808 ≤ k) (h1 : k ≤ 9223372036854775807) : (Dt.mk ⟨k, 0, ⟨Q6.zero, none, 0, none, 0, none, 0, none, 0⟩, ⟨#[]⟩, none, 0, [], none, 0⟩ []).rd w :=
  Dt.rd_iff.2 ⟨⟨⟨Sc.none w, Sc.none w, Sc.none w, Sc.none w⟩, ux, ⟨fun h => absurd rfl h⟩, Nat.le_refl _, by show (0 : Nat) ≤ _; omega, h0, h1, by show (-9223372036854775808 : Int) ≤ 0; omega, by show (0 : Int) ≤ 9223372036854775807; omega, by show (0 : Nat) ≤ _; omega⟩, Nat.le_refl _, by show (0 : Nat) ≤ _; omega, fun h => absurd rfl h, fun t h => by cases h⟩
theorem nilD_rd (w : World) : nilD.rd w := bare_rd w 1 (by decide) (by decide)
theorem qli (w : World) : qs.rd w := bare_rd w 0 (by decide) (by decide)
theorem bare_at (p : Nat → Prop) (k : Int) : (Dt.mk ⟨k, 0, ⟨Q6.zero, none, 0, none, 0, none, 0, none, 0⟩, ⟨#[]⟩, none, 0, [], none, 0⟩ []).at_ p :=
  Dt.at_iff.2 ⟨⟨fun h => absurd rfl h, fun h => absurd rfl h, fun h => absurd rfl h, fun h => absurd rfl h, fun h => absurd rfl h⟩, fun h => absurd rfl h, fun t h => by cases h⟩
theorem qlj (p : Nat → Prop) : qs.at_ p := bare_at p 0
/-- Items, one behind the other, and what stands behind them. -/
def zu : List Tr → Tr → Tr
  | [], z => z
  | t :: ts, z => .mk 8 0 Q6.zero ⟨#[]⟩ [] [t, zu ts z]
theorem qaf : ∀ (a b : List Tr) (z : Tr), zu (a ++ b) z = zu a (zu b z)
  | [], _, _ => rfl
  | t :: a, b, z => by rw [List.cons_append, zu, zu, qaf a b z]
theorem uy : ∀ (a : List Tr) (z : Tr), (zu a z).bulk = Tr.bulks a + a.length + z.bulk
  | [], z => by simp [zu, Tr.bulks]
  | t :: a, z => by
    rw [zu, vd, Tr.bulks, Tr.bulks, Tr.bulks, uy a z, Tr.bulks, List.length_cons]
    show 0 + 0 + (0 + 0 + (0 + 0)) + 1 + _ = _
    omega
theorem qdd : ∀ {a b : List Tr} {y z : Tr}, y.k ≠ 8 → z.k ≠ 8 → zu a y = zu b z → a = b ∧ y = z
  | [], [], y, z, _, _, h => ⟨rfl, h⟩
  | [], t :: b, y, z, hy, _, h => absurd (by rw [zu, zu] at h; rw [h]; rfl) hy
  | t :: a, [], y, z, _, hz, h => absurd (by rw [zu, zu] at h; rw [← h]; rfl) hz
  | t :: a, u :: b, y, z, hy, hz, h => by
    rw [zu, zu] at h
    injection h with _ _ _ _ _ h
    injection h with h1 h2
    injection h2 with h2 _
    obtain ⟨h3, h4⟩ := qdd hy hz h2
    exact ⟨by rw [h1, h3], h4⟩
open Classical in
/-- The items of a list. -/
noncomputable def jh (t : Tr) : Option (List Tr) := if h : ∃ xs, t = zu xs nilT then some (Classical.choose h) else none
theorem qag (xs : List Tr) : jh (zu xs nilT) = some xs := by
  have h : ∃ ys, zu xs nilT = zu ys nilT := ⟨xs, rfl⟩
  unfold jh
  rw [dif_pos h]
  have := Classical.choose_spec h
  rw [← (qdd (by decide) (by decide) this).1]
theorem asList_no {xs : List Tr} {z : Tr} (h8 : z.k ≠ 8) (h1 : z.k ≠ 1) : jh (zu xs z) = none := by
  unfold jh
  rw [dif_neg]
  rintro ⟨ys, h⟩
  obtain ⟨_, h2⟩ := qdd h8 (by decide) h
  exact h1 (by rw [h2]; rfl)
theorem qma {t : Tr} {xs : List Tr} (h : jh t = some xs) : t = zu xs nilT := by
  unfold jh at h
  by_cases hx : ∃ ys, t = zu ys nilT
  · rw [dif_pos hx] at h
    have := Classical.choose_spec hx
    rw [← Option.some.inj h]; exact this
  · rw [dif_neg hx] at h; cases h
/-! ### What a shape says -/
theorem qgi {b : Bool} {t q : List Nat} (h : qdb b t.length q.length = true) : b = false ∧ t = [] ∧ q = [] := by
  unfold qdb at h
  simp only [Bool.and_eq_true, Bool.not_eq_true', decide_eq_true_eq] at h
  exact ⟨h.1, List.length_eq_zero_iff.1 h.2.1, List.length_eq_zero_iff.1 h.2.2⟩
theorem qde {n : Int} {q : Q6} {s : ByteArray} {mr ml : Nat} (h : xe n q.b1 q.t1.length q.q1.length q.b2 q.t2.length q.q2.length s mr ml = true) : n = 0 ∧ q = Q6.zero ∧ s = ⟨#[]⟩ ∧ mr = 0 ∧ ml = 0 := by
  unfold xe at h
  simp only [Bool.and_eq_true, decide_eq_true_eq] at h
  obtain ⟨h1, h2, h3, h4, h5, h6⟩ := h
  obtain ⟨a1, a2, a3⟩ := qgi h2
  obtain ⟨b1, b2, b3⟩ := qgi h3
  refine ⟨h1, ?_, h4, h5, h6⟩
  cases q
  simp only at a1 a2 a3 b1 b2 b3
  subst a1 a2 a3 b1 b2 b3
  rfl
theorem shape_pair {n : Int} {q : Q6} {s : ByteArray} {rl : List UInt8} {ts : List Tr} (h : qh (.mk 8 n q s rl ts) = true) : n = 0 ∧ q = Q6.zero ∧ s = ⟨#[]⟩ ∧ rl = [] ∧ ts.length = 2 := by
  unfold qh jf at h
  simp at h
  obtain ⟨h1, h2⟩ := h
  obtain ⟨a, b, c, d, _⟩ := qde h2
  exact ⟨a, b, c, List.length_eq_zero_iff.1 d, h1⟩
theorem shape_nil {n : Int} {q : Q6} {s : ByteArray} {rl : List UInt8} {ts : List Tr} (h : qh (.mk 1 n q s rl ts) = true) : Tr.mk 1 n q s rl ts = nilT := by
  unfold qh jf at h
  simp at h
  obtain ⟨a, b, c, d, e⟩ := qde h
  rw [a, b, c, List.length_eq_zero_iff.1 d, List.length_eq_zero_iff.1 e]
  rfl
theorem all_kids {p : Tr → Bool} {ts : List Tr} : yg p ts = true ↔ ∀ t ∈ ts, jz p t = true := by
  induction ts with
  | nil => simp [yg]
  | cons t ts ih => simp [yg, ih]
theorem all_at {p : Tr → Bool} {t : Dt} (h : jz p t.tr = true) : p t.tr = true ∧ ∀ u ∈ t.ts, jz p u.tr = true := by
  cases t with
  | mk d ts =>
    rw [Dt.tr_mk, jz, Bool.and_eq_true, all_kids] at h
    refine ⟨by rw [Dt.tr_mk]; exact h.1, fun u hu => h.2 _ (List.mem_map_of_mem hu)⟩
/-- A pair of a sound tree, taken apart. -/
theorem pair_at {t : Dt} (h : jz qh t.tr = true) (hk : t.d.k = 8) : t.ts.length = 2 ∧ ∀ a b, t.ts[0]? = some a → t.ts[1]? = some b → t.tr = .mk 8 0 Q6.zero ⟨#[]⟩ [] [a.tr, b.tr] := by
  have h1 := (all_at h).1
  cases t with
  | mk d ts =>
    rw [Dt.tr_mk] at h1 ⊢
    simp only [Dt.d] at hk
    rw [hk] at h1 ⊢
    obtain ⟨a1, a2, a3, a4, a5⟩ := shape_pair h1
    rw [List.length_map] at a5
    refine ⟨a5, fun a b ha hb => ?_⟩
    rw [a1, a2, a3, a4]
    simp only [Dt.ts] at ha hb a5
    match ts, a5 with
    | [x, y], _ =>
      simp at ha hb
      rw [ha, hb]
      rfl
theorem nil_at {t : Dt} (h : jz qh t.tr = true) (hk : t.d.k = 1) : t.tr = nilT := by
  have h1 := (all_at h).1
  cases t with
  | mk d ts =>
    rw [Dt.tr_mk] at h1 ⊢
    simp only [Dt.d] at hk
    rw [hk] at h1 ⊢
    exact shape_nil h1
theorem tr_k (t : Dt) : t.tr.k = t.d.k := by cases t; rw [Dt.tr_mk]; rfl
/-! ### Slices of data, and what is found in them -/
theorem kidL {w : World} {so : Option Addr} {ts : List Dt} (hR : Rt w so ts) (hD : ∀ t ∈ ts, t.rd w) {i : Nat} (hi : i < ts.length) : ∃ t b o, ts[i]? = some t ∧ t ∈ ts ∧ t.rd w ∧ so = some ⟨b, o, none⟩ ∧ Here w b (o + i * 11) (t.d.cells t.ts.length) := by
  obtain ⟨b, o, e, h2⟩ := hR (fun k => by subst k; simp at hi)
  have ht := List.getElem?_eq_getElem hi
  exact ⟨ts[i], b, o, ht, List.getElem_mem hi, hD _ (List.getElem_mem hi), e, h2 i _ ht⟩
/-- Where the first such one stands, or -1. -/
def qmb (p : Dt → Bool) (ts : List Dt) : Int := if ts.any p = true then (ts.findIdx p : Int) else -1
theorem idx_hit {p : Dt → Bool} {ts : List Dt} {i : Nat} {t : Dt} (h : ∀ j u, j < i → ts[j]? = some u → p u = false) (hi : ts[i]? = some t) (hp : p t = true) : qmb p ts = i := by
  obtain ⟨hl, e⟩ := List.getElem?_eq_some_iff.1 hi
  unfold qmb
  rw [if_pos (List.any_eq_true.2 ⟨t, List.mem_of_getElem? hi, hp⟩)]
  congr 1
  rw [List.findIdx_eq hl]
  refine ⟨by rw [e]; exact hp, fun j hj => h j _ hj (List.getElem?_eq_getElem _)⟩
theorem idx_miss {p : Dt → Bool} {ts : List Dt} (h : ∀ j u, j < ts.length → ts[j]? = some u → p u = false) : qmb p ts = -1 := by
  unfold qmb
  rw [if_neg]
  intro k
  obtain ⟨t, ht, hp⟩ := List.any_eq_true.1 k
  obtain ⟨j, hj⟩ := List.mem_iff_getElem?.1 ht
  rw [h j t (List.getElem?_eq_some_iff.1 hj).1 hj] at hp
  cases hp
theorem idx_pos (p : Dt → Bool) (ts : List Dt) : decide (0 ≤ qmb p ts) = ts.any p := by
  unfold qmb
  by_cases h : ts.any p = true
  · rw [if_pos h, h]; exact decide_eq_true (by omega)
  · rw [if_neg h, Bool.eq_false_iff.2 h]; rfl
/-- A function that is asked of data: what it answers; it changes nothing. -/
structure Asks (P : Program) (f : FuncId) (cs : List Value) (w0 : World) (ts : List Dt) (p : Dt → Bool) : Prop where
  inv : ∀ (us : Array Value) (w : World), (callFunc f us).run P w = .ok (.enter f us) w
  run : ∀ (t : Dt) (w : World), t ∈ ts → Below w0.heap.size w0 w → Calls P f ([Value.agg (t.d.cells t.ts.length).toArray] ++ cs).toArray w fun e w' => e = .returned (.bool (p t)) ∧ Below w.heap.size w w'
theorem asList_nil {t : Dt} {xs : List Tr} {p : Dt} (h : t.tr = zu xs p.tr) (hs : jz qh p.tr = true) (hk : p.d.k = 1) : jh t.tr = some xs := by
  rw [h, nil_at hs hk, qag]
theorem asList_not {t : Dt} {xs : List Tr} {p : Dt} (h : t.tr = zu xs p.tr) (h8 : p.d.k ≠ 8) (h1 : p.d.k ≠ 1) : jh t.tr = none := by
  rw [h, asList_no (by rw [tr_k]; exact h8) (by rw [tr_k]; exact h1)]
/-- One pair further. -/
theorem link_step {t : Dt} {xs : List Dt} {p a b : Dt} (h : t.tr = zu (xs.map Dt.tr) p.tr) (hs : jz qh p.tr = true) (hk : p.d.k = 8) (ha : p.ts[0]? = some a) (hb : p.ts[1]? = some b) : t.tr = zu ((xs ++ [a]).map Dt.tr) b.tr := by
  rw [h, (pair_at hs hk).2 a b ha hb, List.map_append, qaf]
  rfl
theorem mem_snoc {p : Dt → Prop} {xs : List Dt} {a : Dt} (h : ∀ x ∈ xs, p x) (ha : p a) : ∀ x ∈ xs ++ [a], p x := fun x hx => by
  rcases List.mem_append.1 hx with k | k
  · exact h x k
  · rw [List.mem_singleton.1 k]; exact ha
theorem qgj {t : Tr} (h : qz qh t = true) : jz qh t = true := by unfold qz at h; rw [Bool.and_eq_true] at h; exact h.2
theorem bulk_one (t : Dt) : 1 ≤ t.tr.bulk := by cases t; rw [Dt.tr_mk, vd]; omega
/-! ### Lists that are joined -/
/-! ### A new pair -/
def ud (g : Nat) (x z : Dt) : Dt := .mk ⟨8, 0, ⟨Q6.zero, none, 0, none, 0, none, 0, none, 0⟩, ⟨#[]⟩, none, 0, [], some ⟨g, 0, none⟩, 2⟩ [x, z]
theorem qmc (g : Nat) (x z : Dt) : (ud g x z).d.cells (ud g x z).ts.length = [.int .i64 8, .int .i64 0, .bool false, .slice none 0 0, .slice none 0 0, .bool false, .slice none 0 0, .slice none 0 0, .string ⟨#[]⟩, .slice none 0 0, .slice (some ⟨g, 0, none⟩) 2 2] := rfl
theorem pairD_tr (g : Nat) (x z : Dt) : (ud g x z).tr = .mk 8 0 Q6.zero ⟨#[]⟩ [] [x.tr, z.tr] := by unfold ud; rw [Dt.tr_mk]; rfl
theorem ndok_pair (w : World) (lo : Option Addr) (lc : Nat) : NdOk w ⟨8, 0, ⟨Q6.zero, none, 0, none, 0, none, 0, none, 0⟩, ⟨#[]⟩, none, 0, [], lo, lc⟩ :=
  ⟨⟨Sc.none w, Sc.none w, Sc.none w, Sc.none w⟩, ux, ⟨fun h => absurd rfl h⟩, Nat.le_refl _, by show (0 : Nat) ≤ _; omega, by show (-9223372036854775808 : Int) ≤ 8; omega, by show (8 : Int) ≤ 9223372036854775807; omega, by show (-9223372036854775808 : Int) ≤ 0; omega, by show (0 : Int) ≤ 9223372036854775807; omega, by show (0 : Nat) ≤ _; omega⟩
theorem pairD_rd {w : World} {g : Nat} {x z : Dt} (hg : g < w.heap.size) (hc : ∀ p v, (cellsOf [x, z])[p]? = some v → w.cell? ⟨g, p, none⟩ = some v) (hx : x.rd w) (hz : z.rd w) : (ud g x z).rd w := by
  unfold ud
  refine Dt.rd_iff.2 ⟨ndok_pair w _ _, Nat.le_refl _, by show (2 : Nat) ≤ _; omega, fun _ => ⟨g, 0, rfl, fun i t hi => ⟨hg, fun j v hj => ?_⟩⟩, fun t ht => ?_⟩
  · rw [Nat.zero_add]
    exact hc _ _ (yz hi hj)
  · rcases List.mem_cons.1 ht with h | h
    · rw [h]; exact hx
    · rw [List.mem_singleton.1 h]; exact hz
theorem pairD_at {p : Nat → Prop} {g : Nat} {x z : Dt} (hg : p g) (hx : x.at_ p) (hz : z.at_ p) : (ud g x z).at_ p := by
  unfold ud
  refine Dt.at_iff.2 ⟨⟨fun h => absurd rfl h, fun h => absurd rfl h, fun h => absurd rfl h, fun h => absurd rfl h, fun h => absurd rfl h⟩, fun _ b o e => ?_, fun t ht => ?_⟩
  · cases e; exact hg
  · rcases List.mem_cons.1 ht with h | h
    · rw [h]; exact hx
    · rw [List.mem_singleton.1 h]; exact hz
/-- The cells of these blocks stand there, too. -/
def Seen (p : Nat → Prop) (w w' : World) : Prop := ∀ b i v, p b → w.cell? ⟨b, i, none⟩ = some v → w'.cell? ⟨b, i, none⟩ = some v
theorem rd_seen {p : Nat → Prop} {w w' : World} {so : Option Addr} {l : List Nat} (h : Rd w so l) (hi : In p so l) (hk : Seen p w w') : Rd w' so l := by
  refine ⟨h.dig, fun hne => ?_⟩
  obtain ⟨b, off, h1, h2, h3⟩ := h.pos hne
  have h4 : ∀ j, j < l.length → w'.cell? ⟨b, off + j, none⟩ = some (.int .u32 ((l.getD j 0 : Nat) : Int)) := fun j hj => hk _ _ _ (hi hne _ _ h1) (h3 j hj)
  exact ⟨b, off, h1, cell_lt (h4 0 (List.length_pos_iff.2 hne)), h4⟩
theorem rb_seen {p : Nat → Prop} {w w' : World} {so : Option Addr} {l : List UInt8} (h : Rb w so l) (hi : In p so l) (hk : Seen p w w') : Rb w' so l := by
  refine ⟨fun hne => ?_⟩
  obtain ⟨b, off, h1, h2, h3⟩ := h.pos hne
  exact ⟨b, off, h1, cell_lt (hk _ _ _ (hi hne _ _ h1) (h3 0 (List.length_pos_iff.2 hne))), fun j hj => hk _ _ _ (hi hne _ _ h1) (h3 j hj)⟩
theorem qcd {p : Nat → Prop} {w w' : World} {so : Option Addr} {c : Nat} {l : List Nat} (h : Sc w so c l) (hi : In p so l) (hk : Seen p w w') : Sc w' so c l := ⟨rd_seen h.rd hi hk, h.nil, h.cap⟩
theorem NdOk.seen {p : Nat → Prop} {w w' : World} {d : Nd} (h : NdOk w d) (hi : d.at_ p) (hk : Seen p w w') : NdOk w' d := { h with num := ⟨qcd h.num.s1 hi.i1 hk, qcd h.num.s2 hi.i2 hk, qcd h.num.s3 hi.i3 hk, qcd h.num.s4 hi.i4 hk⟩, raw := rb_seen h.raw hi.i5 hk }
theorem Rt.seen {p : Nat → Prop} {w w' : World} {lo : Option Addr} {ts : List Dt} (h : Rt w lo ts) (hi : In p lo ts) (hk : Seen p w w') : Rt w' lo ts := fun hne => by
  obtain ⟨b, o, e, h2⟩ := h hne
  refine ⟨b, o, e, fun i t hi' => ?_⟩
  have h4 : ∀ j v, t.cells[j]? = some v → w'.cell? ⟨b, o + i * 11 + j, none⟩ = some v := fun j v hj => hk _ _ _ (hi hne _ _ e) ((h2 i t hi').2 j v hj)
  exact ⟨cell_lt (h4 0 _ rfl), h4⟩
theorem Dt.seen {p : Nat → Prop} {w w' : World} (hk : Seen p w w') : ∀ t : Dt, t.rd w → t.at_ p → t.rd w' :=
  Dt.indT fun d ts ih h hi => by
    rw [Dt.rd_iff] at h ⊢
    rw [Dt.at_iff] at hi
    exact ⟨h.1.seen hi.1 hk, h.2.1, h.2.2.1, h.2.2.2.1.seen hi.2.1 hk, fun t ht => ih t ht (h.2.2.2.2 t ht) (hi.2.2 t ht)⟩
/-- A datum stands wherever these pieces stand. -/
def Lives (T : List Ck) (t : Dt) : Prop := ∀ w0 w, Mg w0 w T → t.rd w
theorem Lives.sub {T T' : List Ck} {t : Dt} (h : Lives T t) (hs : T.Sublist T') : Lives T' t := fun w0 w hM => h w0 w (hM.sub hs)
theorem Lives.cons {T : List Ck} {t : Dt} (h : Lives T t) (c : Ck) : Lives (c :: T) t := h.sub (List.sublist_cons_self _ _)
theorem Mg.dropn {w0 w : World} {L : List Ck} (h : Mg w0 w L) (n : Nat) : Mg w0 w (L.drop n) := h.sub (List.drop_sublist _ _)
/-- So many blocks, from one on, as pieces. -/
def froz (w : World) : Nat → Nat → List Ck
  | _, 0 => []
  | k, n + 1 => match w.heap[k]? with
    | some o => .obj k o :: froz w (k + 1) n
    | none => froz w (k + 1) n
theorem vt {w : World} : ∀ {n k : Nat} {c : Ck}, c ∈ froz w k n → ∃ b o, c = .obj b o ∧ k ≤ b ∧ w.heap[b]? = some o
  | 0, k, c, h => by cases h
  | n + 1, k, c, h => by
    rw [froz] at h
    cases e : w.heap[k]? with
    | none =>
      rw [e] at h
      obtain ⟨b, o, h1, h2, h3⟩ := vt (n := n) h
      exact ⟨b, o, h1, by omega, h3⟩
    | some o =>
      rw [e] at h
      rcases List.mem_cons.1 h with h | h
      · exact ⟨k, o, h, Nat.le_refl _, e⟩
      · obtain ⟨b, o, h1, h2, h3⟩ := vt (n := n) h
        exact ⟨b, o, h1, by omega, h3⟩
theorem qdf {w : World} : ∀ {n k b : Nat} {o : Obj}, k ≤ b → b < k + n → w.heap[b]? = some o → Ck.obj b o ∈ froz w k n
  | 0, k, b, o, h1, h2, _ => by omega
  | n + 1, k, b, o, h1, h2, h => by
    rw [froz]
    by_cases e : k = b
    · subst e; rw [h]; exact List.mem_cons_self
    · have ih := qdf (n := n) (k := k + 1) (b := b) (o := o) (by omega) (by omega) h
      cases w.heap[k]? with
      | none => exact ih
      | some o' => exact List.mem_cons_of_mem _ ih
theorem uz {w : World} : ∀ (n k : Nat), (froz w k n).Pairwise Ap
  | 0, k => .nil
  | n + 1, k => by
    rw [froz]
    cases w.heap[k]? with
    | none => exact uz n (k + 1)
    | some o =>
      refine List.pairwise_cons.2 ⟨fun c hc => ?_, uz n (k + 1)⟩
      obtain ⟨b, o', rfl, h2, _⟩ := vt hc
      show k ≠ b
      omega
theorem froz_nob {w : World} {n k : Nat} : xl (froz w k n) := fun c hc b bs e => by
  obtain ⟨b', o', h, _⟩ := vt hc
  rw [h] at e; cases e
/-- What a call has made. -/
def made (w w' : World) : List Ck := froz w' w.heap.size (w'.heap.size - w.heap.size)
/-- What a call has made vn as it is. -/
theorem Mg.freeze {w0 w w' : World} {L : List Ck} (hM : Mg w0 w L) (hnb : xl L) (hb : Below w.heap.size w w') : Mg w0 w' (made w w' ++ L) := by
  have h2 := hM.call hb
  refine ⟨h2.bel, fun c hc => ?_, List.pairwise_append.2 ⟨uz _ _, h2.dis, fun c hc d hd => ?_⟩⟩
  · rcases List.mem_append.1 hc with h | h
    · obtain ⟨b, o, rfl, h3, h4⟩ := vt h
      exact ⟨Nat.le_trans hM.bel.size h3, h4⟩
    · exact h2.all c h
  · obtain ⟨b, o, rfl, h3, h4⟩ := vt hc
    have hl := Ck.lt (hM.all d hd)
    cases d with
    | obj g' o' => intro e; subst e; have := (hl b rfl).2; omega
    | row e' sz' v' n' xs' => intro e; have := (hl b e).2; omega
    | bld b' bs' => exact absurd rfl (hnb _ hd b' bs')
theorem kb {w w' : World} {t : Dt} (h : t.rd w') (ha : t.at_ (w.heap.size ≤ ·)) : Lives (made w w') t := fun w1 w2 hM => by
  have hlt := Dt.at_lt t h
  refine Dt.seen (p := fun b => w.heap.size ≤ b) (fun b i v hb hc => ?_) t h ha
  have h1 := cell_lt hc
  have h2 : w'.heap[b]? = some (w'.heap[b]'h1) := Array.getElem?_eq_getElem h1
  have h3 := (hM.all _ (qdf (w := w') (k := w.heap.size) (n := w'.heap.size - w.heap.size) hb (by show b < _; simp only at *; omega) h2)).2
  unfold World.cell? at hc ⊢
  simp only at hc ⊢
  rw [h3, ← h2]; exact hc
theorem zw {w w' : World} : xl (made w w') := froz_nob
theorem zt {L M : List Ck} (h : xl L) (k : xl M) : xl (L ++ M) := fun c hc => (List.mem_append.1 hc).elim (h c) (k c)
/-- .. between two parts of what there was. -/
theorem Mg.freezeAt {w0 w w' : World} {L : List Ck} (hM : Mg w0 w L) (n : Nat) (hnb : xl L) (hb : Below w.heap.size w w') : Mg w0 w' (L.take n ++ (made w w' ++ L.drop n)) := by
  refine (hM.freeze hnb hb).perm ?_
  rw [← List.append_assoc]
  refine List.Perm.trans ?_ (List.Perm.append_right _ List.perm_append_comm)
  rw [List.append_assoc, List.take_append_drop]
/-! ### Rows of structs -/
section
variable {α : Type} (f : α → List Value) (m : Nat)
def zh (xs : List α) : List Value := xs.flatMap f
variable {f m} (hf : ∀ x, (f x).length = m)
include hf in
theorem kp : ∀ xs : List α, (zh f xs).length = xs.length * m
  | [] => by simp [zh]
  | x :: xs => by
    have := kp xs
    unfold zh at this ⊢
    rw [List.flatMap_cons, List.length_append, hf, this, List.length_cons, Nat.add_mul, Nat.one_mul, Nat.add_comm]
theorem xf (a b : List α) : zh f (a ++ b) = zh f a ++ zh f b := List.flatMap_append
theorem catC_one (x : α) : zh f [x] = f x := by unfold zh; rw [List.flatMap_singleton]
include hf in
theorem qaa : ∀ (xs : List α) (i : Nat), (zh f xs).drop (i * m) = zh f (xs.drop i)
  | xs, 0 => by rw [Nat.zero_mul]; rfl
  | [], i + 1 => by simp [zh]
  | x :: xs, i + 1 => by
    have := qaa xs i
    rw [List.drop_succ_cons, ← this]
    unfold zh
    rw [List.flatMap_cons, show (i + 1) * m = (f x).length + i * m by rw [hf, Nat.add_mul, Nat.one_mul, Nat.add_comm], List.drop_append, List.drop_of_length_le (by omega), Nat.add_sub_cancel_left, List.nil_append]
include hf in
theorem qha : ∀ (xs : List α) (i : Nat), (zh f xs).take (i * m) = zh f (xs.take i)
  | xs, 0 => by rw [Nat.zero_mul]; rfl
  | [], i + 1 => by simp [zh]
  | x :: xs, i + 1 => by
    have := qha xs i
    rw [List.take_succ_cons]
    unfold zh at this ⊢
    rw [List.flatMap_cons, List.flatMap_cons, show (i + 1) * m = (f x).length + i * m by rw [hf, Nat.add_mul, Nat.one_mul, Nat.add_comm], List.take_length_add_append, this]
include hf in
theorem qce {xs : List α} {i : Nat} {x : α} (h : xs[i]? = some x) : ((zh f xs).drop (i * m)).take m = f x := by
  obtain ⟨hi, rfl⟩ := List.getElem?_eq_some_iff.1 h
  rw [qaa hf, List.drop_eq_getElem_cons hi]
  unfold zh
  rw [List.flatMap_cons, show m = (f xs[i]).length from (hf _).symm, List.take_left]
include hf in
theorem catC_set {xs : List α} {i : Nat} (x : α) (h : i < xs.length) : over (zh f xs) (i * m) (f x) = zh f (xs.set i x) := by
  rw [over_eq (by rw [kp hf, hf]; have := Nat.mul_le_mul_right m (show i + 1 ≤ xs.length by omega); rw [Nat.add_mul, Nat.one_mul] at this; exact this), hf, show i * m + m = (i + 1) * m by rw [Nat.add_mul, Nat.one_mul], qaa hf, qha hf, List.set_eq_take_append_cons_drop, if_pos h, xf]
  rw [show x :: xs.drop (i + 1) = [x] ++ xs.drop (i + 1) from rfl, xf, catC_one, List.append_assoc]
end
end Go.Proofs.YtdpakekdbkpdfaaGreatDoor.G
namespace Go.Proofs.YtdpakekdbkpdfaaGreatDoor.G.E
open Go.RowKit
set_option linter.unusedVariables false
set_option linter.unusedSimpArgs false
theorem cell_ltE {w : World} {b o : Nat} {v : Value} (h : w.cell? ⟨b, o, none⟩ = some v) : b < w.heap.size := by
  apply Classical.byContradiction
  intro k
  simp [World.cell?, Array.getElem?_eq_none (Nat.le_of_not_lt k)] at h
theorem qdg {α : Type} : ∀ (L : List α) (k : Nat) (c : α), L[k]? = some c → L.Perm (c :: L.eraseIdx k)
  | [], _, _, h => by simp at h
  | a :: t, 0, c, h => by cases h; exact .refl _
  | a :: t, k + 1, c, h => ((qdg t k c (by simpa using h)).cons a).trans (.swap c a _)
/-- A piece is put first. -/
theorem _root_.Go.Proofs.YtdpakekdbkpdfaaGreatDoor.G.Mg.bring {w0 w : World} {L L' : List Ck} (h : Mg w0 w L) (k : Nat) {c : Ck} (hk : L[k]? = some c) (hL : c :: L.eraseIdx k = L') : Mg w0 w L' := by
  subst hL
  exact h.perm (qdg L k c hk)
section
variable {P : Program} {w0 w : World} {L : List Ck} {l : List (Nat × Value)} {dst : Option Tmp} {ty : TypeId} {pos : String} {after : Array Edge} {guard : Option (Nat × Bool)} {v : Value}
/-- A slice reads as these cells, so many elements. -/
def Rc (w : World) (so : Option Addr) (cs : List Value) : Prop := cs ≠ [] → ∃ b off, so = some ⟨b, off, none⟩ ∧ ∀ p u, cs[p]? = some u → w.cell? ⟨b, off + p, none⟩ = some u
theorem Rc.below {w w' : World} {so : Option Addr} {cs : List Value} (h : Rc w so cs) (hb : Below w.heap.size w w') : Rc w' so cs := fun hne => by
  obtain ⟨b, off, e, h2⟩ := h hne
  exact ⟨b, off, e, fun p u hp => (hb.cell (cell_ltE (h2 p u hp))).trans (h2 p u hp)⟩
theorem xq {w : World} {B : Nat} {e : TypeId} {sz n cap : Nat} {so : Option Addr} {xs : List Value} (h : w.ownsRow B e sz (.slice so n cap) n xs) : Rc w so xs := fun hne => by
  rcases h.2 with ⟨e1, e2⟩ | ⟨g, cap', cur, e1, hg, hc, h1, h2, h3, h4⟩
  · subst e2; exact absurd (List.length_eq_zero_iff.1 (by rw [h.1]; simp)) hne
  · cases e1
    exact ⟨g, 0, rfl, fun p u hp => by rw [Nat.zero_add, World.ownsRow.cellAt h p (by have := (List.getElem?_eq_some_iff.1 hp).1; rw [h.1] at this; exact this)]; exact hp⟩
theorem vm {e t : TypeId} {sz by_ : Nat} {z : Value} {x y : Operand} (ht : P.underlying t = some (.slice e)) (hinfo : (P.info? e).map (fun i => (i.zero, i.size, i.bytes)) = some (some z, sz, by_)) (hzc : z.cells.size = sz) (hsz : Nat.ble 1 sz = true) (hby : Nat.ble 1 by_ = true) (hM : Mg w0 w L) (k : Nat) {q : Nat} {xs : List Value} (hk : L[k]? = some (.row e sz v q xs)) (hx : ev l x = some v) {so : Option Addr} {m c2 : Nat} {news : List Value} (hy : ev l y = some (.slice so m c2)) (hnl : news.length = m * sz) (hr : Rc w so news) (h1 : ∀ u ∈ news, u.oneCell' = true) (hlen : (q + m) * by_ ≤ 140737488355328) :
    ∃ v' w', Does P l ⟨dst, .call ⟨.builtin .append, #[x, y], #[t, t]⟩, ty, pos, after, guard⟩ w v' w' ∧ Mg w0 w' (L.set k (.row e sz v' (q + m) (xs ++ news))) := by
  obtain ⟨i, hi, hzz⟩ := Option.map_eq_some_iff.1 hinfo
  simp only [Prod.mk.injEq] at hzz
  obtain ⟨hz, hs, hb⟩ := hzz
  have hrow := hM.has k hk
  by_cases hm : m = 0
  · subst hm
    have h0 : news = [] := List.length_eq_zero_iff.1 (by rw [hnl]; simp)
    subst h0
    obtain ⟨so1, cap, hle, rfl⟩ : ∃ so1 cap, q ≤ cap ∧ v = .slice so1 q cap := by
      rcases hrow.2 with ⟨rfl, rfl⟩ | ⟨g, cap, cur, rfl, _, _, h, _⟩
      · exact ⟨none, 0, Nat.le_refl _, rfl⟩
      · exact ⟨_, cap, h, rfl⟩
    have h2 : (sizeOf e).run P w = .ok sz w := by simp [sizeOf, typeInfo, hi, hs]
    refine ⟨.slice so1 q cap, w, ?_, ?_⟩
    · intro ρ h
      cases so <;> cases so1 <;> simp [execOp, resolve, invoke, builtin, h x _ hx, h y _ hy, Builtin.append_, run_underlying ht, h2, Builtin.lenOf, Builtin.firstCells, loadCells, loadCellsFrom, storeCells, hle]
    · rw [show L.set k (.row e sz (.slice so1 q cap) (q + 0) (xs ++ [])) = L from by rw [List.append_nil]; exact qci hk]
      exact hM
  · have hne : news ≠ [] := fun e0 => by
      rw [e0] at hnl
      have h5 := Nat.le_of_ble_eq_true hsz
      have : 0 < m * sz := Nat.mul_pos (by omega) h5
      simp at hnl; omega
    obtain ⟨b, off, rfl, hcell⟩ := hr hne
    have hq : q + m ≤ (q + m) * by_ := Nat.le_mul_of_pos_right _ (Nat.le_of_ble_eq_true hby)
    obtain ⟨g, cap, w', hr, hown, hgr, hat, hlt⟩ := run_append_lies (P := P) w t ty w0.heap.size e i z sz by_ ht hi hz hs hb hzc (Nat.le_of_ble_eq_true hsz) v q xs hrow ⟨b, off, none⟩ m c2 news hnl (fun p u hp => by
        rw [jg]
        exact hcell p u hp) h1 (by omega) (by unfold maxLen; omega) hlen hM.bel.size w.heap.size rfl
    refine ⟨.slice (some ⟨g, 0, none⟩) (q + m) cap, w', fun ρ h => ?_, hM.turn k hk (by simp) hgr hown (fun d hd ha => ?_)⟩
    · simp [execOp, resolve, invoke, builtin, h x _ hx, h y _ hy, hr]
    · have hl := Ck.lt (hM.all d hd)
      have key : ∀ z, d.at_ = some z → v.ownBlock ≠ some z → g ≠ z := fun z hz hne e => by
        subst e
        rcases hat with h | h
        · exact hne h
        · have := (hl g hz).2; omega
      cases d with
      | obj g' o' => exact fun e => key g' rfl ha (by simpa [Value.ownBlock] using e)
      | row e' sz' v' n' xs' =>
        right
        intro e
        have e2 : v'.ownBlock = some g := e.symm
        rcases ha with ha | ha
        · exact key g e2 (by rw [ha]; simp) rfl
        · exact key g e2 (fun h => ha (h.trans e2.symm)) rfl
      | bld b' bs' => exact ⟨ha.1, fun e => key b' rfl ha.2 (by simpa [Value.ownBlock] using e)⟩

end
/-- Texts and truth values as cells. -/
def strC (l : List ByteArray) : List Value := l.map Value.string
def boolC (l : List Bool) : List Value := l.map Value.bool
abbrev Rs (w : World) (so : Option Addr) (l : List ByteArray) : Prop := Rc w so (strC l)
abbrev Rl (w : World) (so : Option Addr) (l : List Bool) : Prop := Rc w so (boolC l)
theorem Rs.at_ {w : World} {so : Option Addr} {l : List ByteArray} {i : Nat} (h : Rs w so l) (hi : i < l.length) : ∃ b off s, so = some ⟨b, off, none⟩ ∧ w.cell? ⟨b, off + i, none⟩ = some (.string s) ∧ l[i]? = some s := by
  obtain ⟨b, off, e, h2⟩ := h (fun k => by have := congrArg List.length k; simp [strC] at this; rw [this] at hi; exact absurd hi (Nat.not_lt_zero _))
  exact ⟨b, off, l[i], e, h2 i _ (by simp [strC, hi]), by simp [hi]⟩
theorem Rl.at_ {w : World} {so : Option Addr} {l : List Bool} {i : Nat} (h : Rl w so l) (hi : i < l.length) : ∃ b off s, so = some ⟨b, off, none⟩ ∧ w.cell? ⟨b, off + i, none⟩ = some (.bool s) ∧ l[i]? = some s := by
  obtain ⟨b, off, e, h2⟩ := h (fun k => by have := congrArg List.length k; simp [boolC] at this; rw [this] at hi; exact absurd hi (Nat.not_lt_zero _))
  exact ⟨b, off, l[i], e, h2 i _ (by simp [boolC, hi]), by simp [hi]⟩
/-- As the library's contracts say it. -/
theorem Rs.cells {w : World} {so : Option Addr} {l : List ByteArray} (h : Rs w so l) (hne : l ≠ []) : ∃ b off, so = some ⟨b, off, none⟩ ∧ ∀ j, j < l.length → w.cell? ⟨b, off + j, none⟩ = some (.string (l.getD j ByteArray.empty)) := by
  obtain ⟨b, off, e, h2⟩ := h (fun k => hne (by cases l with | nil => rfl | cons a t => cases k))
  exact ⟨b, off, e, fun j hj => h2 j _ (by simp [strC, hj])⟩
theorem jr {w : World} {B : Nat} {e : TypeId} {sz n : Nat} {v : Value} {xs : List Value} (h : w.ownsRow B e sz v n xs) : ∃ so ca, v = .slice so n ca := by
  rcases h.2 with ⟨rfl, rfl⟩ | ⟨g, cap, cur, rfl, _⟩
  · exact ⟨none, 0, rfl⟩
  · exact ⟨_, cap, rfl⟩
/-- A question that is asked of texts. -/
structure AskS (P : Program) (f : FuncId) (cs : List Value) (w0 : World) (p : ByteArray → Bool) : Prop where
  inv : ∀ (us : Array Value) (w : World), (callFunc f us).run P w = .ok (.enter f us) w
  run : ∀ (s : ByteArray) (w : World), Below w0.heap.size w0 w → Calls P f ([Value.string s] ++ cs).toArray w fun e w' => e = .returned (.bool (p s)) ∧ Below w.heap.size w w'
theorem AskS.below {P : Program} {f : FuncId} {cs : List Value} {w0 w1 : World} {p : ByteArray → Bool} (h : AskS P f cs w0 p) (hb : Below w0.heap.size w0 w1) : AskS P f cs w1 p := ⟨h.inv, fun s w k => h.run s w (hb.trans (k.mono hb.size))⟩
open Go.Lib Go.Sort Go.Proofs
def memS (l : List ByteArray) (bs : List Bool) : List ByteArray := ((l.zip bs).filter (·.2)).map (·.1)
theorem mem_map (l : List ByteArray) (f : ByteArray → Bool) : memS l (l.map f) = l.filter f := by
  unfold memS
  induction l with
  | nil => rfl
  | cons a t ih =>
    rw [List.map_cons, List.zip_cons_cons, List.filter_cons, List.filter_cons]
    by_cases h : f a = true
    · rw [if_pos h, if_pos h, List.map_cons, ih]
    · rw [if_neg h, if_neg h, ih]
/-! ### Twice -/
end Go.Proofs.YtdpakekdbkpdfaaGreatDoor.G.E
namespace Go.Proofs.YtdpakekdbkpdfaaGreatDoor.G
open Go.RowKit
set_option linter.unusedVariables false
set_option linter.unusedSimpArgs false

/-- A type with the slices that hold its fields. -/
structure Ty where
  nm : ByteArray
  par : Int
  fo : Option Addr
  fc : Nat
  fs : List ByteArray
  mo : Option Addr
  mc : Nat
  ms : List Bool
  sl : Bool
  op : Bool
  ui : ByteArray
def Ty.c (t : Ty) : List Value := [.string t.nm, .int .i64 t.par, .slice t.fo t.fs.length t.fc, .slice t.mo t.ms.length t.mc, .bool t.sl, .bool t.op, .string t.ui]
/-- What a type is, wherever it lies. -/
structure TK where
  nm : ByteArray
  par : Int
  fs : List ByteArray
  ms : List Bool
  sl : Bool
  op : Bool
  ui : ByteArray
def Ty.k (t : Ty) : TK := ⟨t.nm, t.par, t.fs, t.ms, t.sl, t.op, t.ui⟩
/-- A record with the slice that holds its values. -/
structure Rk where
  kd : Nat
  vo : Option Addr
  vc : Nat
  vs : List Dt
def Rk.c (r : Rk) : List Value := [.int .i64 ((r.kd : Nat) : Int), .slice r.vo r.vs.length r.vc]
def Rk.k (r : Rk) : Nat × List Tr := (r.kd, r.vs.map Dt.tr)
theorem ty_len (t : Ty) : t.c.length = 7 := rfl
theorem rk_len (r : Rk) : r.c.length = 2 := rfl
theorem kz {α : Type} {f : α → List Value} {m : Nat} (hf : ∀ x, (f x).length = m) (hm : 0 < m) {w : World} {so : Option Addr} {xs : List α} (h : Rc w so (zh f xs)) {i : Nat} {x : α} (hi : xs[i]? = some x) : ∃ b o, so = some ⟨b, o, none⟩ ∧ Here w b (o + i * m) (f x) := by
  have hl := (List.getElem?_eq_some_iff.1 hi).1
  have hlen := kp hf xs
  obtain ⟨b, o, e, h2⟩ := h (fun k => by
    rw [k] at hlen
    have : 0 < xs.length * m := Nat.mul_pos (by omega) hm
    simp only [List.length_nil] at hlen; omega)
  refine ⟨b, o, e, ?_⟩
  have key : ∀ (j : Nat) v, (f x)[j]? = some v → w.cell? ⟨b, o + i * m + j, none⟩ = some v := fun j v hj => by
    have hjm : j < m := by have := (List.getElem?_eq_some_iff.1 hj).1; rw [hf] at this; exact this
    have h4 := qce hf hi
    rw [← h4, List.getElem?_take, if_pos hjm, List.getElem?_drop] at hj
    rw [Nat.add_assoc]
    exact h2 _ v hj
  have h0 : (f x)[0]? = some ((f x)[0]'(by rw [hf]; exact hm)) := List.getElem?_eq_getElem _
  exact ⟨cell_lt (key 0 _ h0), key⟩
/-- Types and records as they are read. -/
structure TyR (w : World) (t : Ty) : Prop where
  f : E.Rs w t.fo t.fs
  m : E.Rl w t.mo t.ms
theorem TyR.below {w w' : World} {t : Ty} (h : TyR w t) (hb : Below w.heap.size w w') : TyR w' t := ⟨h.f.below hb, h.m.below hb⟩
structure RkR (w : World) (r : Rk) : Prop where
  v : Rt w r.vo r.vs
  d : ∀ t ∈ r.vs, t.rd w
theorem RkR.below {w w' : World} {r : Rk} (h : RkR w r) (hb : Below w.heap.size w w') : RkR w' r := ⟨h.v.below hb, fun t ht => Dt.keep hb _ (h.d t ht)⟩
structure TR (w : World) (so : Option Addr) (ts : List Ty) : Prop where
  row : Rc w so (zh Ty.c ts)
  own : ∀ t ∈ ts, TyR w t
structure RR (w : World) (so : Option Addr) (rs : List Rk) : Prop where
  row : Rc w so (zh Rk.c rs)
  own : ∀ r ∈ rs, RkR w r
theorem TR.below {w w' : World} {so : Option Addr} {ts : List Ty} (h : TR w so ts) (hb : Below w.heap.size w w') : TR w' so ts := ⟨h.row.below hb, fun t ht => (h.own t ht).below hb⟩
theorem RR.below {w w' : World} {so : Option Addr} {rs : List Rk} (h : RR w so rs) (hb : Below w.heap.size w w') : RR w' so rs := ⟨h.row.below hb, fun t ht => (h.own t ht).below hb⟩
theorem TR.at_ {w : World} {so : Option Addr} {ts : List Ty} (h : TR w so ts) {i : Nat} (hi : i < ts.length) : ∃ t b o, ts[i]? = some t ∧ t ∈ ts ∧ TyR w t ∧ so = some ⟨b, o, none⟩ ∧ Here w b (o + i * 7) t.c := by
  have e : ts[i]? = some ts[i] := List.getElem?_eq_getElem hi
  obtain ⟨b, o, h1, h2⟩ := kz ty_len (by decide) h.row e
  exact ⟨ts[i], b, o, e, List.getElem_mem hi, h.own _ (List.getElem_mem hi), h1, h2⟩
theorem RR.at_ {w : World} {so : Option Addr} {rs : List Rk} (h : RR w so rs) {i : Nat} (hi : i < rs.length) : ∃ r b o, rs[i]? = some r ∧ r ∈ rs ∧ RkR w r ∧ so = some ⟨b, o, none⟩ ∧ Here w b (o + i * 2) r.c := by
  have e : rs[i]? = some rs[i] := List.getElem?_eq_getElem hi
  obtain ⟨b, o, h1, h2⟩ := kz rk_len (by decide) h.row e
  exact ⟨rs[i], b, o, e, List.getElem_mem hi, h.own _ (List.getElem_mem hi), h1, h2⟩
/-! Chains of parents -/
def chn (ps : List Int) : Nat → Int → List Int
  | 0, _ => []
  | n + 1, t => if t < 0 then [] else t :: chn ps n (ps.getD t.toNat (-1))
def chT (ps : List Int) (t : Int) : List Int := chn ps (t + 1).toNat t
/-- Each parent stands ahead of what comes from it. -/
def Wf (ps : List Int) : Prop := ∀ (i : Nat) (p : Int), ps[i]? = some p → -1 ≤ p ∧ p < ((i : Nat) : Int)
theorem Wf.at_ {ps : List Int} (h : Wf ps) {t : Int} (h0 : 0 ≤ t) : -1 ≤ ps.getD t.toNat (-1) ∧ ps.getD t.toNat (-1) < t := by
  rw [List.getD_eq_getElem?_getD]
  cases e : ps[t.toNat]? with
  | none => exact ⟨Int.le_refl _, by show -1 < t; omega⟩
  | some p =>
    have := h _ _ e
    show -1 ≤ p ∧ p < t
    omega
theorem chn_fuel {ps : List Int} (h : Wf ps) : ∀ (n m : Nat) (t : Int), -1 ≤ t → (t + 1).toNat ≤ n → (t + 1).toNat ≤ m → chn ps n t = chn ps m t
  | 0, 0, _, _, _, _ => rfl
  | 0, m + 1, t, h0, h1, h2 => by rw [chn, chn, if_pos (by omega)]
  | n + 1, 0, t, h0, h1, h2 => by rw [chn, chn, if_pos (by omega)]
  | n + 1, m + 1, t, h0, h1, h2 => by
    rw [chn, chn]
    by_cases ht : t < 0
    · rw [if_pos ht, if_pos ht]
    · rw [if_neg ht, if_neg ht]
      have := h.at_ (t := t) (by omega)
      rw [chn_fuel h n m _ this.1 (by omega) (by omega)]
theorem chT_end {ps : List Int} {t : Int} (h : t < 0) : chT ps t = [] := by
  unfold chT
  cases e : (t + 1).toNat with
  | zero => rfl
  | succ n => rw [chn, if_pos h]
theorem chT_step {ps : List Int} (hw : Wf ps) {t : Int} (h : 0 ≤ t) : chT ps t = t :: chT ps (ps.getD t.toNat (-1)) := by
  have := hw.at_ (t := t) h
  unfold chT
  rw [show (t + 1).toNat = t.toNat + 1 by omega, chn, if_neg (by omega), chn_fuel hw t.toNat (ps.getD t.toNat (-1) + 1).toNat _ this.1 (by omega) (Nat.le_refl _)]
theorem chn_len (ps : List Int) : ∀ (n : Nat) (t : Int), (chn ps n t).length ≤ n
  | 0, t => Nat.le_refl _
  | n + 1, t => by
    rw [chn]
    split
    · simp
    · have := chn_len ps n (ps.getD t.toNat (-1))
      simp only [List.length_cons]; omega
theorem chT_len (ps : List Int) (t : Int) : (chT ps t).length ≤ (t + 1).toNat := chn_len ps _ t
theorem chn_mem {ps : List Int} (hw : Wf ps) : ∀ (n : Nat) (t : Int), ∀ x ∈ chn ps n t, 0 ≤ x ∧ x ≤ t
  | 0, t, x, h => by cases h
  | n + 1, t, x, h => by
    rw [chn] at h
    split at h
    · cases h
    · rename_i ht
      rcases List.mem_cons.1 h with rfl | h
      · omega
      · have := hw.at_ (t := t) (by omega)
        have := chn_mem hw n _ x h
        omega
theorem chT_mem {ps : List Int} (hw : Wf ps) {t x : Int} (h : x ∈ chT ps t) : 0 ≤ x ∧ x ≤ t := chn_mem hw _ _ x h
/-! Rows of whole numbers, and what is found in rows -/
def inC (xs : List Int) : List Value := xs.map (.int .i64 ·)
theorem inC_append (a b : List Int) : inC (a ++ b) = inC a ++ inC b := List.map_append
theorem inC_one (l : List Int) : ∀ u ∈ inC l, u.oneCell' = true := by
  intro u hu
  obtain ⟨x, _, rfl⟩ := List.mem_map.1 hu
  rfl
theorem ri_at {w : World} {so : Option Addr} {l : List Int} (h : Rc w so (inC l)) {i : Nat} (hi : i < l.length) : ∃ b off z, so = some ⟨b, off, none⟩ ∧ w.cell? ⟨b, off + i, none⟩ = some (.int .i64 z) ∧ l[i]? = some z ∧ z ∈ l := by
  obtain ⟨b, off, e, h2⟩ := h (fun k => by have := congrArg List.length k; simp [inC] at this; rw [this] at hi; exact absurd hi (Nat.not_lt_zero _))
  exact ⟨b, off, l[i], e, h2 i _ (by simp [inC, hi]), by simp [hi], List.getElem_mem hi⟩
section
variable {P : Program} {w : World} {l : List (Nat × Value)} {dst : Option Tmp} {ty : TypeId} {pos : String} {after : Array Edge} {guard : Option (Nat × Bool)} {v : Value}
/-- What stands there now. -/
theorem qij {b o : Nat} (hc : w.cell? ⟨b, o, none⟩ = some v) {t : TypeId} (ht : Is1 P t) {x : Operand} (hx : ev l x = some (.pointer (some ⟨b, o, none⟩))) : Does P l ⟨dst, .load t x, ty, pos, after, guard⟩ w v w := jb hx (jw ht hc)
theorem m_loadHSC {b o n : Nat} {cs : List Value} (hH : Here w b o cs) {t : TypeId} (ht : IsS P t n) {x : Operand} (hx : ev l x = some (.pointer (some ⟨b, o, none⟩))) (hl : cs.length = n) : Does P l ⟨dst, .load t x, ty, pos, after, guard⟩ w (.agg cs.toArray) w := jb hx (jv ht cs hl fun j y hj => hH.2 j y hj)
end
def ixG {α : Type} (p : α → Bool) (l : List α) : Int := match l.findIdx? p with | some i => ((i : Nat) : Int) | none => -1
theorem ixG_hit {α : Type} {p : α → Bool} {l : List α} {i : Nat} {s : α} (hb : ∀ (j : Nat) u, j < i → l[j]? = some u → p u = false) (h : l[i]? = some s) (hp : p s = true) : ixG p l = ((i : Nat) : Int) := by
  obtain ⟨h1, h2⟩ := List.getElem?_eq_some_iff.1 h
  have : l.findIdx? p = some i := List.findIdx?_eq_some_iff_getElem.2 ⟨h1, by rw [h2]; exact hp, fun j hj => by rw [hb j _ hj (List.getElem?_eq_getElem (by omega))]; decide⟩
  unfold ixG
  rw [this]
theorem ixG_miss {α : Type} {p : α → Bool} {l : List α} (hb : ∀ (j : Nat) u, j < l.length → l[j]? = some u → p u = false) : ixG p l = -1 := by
  have : l.findIdx? p = none := by
    rw [List.findIdx?_eq_none_iff]
    intro x hx
    obtain ⟨i, hi, rfl⟩ := List.getElem_of_mem hx
    exact hb i _ hi (List.getElem?_eq_getElem hi)
  unfold ixG
  rw [this]
theorem ixG_any {α : Type} (p : α → Bool) (l : List α) : decide (0 ≤ ixG p l) = l.any p := by
  unfold ixG
  cases h : l.findIdx? p with
  | none =>
    rw [List.findIdx?_eq_none_iff] at h
    have : l.any p = false := by rw [List.any_eq_false]; intro x hx; rw [h x hx]; decide
    rw [this]; rfl
  | some i =>
    obtain ⟨h1, h2, _⟩ := List.findIdx?_eq_some_iff_getElem.1 h
    have : l.any p = true := List.any_eq_true.2 ⟨_, List.getElem_mem h1, h2⟩
    rw [this]
    simp
theorem ixG_at {α : Type} {p : α → Bool} {l : List α} (h : 0 ≤ ixG p l) : ∃ s, l[(ixG p l).toNat]? = some s ∧ p s = true := by
  unfold ixG at h ⊢
  cases e : l.findIdx? p with
  | none => rw [e] at h; exact absurd h (by decide)
  | some i =>
    obtain ⟨h1, h2, _⟩ := List.findIdx?_eq_some_iff_getElem.1 e
    exact ⟨l[i], List.getElem?_eq_getElem h1, h2⟩
theorem ixG_lt {α : Type} (p : α → Bool) (l : List α) : -1 ≤ ixG p l ∧ ixG p l < ((l.length : Nat) : Int) := by
  unfold ixG
  cases e : l.findIdx? p with
  | none => exact ⟨Int.le_refl _, by show (-1 : Int) < _; omega⟩
  | some i =>
    obtain ⟨h1, _⟩ := List.findIdx?_eq_some_iff_getElem.1 e
    exact ⟨by show (-1 : Int) ≤ ((i : Nat) : Int); omega, by show ((i : Nat) : Int) < _; omega⟩
theorem ixG_map {α β : Type} (f : α → β) (p : β → Bool) (l : List α) : ixG p (l.map f) = ixG (fun x => p (f x)) l := by unfold ixG; rw [List.findIdx?_map]; rfl
/-- A question that is asked of what a row holds. -/
structure AskG {α : Type} (v : α → Value) (P : Program) (f : FuncId) (cs : List Value) (w0 : World) (l : List α) (p : α → Bool) : Prop where
  inv : ∀ (us : Array Value) (w : World), (callFunc f us).run P w = .ok (.enter f us) w
  run : ∀ (x : α) (w : World), x ∈ l → Below w0.heap.size w0 w → Calls P f ([v x] ++ cs).toArray w fun e w' => e = .returned (.bool (p x)) ∧ Below w.heap.size w w'
theorem AskG.below {α : Type} {v : α → Value} {P : Program} {f : FuncId} {cs : List Value} {w0 w1 : World} {l : List α} {p : α → Bool} (h : AskG v P f cs w0 l p) (hb : Below w0.heap.size w0 w1) : AskG v P f cs w1 l p := ⟨h.inv, fun s w hs k => h.run s w hs (hb.trans (k.mono hb.size))⟩
/-- A store as it is read. -/
structure SR (w : World) (b : Nat) (tz : Option Addr) (tc : Nat) (ts : List Ty) (ro : Option Addr) (rc : Nat) (rs : List Rk) : Prop where
  c0 : w.cell? ⟨b, 0, none⟩ = some (.slice tz ts.length tc)
  c1 : w.cell? ⟨b, 1, none⟩ = some (.slice ro rs.length rc)
  T : TR w tz ts
  R : RR w ro rs
theorem SR.below {w w' : World} {b : Nat} {tz : Option Addr} {tc : Nat} {ts : List Ty} {ro : Option Addr} {rc : Nat} {rs : List Rk} (h : SR w b tz tc ts ro rc rs) (hb : Below w.heap.size w w') : SR w' b tz tc ts ro rc rs := ⟨(hb.cell (cell_lt h.c0)).trans h.c0, (hb.cell (cell_lt h.c1)).trans h.c1, h.T.below hb, h.R.below hb⟩
def okT (n : Nat) (t : Int) : Bool := decide (0 ≤ t) && decide (t < ((n : Nat) : Int))
theorem kj {n : Nat} {t : Int} (h : okT n t = true) : 0 ≤ t ∧ t < ((n : Nat) : Int) := by unfold okT at h; simpa using h
/-! What the calls answer -/
/-- A type: its name, its parent, how many fields it has of its own. -/
structure Kd where
  nm : ByteArray
  par : Int
  own : Int
def Kd.c (k : Kd) : List Value := [.string k.nm, .int .i64 k.par, .int .i64 k.own]
theorem kd_len (k : Kd) : k.c.length = 3 := rfl
def kds : List Kd := [
  ⟨⟨#[99, 111, 110, 100, 105, 116, 105, 111, 110]⟩, -1, 0⟩,
  ⟨⟨#[109, 101, 115, 115, 97, 103, 101]⟩, 0, 1⟩,
  ⟨⟨#[119, 97, 114, 110, 105, 110, 103]⟩, 0, 0⟩,
  ⟨⟨#[115, 101, 114, 105, 111, 117, 115]⟩, 0, 0⟩,
  ⟨⟨#[101, 114, 114, 111, 114]⟩, 3, 0⟩,
  ⟨⟨#[118, 105, 111, 108, 97, 116, 105, 111, 110]⟩, 3, 0⟩,
  ⟨⟨#[97, 115, 115, 101, 114, 116, 105, 111, 110]⟩, 5, 0⟩,
  ⟨⟨#[105, 114, 114, 105, 116, 97, 110, 116, 115]⟩, 0, 1⟩,
  ⟨⟨#[119, 104, 111]⟩, 0, 1⟩,
  ⟨⟨#[110, 111, 110, 45, 99, 111, 110, 116, 105, 110, 117, 97, 98, 108, 101]⟩, 5, 0⟩,
  ⟨⟨#[105, 109, 112, 108, 101, 109, 101, 110, 116, 97, 116, 105, 111, 110, 45, 114, 101, 115, 116, 114, 105, 99, 116, 105, 111, 110]⟩, 5, 0⟩,
  ⟨⟨#[108, 101, 120, 105, 99, 97, 108]⟩, 5, 0⟩,
  ⟨⟨#[115, 121, 110, 116, 97, 120]⟩, 5, 2⟩,
  ⟨⟨#[117, 110, 100, 101, 102, 105, 110, 101, 100]⟩, 5, 0⟩,
  ⟨⟨#[105, 47, 111]⟩, 4, 0⟩,
  ⟨⟨#[105, 47, 111, 45, 114, 101, 97, 100]⟩, 14, 0⟩,
  ⟨⟨#[105, 47, 111, 45, 119, 114, 105, 116, 101]⟩, 14, 0⟩,
  ⟨⟨#[105, 47, 111, 45, 102, 105, 108, 101, 110, 97, 109, 101]⟩, 14, 1⟩,
  ⟨⟨#[105, 47, 111, 45, 102, 105, 108, 101, 45, 100, 111, 101, 115, 45, 110, 111, 116, 45, 101, 120, 105, 115, 116]⟩, 17, 0⟩,
  ⟨⟨#[105, 47, 111, 45, 102, 105, 108, 101, 45, 97, 108, 114, 101, 97, 100, 121, 45, 101, 120, 105, 115, 116, 115]⟩, 17, 0⟩]
def ji : Kd := ⟨⟨#[]⟩, 0, 0⟩
def kat (t : Int) : Kd := if okT 20 t = true then kds.getD t.toNat ji else ji
theorem kat_no {t : Int} (h : okT 20 t = false) : kat t = ji := if_neg (by rw [h]; decide)
theorem qja {t : Int} (h : okT 20 t = true) : kat t = kds.getD t.toNat ji := if_pos h
theorem okT_of {n : Nat} {t : Int} (h0 : 0 ≤ t) (h1 : t < ((n : Nat) : Int)) : okT n t = true := by unfold okT; rw [decide_eq_true h0, decide_eq_true h1]; rfl
theorem okT_lo {n : Nat} {t : Int} (h0 : t < 0) : okT n t = false := by unfold okT; rw [decide_eq_false (by omega)]; rfl
theorem okT_hi {n : Nat} {t : Int} (h0 : ((n : Nat) : Int) ≤ t) : okT n t = false := by unfold okT; rw [decide_eq_false (show ¬ t < ((n : Nat) : Int) by omega), Bool.and_false]
theorem kds_at {t : Int} (h : okT 20 t = true) : kds[t.toNat]? = some (kat t) := by
  have h1 := kj h
  rw [qja h, List.getD_eq_getElem?_getD, List.getElem?_eq_getElem (show t.toNat < kds.length by show t.toNat < 20; omega)]
  rfl
def pC : List Int := [-1, 0, 0, 0, 3, 3, 5, 0, 0, 5, 5, 5, 5, 5, 4, 14, 14, 14, 17, 17]
theorem wfC : Wf pC := by
  intro i p h
  have hi := (List.getElem?_eq_some_iff.1 h).1
  have key : ∀ i, i < 20 → -1 ≤ pC.getD i 0 ∧ pC.getD i 0 < ((i : Nat) : Int) := by decide
  have := key i hi
  rw [List.getD_eq_getElem?_getD, h] at this
  exact this
theorem par_all : ∀ i, i < 20 → (kds.getD i ji).par = pC.getD i (-1) := by decide
theorem par_at {t : Int} (h : okT 20 t = true) : pC.getD t.toNat (-1) = (kat t).par := by
  have h1 := kj h
  rw [qja h, par_all _ (by omega)]
theorem par_rng {t : Int} (h : okT 20 t = true) : -1 ≤ (kat t).par ∧ (kat t).par < t := by
  have := wfC.at_ (kj h).1
  rwa [par_at h] at this
def chC (t : Int) : List Int := chT pC t
theorem chC_end : chC (-1) = [] := chT_end (by decide)
theorem chC_step {t : Int} (h : okT 20 t = true) : chC t = t :: chC (kat t).par := by
  unfold chC
  rw [chT_step wfC (kj h).1, par_at h]
theorem chC_mem {t x : Int} (h : okT 20 t = true) (hx : x ∈ chC t) : okT 20 x = true := by
  have h1 := chT_mem wfC hx
  have h2 := kj h
  exact okT_of h1.1 (by omega)
theorem qjb {t : Int} (h : okT 20 t = true) : (chC t).length ≤ 20 := by
  have h1 := chT_len pC t
  have h2 := kj h
  unfold chC
  omega
def ke (t o : Int) : Bool := (chC t).any fun z => o == z
def yb (t : Int) : Int := ((chC t).map fun x => (kat x).own).sum
theorem own_all : ∀ i, i < 20 → 0 ≤ (kds.getD i ji).own ∧ (kds.getD i ji).own ≤ 2 := by decide
theorem own_rng (t : Int) : 0 ≤ (kat t).own ∧ (kat t).own ≤ 2 := by
  unfold kat
  split
  · rename_i h
    exact own_all _ (by have := kj h; omega)
  · decide
theorem cnt_all : ∀ i, i < 20 → 0 ≤ yb ((i : Nat) : Int) ∧ yb ((i : Nat) : Int) ≤ 2 := by decide +kernel
theorem cnt_rng {t : Int} (h : okT 20 t = true) : 0 ≤ yb t ∧ yb t ≤ 2 := by
  have h1 := kj h
  have := cnt_all t.toNat (by omega)
  rwa [show ((t.toNat : Nat) : Int) = t by omega] at this
theorem sum_snoc {l : List Int} {i : Nat} {x : Int} (f : Int → Int) (h : l[i]? = some x) : ((l.take (i + 1)).map f).sum = ((l.take i).map f).sum + f x := by
  rw [List.take_add_one, h, Option.toList_some, List.map_append, List.sum_append]
  simp
theorem sum_rng {l : List Int} : 0 ≤ (l.map fun x => (kat x).own).sum ∧ (l.map fun x => (kat x).own).sum ≤ 2 * ((l.length : Nat) : Int) := by
  induction l with
  | nil => simp
  | cons x xs ih =>
    have := own_rng x
    simp only [List.map_cons, List.sum_cons, List.length_cons]
    omega
/-! Parts of conditions -/
structure Sp where
  ty : Int
  vo : Option Addr
  vc : Nat
  vs : List Dt
def Sp.c (p : Sp) : List Value := [.int .i64 p.ty, .slice p.vo p.vs.length p.vc]
def Sp.k (p : Sp) : Int × List Tr := (p.ty, p.vs.map Dt.tr)
theorem qdh (p : Sp) : p.c.length = 2 := rfl
theorem qjc (ps : List Sp) : ∀ u ∈ zh Sp.c ps, u.oneCell' = true := by
  intro u hu
  unfold zh at hu
  obtain ⟨t, _, ht⟩ := List.mem_flatMap.1 hu
  unfold Sp.c at ht
  simp only [List.mem_cons, List.not_mem_nil, or_false] at ht
  rcases ht with h | h <;> subst h <;> rfl
structure SpR (w : World) (p : Sp) : Prop where
  v : Rt w p.vo p.vs
  d : ∀ t ∈ p.vs, t.rd w
theorem SpR.below {w w' : World} {p : Sp} (h : SpR w p) (hb : Below w.heap.size w w') : SpR w' p := ⟨h.v.below hb, fun t ht => Dt.keep hb _ (h.d t ht)⟩
structure PR (w : World) (so : Option Addr) (ps : List Sp) : Prop where
  row : Rc w so (zh Sp.c ps)
  own : ∀ p ∈ ps, SpR w p
theorem PR.below {w w' : World} {so : Option Addr} {ps : List Sp} (h : PR w so ps) (hb : Below w.heap.size w w') : PR w' so ps := ⟨h.row.below hb, fun t ht => (h.own t ht).below hb⟩
theorem PR.at_ {w : World} {so : Option Addr} {ps : List Sp} (h : PR w so ps) {i : Nat} (hi : i < ps.length) : ∃ p b o, ps[i]? = some p ∧ p ∈ ps ∧ SpR w p ∧ so = some ⟨b, o, none⟩ ∧ Here w b (o + i * 2) p.c := by
  have e : ps[i]? = some ps[i] := List.getElem?_eq_getElem hi
  obtain ⟨b, o, h1, h2⟩ := kz qdh (by decide) h.row e
  exact ⟨ps[i], b, o, e, List.getElem_mem hi, h.own _ (List.getElem_mem hi), h1, h2⟩
/-- The fault of a part, of parts, of a condition. -/
def ckP (k : Int × List Tr) : Int :=
  if okT 20 k.1 = true then
    if ((k.2.length : Nat) : Int) = yb k.1 then
      if k.2.all (qz qh) = true then 0 else 2
    else 1
  else 7
def ckA : List (Int × List Tr) → Int
  | [] => 0
  | k :: ks => if ckP k = 0 then ckA ks else ckP k
def ckC (ks : List (Int × List Tr)) : Int := if 16 < ks.length then 4 else ckA ks
theorem ckP_type {p : Sp} (h : okT 20 p.ty = false) : ckP p.k = 7 := if_neg (by rw [show p.k.1 = p.ty from rfl, h]; decide)
theorem ckP_cnt {p : Sp} (h : okT 20 p.ty = true) (h1 : ((p.vs.length : Nat) : Int) ≠ yb p.ty) : ckP p.k = 1 := by
  unfold ckP
  rw [if_pos (show okT 20 p.k.1 = true from h), if_neg (show ¬ ((p.k.2.length : Nat) : Int) = yb p.k.1 from fun e => h1 (by rw [show p.k.2.length = p.vs.length from List.length_map _] at e; exact e))]
theorem ckP_snd {p : Sp} (h : okT 20 p.ty = true) (h1 : ((p.vs.length : Nat) : Int) = yb p.ty) {b : Bool} (h2 : (p.vs.map Dt.tr).all (qz qh) = b) : ckP p.k = if b = true then 0 else 2 := by
  unfold ckP
  rw [if_pos (show okT 20 p.k.1 = true from h), if_pos (show ((p.k.2.length : Nat) : Int) = yb p.k.1 from by rw [show p.k.2.length = p.vs.length from List.length_map _]; exact h1), show p.k.2.all (qz qh) = b from h2]
theorem ckA_step {ks : List (Int × List Tr)} {i : Nat} {k : Int × List Tr} (h : ks[i]? = some k) : ckA (ks.drop i) = if ckP k = 0 then ckA (ks.drop (i + 1)) else ckP k := by
  obtain ⟨hi, rfl⟩ := List.getElem?_eq_some_iff.1 h
  rw [List.drop_eq_getElem_cons hi, ckA]
theorem yj {ps : List Sp} {i : Nat} {p : Sp} (h : ps[i]? = some p) : (ps.map Sp.k)[i]? = some p.k := by rw [List.getElem?_map, h]; rfl
theorem ckA_ok {ks : List (Int × List Tr)} : ckA ks = 0 → ∀ k ∈ ks, ckP k = 0 := by
  induction ks with
  | nil => intro _ k hk; cases hk
  | cons x xs ih =>
    intro h k hk
    rw [ckA] at h
    by_cases hx : ckP x = 0
    · rw [if_pos hx] at h
      rcases List.mem_cons.1 hk with rfl | hk
      · exact hx
      · exact ih h k hk
    · rw [if_neg hx] at h; exact absurd h hx
theorem ckA_of {ks : List (Int × List Tr)} (h : ∀ k ∈ ks, ckP k = 0) : ckA ks = 0 := by
  induction ks with
  | nil => rfl
  | cons x xs ih => rw [ckA, if_pos (h x List.mem_cons_self)]; exact ih fun k hk => h k (List.mem_cons_of_mem _ hk)
theorem yk {ks : List (Int × List Tr)} (h : ckC ks = 0) : ks.length ≤ 16 ∧ ∀ k ∈ ks, ckP k = 0 := by
  unfold ckC at h
  split at h
  · cases h
  · exact ⟨by omega, ckA_ok h⟩
theorem ckC_of {ks : List (Int × List Tr)} (hl : ks.length ≤ 16) (h : ∀ k ∈ ks, ckP k = 0) : ckC ks = 0 := by
  unfold ckC
  rw [if_neg (by omega)]; exact ckA_of h
theorem qhb {ks : List (Int × List Tr)} (h : 16 < ks.length) : ckC ks = 4 := if_pos h
theorem qhc {ks : List (Int × List Tr)} (h : ks.length ≤ 16) : ckC ks = ckA ks := if_neg (by omega)
theorem qdi {k : Int × List Tr} (h : ckP k = 0) : okT 20 k.1 = true ∧ ((k.2.length : Nat) : Int) = yb k.1 ∧ k.2.all (qz qh) = true := by
  unfold ckP at h
  split at h
  · rename_i h1
    split at h
    · rename_i h2
      split at h
      · rename_i h3; exact ⟨h1, h2, h3⟩
      · cases h
    · cases h
  · cases h
/-- What Find answers. -/
def fdI (ks : List (Int × List Tr)) (t : Int) : Int := ixG (fun k => ke k.1 t) ks
def fdS (ks : List (Int × List Tr)) (t : Int) : (Int × List Tr) × Int :=
  if ckC ks = 0 then
    if okT 20 t = true then
      match ks[(fdI ks t).toNat]? with
      | some k => if 0 ≤ fdI ks t then (k, 0) else ((0, []), 7)
      | none => ((0, []), 7)
    else ((0, []), 1)
  else ((0, []), ckC ks)
theorem qjd {ks : List (Int × List Tr)} {t : Int} (h : ckC ks ≠ 0) : fdS ks t = ((0, []), ckC ks) := if_neg h
theorem qdj {ks : List (Int × List Tr)} {t : Int} (h : ckC ks = 0) (ht : okT 20 t = false) : fdS ks t = ((0, []), 1) := by
  unfold fdS; rw [if_pos h, if_neg (by rw [ht]; decide)]
theorem qea {ks : List (Int × List Tr)} {t : Int} (h : ckC ks = 0) (ht : okT 20 t = true) (hi : ¬ 0 ≤ fdI ks t) : fdS ks t = ((0, []), 7) := by
  unfold fdS; rw [if_pos h, if_pos ht]
  cases ks[(fdI ks t).toNat]? with
  | none => rfl
  | some k => exact if_neg hi
theorem qje {ks : List (Int × List Tr)} {t : Int} {k : Int × List Tr} (h : ckC ks = 0) (ht : okT 20 t = true) (hi : 0 ≤ fdI ks t) (hk : ks[(fdI ks t).toNat]? = some k) : fdS ks t = (k, 0) := by
  unfold fdS; rw [if_pos h, if_pos ht, hk]; exact if_pos hi
section
variable {P : Program} {w0 w : World} {L : List Ck} {l : List (Nat × Value)} {dst : Option Tmp} {ty : TypeId} {pos : String} {after : Array Edge} {guard : Option (Nat × Bool)} {v : Value}
theorem run_arr {t e : TypeId} {sz n : Nat} (hu : P.underlying t = some (.array n e)) (he : (P.info? e).map (·.size) = some sz) {g o k : Nat} (hk : k < n) : ∀ w, (Instr.indexAt t (.pointer (some ⟨g, o, none⟩)) (.int .i64 (k : Nat))).run P w = .ok (.pointer (some ⟨g, o + k * sz, none⟩)) w := fun w => by
  obtain ⟨i, hi, hs⟩ := ju he
  have h2 : (sizeOf e).run P w = .ok sz w := by simp [sizeOf, typeInfo, hi, hs]
  have h3 : (0 : Int) ≤ (k : Nat) ∧ ((k : Nat) : Int) < (n : Nat) := ⟨by omega, by omega⟩
  simp [Instr.indexAt, asIntOf, Instr.sureAddr, run_underlying hu, h2, h3, jg]
  intro h
  omega
/-- The place of an element of an array. -/
theorem does_arr {t e : TypeId} {sz n : Nat} (hu : P.underlying t = some (.array n e)) (he : (P.info? e).map (·.size) = some sz) {x i : Operand} {g k : Nat} {z : Int} (hx : ev l x = some (.pointer (some ⟨g, 0, none⟩))) (hi : ev l i = some (.int .i64 z)) (hz : z = (k : Nat)) (hk : k < n) :
    Does P l ⟨dst, .indexAddr t x i, ty, pos, after, guard⟩ w (.pointer (some ⟨g, k * sz, none⟩)) w := by
  subst hz
  have := xd (l := l) (dst := dst) (ty := ty) (pos := pos) (after := after) (guard := guard) (w := w) hx hi (run_arr hu he (o := 0) hk)
  rwa [Nat.zero_add] at this
end
/-! Where parts lie -/
structure Sp.at_ (q : Nat → Prop) (p : Sp) : Prop where
  v : In q p.vo p.vs
  d : ∀ t ∈ p.vs, t.at_ q
theorem Sp.at_.mono {q r : Nat → Prop} {p : Sp} (h : p.at_ q) (hq : ∀ b, q b → r b) : p.at_ r := ⟨h.v.mono hq, fun t ht => Dt.at_mono hq _ (h.d t ht)⟩
theorem SpR.kept {q : Nat → Prop} {w w' : World} {p : Sp} (h : SpR w p) (ha : p.at_ q) (hk : Kept q w w') : SpR w' p := ⟨h.v.kept ha.v hk, fun t ht => Dt.kept hk _ (h.d t ht) (ha.d t ht)⟩
theorem SpR.lt {w : World} {p : Sp} (h : SpR w p) : p.at_ (· < w.heap.size) := ⟨qgg h.v, fun t ht => Dt.at_lt _ (h.d t ht)⟩
theorem SpR.seen {q : Nat → Prop} {w w' : World} {p : Sp} (h : SpR w p) (ha : p.at_ q) (hk : Seen q w w') : SpR w' p := ⟨h.v.seen ha.v hk, fun t ht => Dt.seen hk _ (h.d t ht) (ha.d t ht)⟩
theorem rc_seen {q : Nat → Prop} {w w' : World} {so : Option Addr} {cs : List Value} (h : Rc w so cs) (hi : In q so cs) (hk : Seen q w w') : Rc w' so cs := fun hne => by
  obtain ⟨b, o, e, h2⟩ := h hne
  exact ⟨b, o, e, fun p u hp => hk _ _ _ (hi hne _ _ e) (h2 p u hp)⟩
/-- What was made is there wherever it is kept as pieces. -/
theorem vu {w w' w1 w2 : World} (hM : Mg w1 w2 (made w w')) : Seen (w.heap.size ≤ ·) w' w2 := fun b i v hb hc => by
  have h1 := cell_lt hc
  have h2 : w'.heap[b]? = some (w'.heap[b]'h1) := Array.getElem?_eq_getElem h1
  have h3 := (hM.all _ (qdf (w := w') (k := w.heap.size) (n := w'.heap.size - w.heap.size) hb (by show b < _; simp only at *; omega) h2)).2
  unfold World.cell? at hc ⊢
  simp only at hc ⊢
  rw [h3, ← h2]; exact hc
theorem qjf {w w' : World} {p : Sp} (h : SpR w' p) (ha : p.at_ (w.heap.size ≤ ·)) : ∀ w1 w2, Mg w1 w2 (made w w') → SpR w2 p := fun w1 w2 hM => h.seen ha (vu hM)
theorem pr_made {w w' : World} {so : Option Addr} {ps : List Sp} (h : PR w' so ps) (hi : In (w.heap.size ≤ ·) so ps) (ha : ∀ p ∈ ps, p.at_ (w.heap.size ≤ ·)) : ∀ w1 w2, Mg w1 w2 (made w w') → PR w2 so ps := fun w1 w2 hM => ⟨rc_seen h.row (fun hne => hi (fun e => hne (by rw [e]; rfl))) (vu hM), fun p hp => (h.own p hp).seen (ha p hp) (vu hM)⟩
/-- New parts, apart from a block. -/
def SpOk (B g : Nat) (w : World) (cs : List Sp) : Prop := ∀ p ∈ cs, SpR w p ∧ p.at_ (fun b => B ≤ b ∧ b ≠ g)
theorem spok_nil {B g : Nat} {w : World} : SpOk B g w [] := fun t h => by cases h
theorem SpOk.below {B g : Nat} {w w' : World} {cs : List Sp} (h : SpOk B g w cs) (hb : Below w.heap.size w w') : SpOk B g w' cs := fun t ht => ⟨(h t ht).1.below hb, (h t ht).2⟩
theorem SpOk.new {B g g' : Nat} {w w' w'' : World} {cs : List Sp} (h : SpOk B g w cs) (hg : w.heap.size ≤ g') (hb : Below w.heap.size w w') (hk : Kept (· ≠ g') w' w'') : SpOk B g w'' cs := fun t ht => ⟨((h t ht).1.below hb).kept ((h t ht).1.lt.mono (fun b hb' => by intro e; omega)) hk, (h t ht).2⟩
theorem SpOk.snoc {B g : Nat} {w w' : World} {cs : List Sp} {p : Sp} (h : SpOk B g w cs) (hr : SpR w p) (ha : p.at_ (fun b => B ≤ b ∧ b ≠ g)) (hk : Kept (· ≠ g) w w') : SpOk B g w' (cs ++ [p]) := fun u hu => by
  rcases List.mem_append.1 hu with h1 | h1
  · exact ⟨(h u h1).1.kept ((h u h1).2.mono fun b hb => hb.2) hk, (h u h1).2⟩
  · rw [List.mem_singleton.1 h1]
    exact ⟨hr.kept (ha.mono fun b hb => hb.2) hk, ha⟩
theorem sat_row {ts cs : List Sp} {i : Nat} (hl : cs.length = i) (hi : i < ts.length) : ∃ t, ts[i]? = some t ∧ t ∈ ts ∧ (cs ++ ts.drop i)[i]? = some t := by
  have ht := List.getElem?_eq_getElem hi
  refine ⟨ts[i], ht, List.getElem_mem hi, ?_⟩
  rw [List.getElem?_append_right (by omega), List.getElem?_drop, hl, Nat.sub_self, Nat.add_zero, ht]
theorem sset_row {ts cs : List Sp} {i : Nat} (t : Sp) (hl : cs.length = i) (hi : i < ts.length) : (cs ++ ts.drop i).set i t = (cs ++ [t]) ++ ts.drop (i + 1) := by
  rw [List.set_append_right _ _ (by omega), hl, Nat.sub_self, List.drop_eq_getElem_cons hi, List.set_cons_zero, List.append_assoc]
  rfl
theorem key_snoc {ts cs : List Sp} {i : Nat} {t u : Sp} (h : cs.map Sp.k = (ts.take i).map Sp.k) (hi : ts[i]? = some t) (hu : u.k = t.k) : (cs ++ [u]).map Sp.k = (ts.take (i + 1)).map Sp.k := by
  obtain ⟨hl, rfl⟩ := List.getElem?_eq_some_iff.1 hi
  rw [List.map_append, h, List.take_succ_eq_append_getElem hl, List.map_append, List.map_singleton, List.map_singleton, hu]
def zk : Sp := ⟨0, none, 0, []⟩
theorem qjg (w : World) : SpR w zk := ⟨fun h => absurd rfl h, fun t h => by cases h⟩
theorem qeb (q : Nat → Prop) : zk.at_ q := ⟨fun h => absurd rfl h, fun t h => by cases h⟩
/-- How much the parts hold. -/
def PB (ps : List Sp) : Prop := ∀ p ∈ ps, Tr.bulks (p.vs.map Dt.tr) ≤ 100000000
theorem PB.len {ps : List Sp} (h : PB ps) {p : Sp} (hp : p ∈ ps) : p.vs.length ≤ 100000000 := Nat.le_trans (vr _) (h p hp)
theorem fdI_ps (ps : List Sp) (t : Int) : fdI (ps.map Sp.k) t = ixG (fun p : Sp => ke p.ty t) ps := by unfold fdI; rw [ixG_map]; rfl
theorem qec {ps : List Sp} (h : ckC (ps.map Sp.k) = 0) : ∀ p ∈ ps, okT 20 p.ty = true := fun p hp => (qdi ((yk h).2 _ (List.mem_map_of_mem hp))).1
/-- Conditions in a row. -/
structure Cn where
  so : Option Addr
  ca : Nat
  ps : List Sp
def Cn.c (c : Cn) : List Value := [.slice c.so c.ps.length c.ca]
theorem cn_len (c : Cn) : c.c.length = 1 := rfl
structure CR (w : World) (lo : Option Addr) (ls : List Cn) : Prop where
  row : Rc w lo (zh Cn.c ls)
  own : ∀ c ∈ ls, PR w c.so c.ps
theorem CR.below {w w' : World} {lo : Option Addr} {ls : List Cn} (h : CR w lo ls) (hb : Below w.heap.size w w') : CR w' lo ls := ⟨h.row.below hb, fun c hc => (h.own c hc).below hb⟩
theorem CR.at_ {w : World} {lo : Option Addr} {ls : List Cn} (h : CR w lo ls) {i : Nat} (hi : i < ls.length) : ∃ c b o, ls[i]? = some c ∧ c ∈ ls ∧ PR w c.so c.ps ∧ lo = some ⟨b, o, none⟩ ∧ Here w b (o + i * 1) c.c := by
  have e : ls[i]? = some ls[i] := List.getElem?_eq_getElem hi
  obtain ⟨b, o, h1, h2⟩ := kz cn_len (by decide) h.row e
  exact ⟨ls[i], b, o, e, List.getElem_mem hi, h.own _ (List.getElem_mem hi), h1, h2⟩
def zx (ls : List Cn) : List Sp := ls.flatMap Cn.ps
theorem allP_snoc {ls : List Cn} {i : Nat} {c : Cn} (h : ls[i]? = some c) : zx (ls.take (i + 1)) = zx (ls.take i) ++ c.ps := by
  obtain ⟨hl, rfl⟩ := List.getElem?_eq_some_iff.1 h
  unfold zx
  rw [List.take_succ_eq_append_getElem hl, List.flatMap_append, List.flatMap_singleton]
theorem allP_mem {ls : List Cn} {p : Sp} (h : p ∈ zx ls) : ∃ c ∈ ls, p ∈ c.ps := List.mem_flatMap.1 h
theorem allP_take (ls : List Cn) (i : Nat) : (zx (ls.take i)).length ≤ (zx ls).length := by
  have e : zx ls = zx (ls.take i) ++ zx (ls.drop i) := by unfold zx; rw [← List.flatMap_append, List.take_append_drop]
  rw [e, List.length_append]; omega
theorem ue {ls : List Cn} {i : Nat} {p : Sp} (h : p ∈ zx (ls.take i)) : p ∈ zx ls := by
  obtain ⟨c, hc, hp⟩ := allP_mem h
  exact List.mem_flatMap.2 ⟨c, List.mem_of_mem_take hc, hp⟩
theorem over_rowS {ts us : List Sp} {i : Nat} {t : Sp} (h : i < ts.length) (he : ts.set i t = us) : over (zh Sp.c ts) (i * 2) t.c = zh Sp.c us := he ▸ catC_set qdh t h
theorem sp_all (p : Sp) : p.c.all Value.oneCell' = true := rfl
set_option maxRecDepth 100000
theorem TrA_is1_3 : Is1 Tryz.prog 3 := ⟨⟨_, Tryz.underlying3, rfl⟩, by kernel_rfl⟩
theorem TrA_is1_39 : Is1 Tryz.prog 39 := ⟨⟨_, Tryz.underlying39, rfl⟩, by kernel_rfl⟩
theorem TrA_fld_53_0 : FieldAt Tryz.prog 53 0 0 := ⟨_, _, Tryz.underlying53, rfl, rfl, by kernel_rfl⟩
theorem TrA_fld_53_5 : FieldAt Tryz.prog 53 5 10 := ⟨_, _, Tryz.underlying53, rfl, rfl, by kernel_rfl⟩
/-- The walk of the size of a datum. -/
def FitsAt (t : Dt) : Prop := ∀ {w0 w : World} {b o gl : Nat} {left dp : Int} {T : List Ck}, t.rd w0 → Here w0 b o t.cells → Mg w0 w (.obj gl (.cells #[.int .i64 left] 3) :: T) → 0 ≤ left → left ≤ 20000 → 0 ≤ dp → dp ≤ 201 → Calls Tryz.prog 99 #[.pointer (some ⟨b, o, none⟩), .int .i64 dp, .pointer (some ⟨gl, 0, none⟩)] w fun e w' => e = .returned (.bool (je dp left t.tr).1) ∧ Mg w0 w' (.obj gl (.cells #[.int .i64 (je dp left t.tr).2] 3) :: T)
theorem fitsAt_all : ∀ t : Dt, FitsAt t := Dt.indT fun d ts ih => by
 intro w0 w b o gl left dp T hrd hH hM0 hl0 hl1 hd0 hd1
 replace hH : Here w0 b o (d.cells ts.length) := hH
 have hok := (Dt.rd_iff.1 hrd)
 have hk0 := hok.1.k0
 have hk1 := hok.1.k1
 have hlen : ts.length ≤ 9223372036854775807 := Nat.le_trans hok.2.1 hok.2.2.1
 have M : Mg w0 w (.obj gl (.cells #[.int .i64 left] 3) :: T) := hM0
 refine qr (l := [(0, .pointer (some ⟨b, o, none⟩)), (1, .int .i64 dp), (2, .pointer (some ⟨gl, 0, none⟩))]) Tryz.func99 rfl Tryz.ntmps99 rfl rfl ?_
 intro Q hret hnorm hP a A
 refine wsk fun K1 hK1 => wrl (sda A λa A↦?_)
 refine qa (hK1 _ _ (wsk fun K2 hK2 => wrl (sdm A λa A↦?_)))
 refine sdo A (jc rfl) λa A↦?_
 refine sdo A (qi M TrA_is1_3 rfl 0 rfl rfl) λa A↦?_
 refine sdo (v := .int .i64 (left - 1)) A (qg rfl rfl (bin_sub (xj (by omega) (by omega)))) λa A↦?_
 refine sdo A (jc rfl) λa A↦?_
 refine qw (us := [.int .i64 (left - 1)]) (L' := (.obj gl (.cells #[.int .i64 (left - 1)] 3) :: T)) A M rfl rfl (qj rfl rfl rfl (by kernel_rfl) M 0 rfl rfl rfl) 0 rfl rfl rfl ?_
 intro w3 M
 refine qa (hK2 _ _ (wsk fun K4 hK4 => wsk fun K5 hK5 => wrl (sdm A λa A↦?_)))
 refine sdo A (jc rfl) λa A↦?_
 refine sdo A (qi M TrA_is1_3 rfl 0 rfl rfl) λa A↦?_
 rcases tf (decide (left - 1 < 0)) with hb6 | hb6
 ·
  have hb6' := of_decide_eq_true hb6
  refine sdc A zl hb6 λa A↦?_
  refine sdm A λa A↦?_
  iterate 2 refine qt A rfl rfl rfl λa A↦?_
  refine sdk (v := .bool true) A λa A↦?_
  refine qa (hK5 _ _ (wp_cond_true (A.ev rfl) ?_))
  refine wsk fun K7 hK7 => wrl (sda A λa A↦?_)
  refine qa (hK7 _ _ (wp_ret (hret _ _ (en1 A rfl (qe rfl) ?_))))
  rw [fitT_no (by omega)]
  exact ⟨rfl, M⟩
 ·
  have hb6' := of_decide_eq_false hb6
  refine sdc A zl hb6 λa A↦?_
  iterate 2 refine sdm A λa A↦?_
  rcases tf (decide (200 < dp)) with hb8 | hb8
  ·
   have hb8' := of_decide_eq_true hb8
   refine sdc A xy hb8 λa A↦?_
   refine sdk (v := .bool true) A λa A↦?_
   refine qa (hK5 _ _ (wp_cond_true (A.ev rfl) ?_))
   refine wsk fun K9 hK9 => wrl (sda A λa A↦?_)
   refine qa (hK9 _ _ (wp_ret (hret _ _ (en1 A rfl (qe rfl) ?_))))
   rw [fitT_no (by omega)]
   exact ⟨rfl, M⟩
  ·
   have hb8' := of_decide_eq_false hb8
   refine sdc A xy hb8 λa A↦?_
   refine sdk (v := .bool false) A λa A↦?_
   refine qa (hK5 _ _ (wp_cond_false (A.ev rfl) ?_))
   refine wp_skip (hK4 _ _ (wsk fun K10 hK10 => wsk fun K11 hK11 => wrl (sdm A λa A↦?_)))
   refine sdo A (jc rfl) λa A↦?_
   refine sdo (v := .pointer (some ⟨b, o + 10, none⟩)) A (qb TrA_fld_53_5 rfl rfl) λa A↦?_
   refine sdo A (kw (j := 10) M hH TrA_is1_39 rfl rfl rfl) λa A↦?_
   refine sdo A (ze Tryz.underlying39 rfl) λa A↦?_
   refine sdm A λa A↦?_
   refine qa (hK11 _ _ (wp_block (ja (fun m_ a w1 => ∃ (i : Nat) (m : Int), m_ = 1 + (ts.length - i) ∧ (i ≤ ts.length ∧ vl dp (decide (d.k = 8)) 0 (left - 1) ((ts.map Dt.tr).drop 0) = vl dp (decide (d.k = 8)) i m ((ts.map Dt.tr).drop i) ∧ 0 ≤ m ∧ m ≤ 20000) ∧ Sl a 53 [(0, .pointer (some ⟨b, o, none⟩)), (1, .int .i64 dp), (2, .pointer (some ⟨gl, 0, none⟩)), (9, .pointer (some ⟨gl, 0, none⟩)), (10, .pointer (some ⟨gl, 0, none⟩)), (11, .int .i64 left), (12, .int .i64 (left - 1)), (13, .pointer (some ⟨gl, 0, none⟩)), (14, .pointer (some ⟨gl, 0, none⟩)), (15, .pointer (some ⟨gl, 0, none⟩)), (16, .int .i64 (left - 1)), (17, .bool false), (18, .bool false), (19, .int .i64 dp), (20, .bool false), (21, .bool false), (22, .pointer (some ⟨b, o, none⟩)), (23, .pointer (some ⟨b, o, none⟩)), (24, .pointer (some ⟨b, o + 10, none⟩)), (25, .slice d.lo ts.length d.lc), (26, .int .i64 (((ts.length : Nat) : Int))), (27, .int .i64 (((i : Nat) : Int)))] ∧ Mg w0 w1 (.obj gl (.cells #[.int .i64 m] 3) :: T)) _ ⟨0, left - 1, rfl, ⟨Nat.zero_le _, rfl, by omega, by omega⟩, A.keep _ (by repeat' constructor), M⟩ ?_)))
   clear M A
   rintro m_ a w12 ⟨i, m, rfl, hinv14, A, M⟩ K13 hK13
   obtain ⟨hi0, hin9, hm0, hm1⟩ := hinv14
   refine wsk fun K15 hK15 => wrl ?_
   rcases tf (decide (((i : Nat) : Int) < ((ts.length : Nat) : Int))) with hb16 | hb16
   ·
    have hb16' := of_decide_eq_true hb16
    refine sdc A zl hb16 λa A↦?_
    refine qa (hK15 _ _ (wsk fun K17 hK17 => wp_cond_true (A.ev rfl) ?_))
    refine wp_skip (hK17 _ _ (wsk fun K18 hK18 => wp_block (wsk fun K19 hK19 => wrl (sdm A λa A↦?_))))
    refine sda A λa A↦?_
    refine qa (hK19 _ _ (wsk fun K20 hK20 => wrl (sdm A λa A↦?_)))
    refine sdo (v := .int .i64 (dp + 1)) A (qg rfl rfl (jk (xj (by omega) (by omega)))) λa A↦?_
    refine sda A λa A↦?_
    refine qa (hK20 _ _ (wsk fun K21 hK21 => wsk fun K22 hK22 => wrl (sdm A λa A↦?_)))
    refine sdo A (jc rfl) λa A↦?_
    refine sdo (v := .pointer (some ⟨b, o, none⟩)) A (qb TrA_fld_53_0 rfl rfl) λa A↦?_
    refine sdo A (kw (j := 0) M hH TrA_is1_3 rfl rfl rfl) λa A↦?_
    rcases tf ((d.k == 8)) with hb23 | hb23
    ·
     have hb23' := eq_of_beq hb23
     refine sdc A qx hb23 λa A↦?_
     iterate 2 refine sdm A λa A↦?_
     rcases tf ((((i : Nat) : Int) == 1)) with hb24 | hb24
     ·
      have hb24' := eq_of_beq hb24
      refine sdc A qx hb24 λa A↦?_
      refine sdk (v := .bool true) A λa A↦?_
      refine qa (hK22 _ _ (wp_cond_true (A.ev rfl) ?_))
      refine wrl (sdm A λa A↦?_)
      refine sda A λa A↦?_
      refine qa (hK21 _ _ (wsk fun K25 hK25 => ?_))
      obtain ⟨t1, b1, o1, hi1, hm1, hr1, hl1, hH1⟩ := kid hrd (i := i) (by omega)
      have hD : (if decide (d.k = 8) = true ∧ i = 1 then dp else dp + 1) = dp := if_pos ⟨decide_eq_true hb23', by omega⟩
      refine wrl (sdm A λa A↦?_)
      refine sdo A (jc rfl) λa A↦?_
      refine sdo (v := .pointer (some ⟨b, o + 10, none⟩)) A (qb TrA_fld_53_5 rfl rfl) λa A↦?_
      refine sdo A (kw (j := 10) M hH TrA_is1_39 rfl rfl rfl) λa A↦?_
      refine sdm A λa A↦?_
      refine sdo (v := .pointer (some ⟨b1, o1 + i * 11, none⟩)) A (zp (k := i) Tryz.underlying39 (by kernel_rfl) rfl rfl rfl hl1 (by omega)) λa A↦?_
      iterate 2 refine sdm A λa A↦?_
      refine sct A (ef rfl rfl) (ih t1 hm1 hr1 hH1 M (by omega) (by omega) (by omega) (by omega)) ?_
      rintro _ w27 ⟨rfl, hM26⟩
      replace M : Mg w0 w27 (.obj gl (.cells #[.int .i64 ((je (dp) m t1.tr).2)] 3) :: T) := hM26
      refine ⟨_, rfl, ?_⟩
      intro a A
      refine sdo (v := .bool (!((je (dp) m t1.tr).1))) A (zb rfl zn) λa A↦?_
      refine qa (hK25 _ _ ?_)
      refine wp_cond_split (t := !((je (dp) m t1.tr).1)) (A.ev rfl) (fun hc28 => ?_) (fun hc28 => ?_)
      ·
       refine wsk fun K29 hK29 => wrl (sda A λa A↦?_)
       refine qa (hK29 _ _ (wp_ret (hret _ _ (en1 A rfl (qe rfl) ?_))))
       have hr9 : (je (dp) m t1.tr).1 = false := by simpa using hc28
       have e9 : je dp left (Dt.mk d ts).tr = (false, (je (dp) m t1.tr).2) := by rw [qcc (by omega) (by omega), hin9, uq hi1 hD hr9]
       rw [e9]
       exact ⟨rfl, M⟩
      ·
       refine wp_skip (hK18 _ _ (wrl (sdo (v := .int .i64 (((i + 1 : Nat) : Int))) A (qg rfl rfl (fun w => (jk (xj (by omega) (by omega)) w).trans (by rw [show (((i : Nat) : Int) + 1 : Int) = ((i + 1 : Nat) : Int) from by omega]))) λa A↦?_)))
       refine sdm A λa A↦?_
       refine qa ?_
       have hr9 : (je (dp) m t1.tr).1 = true := by simpa using hc28
       have hp9 := qcb t1.tr _ _ hr9
       have hl9 := fit_le t1.tr (dp) m
       refine hK13 _ _ _ (by omega) ⟨i + 1, (je (dp) m t1.tr).2, rfl, ⟨by omega, by rw [hin9, qig hi1 hD hr9], by omega, by omega⟩, A.keep _ (by repeat' constructor), M⟩
     ·
      have hb24' := ne_of_beq_false hb24
      refine sdc A qx hb24 λa A↦?_
      refine sdk (v := .bool false) A λa A↦?_
      refine qa (hK22 _ _ (wp_cond_false (A.ev rfl) ?_))
      refine wp_skip (hK21 _ _ (wsk fun K30 hK30 => ?_))
      obtain ⟨t1, b1, o1, hi1, hm1, hr1, hl1, hH1⟩ := kid hrd (i := i) (by omega)
      have hD : (if decide (d.k = 8) = true ∧ i = 1 then dp else dp + 1) = dp + 1 := if_neg (fun e => by omega)
      refine wrl (sdm A λa A↦?_)
      refine sdo A (jc rfl) λa A↦?_
      refine sdo (v := .pointer (some ⟨b, o + 10, none⟩)) A (qb TrA_fld_53_5 rfl rfl) λa A↦?_
      refine sdo A (kw (j := 10) M hH TrA_is1_39 rfl rfl rfl) λa A↦?_
      refine sdm A λa A↦?_
      refine sdo (v := .pointer (some ⟨b1, o1 + i * 11, none⟩)) A (zp (k := i) Tryz.underlying39 (by kernel_rfl) rfl rfl rfl hl1 (by omega)) λa A↦?_
      iterate 2 refine sdm A λa A↦?_
      refine sct A (ef rfl rfl) (ih t1 hm1 hr1 hH1 M (by omega) (by omega) (by omega) (by omega)) ?_
      rintro _ w32 ⟨rfl, hM31⟩
      replace M : Mg w0 w32 (.obj gl (.cells #[.int .i64 ((je (dp + 1) m t1.tr).2)] 3) :: T) := hM31
      refine ⟨_, rfl, ?_⟩
      intro a A
      refine sdo (v := .bool (!((je (dp + 1) m t1.tr).1))) A (zb rfl zn) λa A↦?_
      refine qa (hK30 _ _ ?_)
      refine wp_cond_split (t := !((je (dp + 1) m t1.tr).1)) (A.ev rfl) (fun hc33 => ?_) (fun hc33 => ?_)
      ·
       refine wsk fun K34 hK34 => wrl (sda A λa A↦?_)
       refine qa (hK34 _ _ (wp_ret (hret _ _ (en1 A rfl (qe rfl) ?_))))
       have hr9 : (je (dp + 1) m t1.tr).1 = false := by simpa using hc33
       have e9 : je dp left (Dt.mk d ts).tr = (false, (je (dp + 1) m t1.tr).2) := by rw [qcc (by omega) (by omega), hin9, uq hi1 hD hr9]
       rw [e9]
       exact ⟨rfl, M⟩
      ·
       refine wp_skip (hK18 _ _ (wrl (sdo (v := .int .i64 (((i + 1 : Nat) : Int))) A (qg rfl rfl (fun w => (jk (xj (by omega) (by omega)) w).trans (by rw [show (((i : Nat) : Int) + 1 : Int) = ((i + 1 : Nat) : Int) from by omega]))) λa A↦?_)))
       refine sdm A λa A↦?_
       refine qa ?_
       have hr9 : (je (dp + 1) m t1.tr).1 = true := by simpa using hc33
       have hp9 := qcb t1.tr _ _ hr9
       have hl9 := fit_le t1.tr (dp + 1) m
       refine hK13 _ _ _ (by omega) ⟨i + 1, (je (dp + 1) m t1.tr).2, rfl, ⟨by omega, by rw [hin9, qig hi1 hD hr9], by omega, by omega⟩, A.keep _ (by repeat' constructor), M⟩
    ·
     have hb23' := ne_of_beq_false hb23
     refine sdc A qx hb23 λa A↦?_
     refine sdm A λa A↦?_
     iterate 2 refine qt A rfl rfl rfl λa A↦?_
     refine sdk (v := .bool false) A λa A↦?_
     refine qa (hK22 _ _ (wp_cond_false (A.ev rfl) ?_))
     refine wp_skip (hK21 _ _ (wsk fun K35 hK35 => ?_))
     obtain ⟨t1, b1, o1, hi1, hm1, hr1, hl1, hH1⟩ := kid hrd (i := i) (by omega)
     have hD : (if decide (d.k = 8) = true ∧ i = 1 then dp else dp + 1) = dp + 1 := if_neg (fun e => hb23' (of_decide_eq_true e.1))
     refine wrl (sdm A λa A↦?_)
     refine sdo A (jc rfl) λa A↦?_
     refine sdo (v := .pointer (some ⟨b, o + 10, none⟩)) A (qb TrA_fld_53_5 rfl rfl) λa A↦?_
     refine sdo A (kw (j := 10) M hH TrA_is1_39 rfl rfl rfl) λa A↦?_
     refine sdm A λa A↦?_
     refine sdo (v := .pointer (some ⟨b1, o1 + i * 11, none⟩)) A (zp (k := i) Tryz.underlying39 (by kernel_rfl) rfl rfl rfl hl1 (by omega)) λa A↦?_
     iterate 2 refine sdm A λa A↦?_
     refine sct A (ef rfl rfl) (ih t1 hm1 hr1 hH1 M (by omega) (by omega) (by omega) (by omega)) ?_
     rintro _ w37 ⟨rfl, hM36⟩
     replace M : Mg w0 w37 (.obj gl (.cells #[.int .i64 ((je (dp + 1) m t1.tr).2)] 3) :: T) := hM36
     refine ⟨_, rfl, ?_⟩
     intro a A
     refine sdo (v := .bool (!((je (dp + 1) m t1.tr).1))) A (zb rfl zn) λa A↦?_
     refine qa (hK35 _ _ ?_)
     refine wp_cond_split (t := !((je (dp + 1) m t1.tr).1)) (A.ev rfl) (fun hc38 => ?_) (fun hc38 => ?_)
     ·
      refine wsk fun K39 hK39 => wrl (sda A λa A↦?_)
      refine qa (hK39 _ _ (wp_ret (hret _ _ (en1 A rfl (qe rfl) ?_))))
      have hr9 : (je (dp + 1) m t1.tr).1 = false := by simpa using hc38
      have e9 : je dp left (Dt.mk d ts).tr = (false, (je (dp + 1) m t1.tr).2) := by rw [qcc (by omega) (by omega), hin9, uq hi1 hD hr9]
      rw [e9]
      exact ⟨rfl, M⟩
     ·
      refine wp_skip (hK18 _ _ (wrl (sdo (v := .int .i64 (((i + 1 : Nat) : Int))) A (qg rfl rfl (fun w => (jk (xj (by omega) (by omega)) w).trans (by rw [show (((i : Nat) : Int) + 1 : Int) = ((i + 1 : Nat) : Int) from by omega]))) λa A↦?_)))
      refine sdm A λa A↦?_
      refine qa ?_
      have hr9 : (je (dp + 1) m t1.tr).1 = true := by simpa using hc38
      have hp9 := qcb t1.tr _ _ hr9
      have hl9 := fit_le t1.tr (dp + 1) m
      refine hK13 _ _ _ (by omega) ⟨i + 1, (je (dp + 1) m t1.tr).2, rfl, ⟨by omega, by rw [hin9, qig hi1 hD hr9], by omega, by omega⟩, A.keep _ (by repeat' constructor), M⟩
   ·
    have hb16' := of_decide_eq_false hb16
    refine sdc A zl hb16 λa A↦?_
    refine qa (hK15 _ _ (wsk fun K40 hK40 => wp_cond_false (A.ev rfl) ?_))
    refine wp_exit (hK10 _ _ (wsk fun K41 hK41 => wrl (sda A λa A↦?_)))
    refine qa (hK41 _ _ (wp_ret (hret _ _ (en1 A rfl (qe rfl) ?_))))
    have e9 : je dp left (Dt.mk d ts).tr = (true, m) := by rw [qcc (by omega) (by omega), hin9, un (by omega), vl]
    rw [e9]
    exact ⟨rfl, M⟩
end Go.Proofs.YtdpakekdbkpdfaaGreatDoor.G
namespace Go.Proofs
open Go.Shelf
def Tryz.lays119_ren : Go.Shelf.Ren := ⟨fun | 119 => 142 | n => n, fun | 21 => 21 | 4 => 4 | n => n, fun | n => n⟩
theorem Tryz.lays119 : Go.Proofs.Lays.n119 Tryz.prog Tryz.lays119_ren := {
  mixed := by kernel_rfl
  f119 := Tryz.func142.trans (congrArg some (by kernel_rfl))
  t4 := Tryz.underlying4
  a4 := Tryz.isAgg4
  z4 := Tryz.sizeOf4
  v4 := Tryz.zeroValue4
  t21 := Tryz.underlying21
  a21 := Tryz.isAgg21
  z21 := Tryz.sizeOf21
  v21 := Tryz.zeroValue21 }
theorem Tryz.utf8_ValidRune (r : Int) (w : World) :
    Calls Tryz.prog 142 #[.int .i32 r] w fun e w' => e = .returned (.bool (Lib.validRune r)) ∧ w' = w := Any.utf8_ValidRune Tryz.lays119 r w
def Tryz.laysValid_ren : Go.Shelf.Ren := ⟨fun | 196 => 121 | 259 => 143 | n => n, fun | 9 => 9 | 4 => 4 | 3 => 3 | 5 => 5 | 12 => 12 | 119 => 161 | 0 => 0 | 46 => 165 | 139 => 164 | 138 => 163 | 53 => 172 | n => n, fun | 3 => 0 | 4 => 1 | n => n⟩
theorem Tryz.laysValid : Go.Proofs.Lays.n196 Tryz.prog Tryz.laysValid_ren := {
  mixed := by kernel_rfl
  f196 := Tryz.func121.trans (congrArg some (by kernel_rfl))
  f259 := Tryz.func143.trans (congrArg some (by kernel_rfl))
  t0 := Tryz.underlying0
  a0 := Tryz.isAgg0
  z0 := Tryz.sizeOf0
  v0 := Tryz.zeroValue0
  t3 := Tryz.underlying3
  a3 := Tryz.isAgg3
  z3 := Tryz.sizeOf3
  v3 := Tryz.zeroValue3
  t4 := Tryz.underlying4
  a4 := Tryz.isAgg4
  z4 := Tryz.sizeOf4
  v4 := Tryz.zeroValue4
  t5 := Tryz.underlying5
  a5 := Tryz.isAgg5
  z5 := Tryz.sizeOf5
  v5 := Tryz.zeroValue5
  t9 := Tryz.underlying9
  a9 := Tryz.isAgg9
  z9 := Tryz.sizeOf9
  v9 := Tryz.zeroValue9
  t12 := Tryz.underlying12
  a12 := Tryz.isAgg12
  z12 := Tryz.sizeOf12
  v12 := Tryz.zeroValue12
  t46 := Tryz.underlying165
  a46 := Tryz.isAgg165
  z46 := Tryz.sizeOf165
  v46 := Tryz.zeroValue165
  t53 := Tryz.underlying172
  a53 := Tryz.isAgg172
  z53 := Tryz.sizeOf172
  v53 := Tryz.zeroValue172
  t119 := Tryz.underlying161
  a119 := Tryz.isAgg161
  z119 := Tryz.sizeOf161
  t138 := Tryz.underlying163
  a138 := Tryz.isAgg163
  z138 := Tryz.sizeOf163
  v138 := Tryz.zeroValue163
  t139 := Tryz.underlying164
  a139 := Tryz.isAgg164
  z139 := Tryz.sizeOf164
  v139 := Tryz.zeroValue164
  g3 := by kernel_rfl
  g4 := by kernel_rfl }
end Go.Proofs
namespace Go.Proofs.YtdpakekdbkpdfaaGreatDoor.G
open Go.RowKit
set_option linter.unusedVariables false
set_option linter.unusedSimpArgs false
set_option maxRecDepth 100000
theorem TrB_is1_3 : Is1 Tryz.prog 3 := ⟨⟨_, Tryz.underlying3, rfl⟩, by kernel_rfl⟩
theorem TrB_is1_39 : Is1 Tryz.prog 39 := ⟨⟨_, Tryz.underlying39, rfl⟩, by kernel_rfl⟩
theorem TrB_is1_4 : Is1 Tryz.prog 4 := ⟨⟨_, Tryz.underlying4, rfl⟩, by kernel_rfl⟩
theorem TrB_is1_46 : Is1 Tryz.prog 46 := ⟨⟨_, Tryz.underlying46, rfl⟩, by kernel_rfl⟩
theorem TrB_is1_51 : Is1 Tryz.prog 51 := ⟨⟨_, Tryz.underlying51, rfl⟩, by kernel_rfl⟩
theorem TrB_is1_9 : Is1 Tryz.prog 9 := ⟨⟨_, Tryz.underlying9, rfl⟩, by kernel_rfl⟩
theorem TrB_fld_48_0 : FieldAt Tryz.prog 48 0 0 := ⟨_, _, Tryz.underlying48, rfl, rfl, by kernel_rfl⟩
theorem TrB_fld_48_1 : FieldAt Tryz.prog 48 1 1 := ⟨_, _, Tryz.underlying48, rfl, rfl, by kernel_rfl⟩
theorem TrB_fld_48_2 : FieldAt Tryz.prog 48 2 2 := ⟨_, _, Tryz.underlying48, rfl, rfl, by kernel_rfl⟩
theorem TrB_fld_50_0 : FieldAt Tryz.prog 50 0 0 := ⟨_, _, Tryz.underlying50, rfl, rfl, by kernel_rfl⟩
theorem TrB_fld_50_1 : FieldAt Tryz.prog 50 1 3 := ⟨_, _, Tryz.underlying50, rfl, rfl, by kernel_rfl⟩
theorem TrB_fld_53_0 : FieldAt Tryz.prog 53 0 0 := ⟨_, _, Tryz.underlying53, rfl, rfl, by kernel_rfl⟩
theorem TrB_fld_53_1 : FieldAt Tryz.prog 53 1 1 := ⟨_, _, Tryz.underlying53, rfl, rfl, by kernel_rfl⟩
theorem TrB_fld_53_2 : FieldAt Tryz.prog 53 2 2 := ⟨_, _, Tryz.underlying53, rfl, rfl, by kernel_rfl⟩
theorem TrB_fld_53_3 : FieldAt Tryz.prog 53 3 8 := ⟨_, _, Tryz.underlying53, rfl, rfl, by kernel_rfl⟩
theorem TrB_fld_53_4 : FieldAt Tryz.prog 53 4 9 := ⟨_, _, Tryz.underlying53, rfl, rfl, by kernel_rfl⟩
theorem TrB_fld_53_5 : FieldAt Tryz.prog 53 5 10 := ⟨_, _, Tryz.underlying53, rfl, rfl, by kernel_rfl⟩
theorem TrB_isS_48 : IsS Tryz.prog 48 3 := ⟨⟨_, Tryz.underlying48⟩, by kernel_rfl⟩
theorem TrB_isS_50 : IsS Tryz.prog 50 6 := ⟨⟨_, Tryz.underlying50⟩, by kernel_rfl⟩
theorem TrB_isS_53 : IsS Tryz.prog 53 11 := ⟨⟨_, Tryz.underlying53⟩, by kernel_rfl⟩
/-- The library's tables of characters are there. -/
def Tabs8 (w : World) : Prop := Lib.Utf8Tabs (Tryz.laysValid_ren.g 3) (Tryz.laysValid_ren.g 4) w
theorem Tabs8.below {w w' : World} (h : Tabs8 w) (hb : Below w.heap.size w w') : Tabs8 w' := Utf8Tabs_below h hb
theorem ve {w : World} {s : ByteArray} (hs : s.size ≤ 9223372036854775807) (hT : Tabs8 w) {b : Bool} (h : okS s = b) : Calls Tryz.prog 121 #[.string s] w fun e w' => e = .returned (.bool b) ∧ Below w.heap.size w w' := h ▸ Any.utf8_ValidString Tryz.laysValid s w hs hT
theorem vrune_any {w : World} {r : Int} : Calls Tryz.prog 142 #[.int .i32 r] w fun e w' => e = .returned (.bool (Lib.validRune r)) ∧ Below w.heap.size w w' := (Tryz.utf8_ValidRune r w).mono fun e w' ⟨h, e2⟩ => ⟨h, e2 ▸ Below.refl _ _⟩
theorem qjh {P : Program} {s d : TypeId} (hs : P.underlying s = some (.int .i64)) (hd : P.underlying d = some (.int .i32)) {n : Int} (h0 : 0 ≤ n) (h1 : n ≤ 1114111) : ∀ w, (convert s d (.int .i64 n)).run P w = .ok (.int .i32 n) w := fun w => by
 simp [go_sem, run_underlying hs, run_underlying hd, convert]
 exact in_i32 (by omega) (by omega)
theorem isCh_any {w : World} {n : Int} : Calls Tryz.prog 120 #[.int .i64 n] w fun e w' => e = .returned (.bool (qfi n)) ∧ Below w.heap.size w w' := by
 have M : Mg w w ([]) := Mg.start w
 refine qr (l := [(0, .int .i64 n)]) Tryz.func120 rfl Tryz.ntmps120 rfl rfl ?_
 intro Q hret hnorm hP a A
 refine wsk fun K1 hK1 => wrl (sda A λa A↦?_)
 refine qa (hK1 _ _ (wsk fun K2 hK2 => wrl (sdm A λa A↦?_)))
 rcases tf (decide (0 ≤ n)) with hb3 | hb3
 ·
  have hb3' := of_decide_eq_true hb3
  refine sdc A xz hb3 λa A↦?_
  iterate 2 refine sdm A λa A↦?_
  rcases tf (decide (n ≤ 1114111)) with hb4 | hb4
  ·
   have hb4' := of_decide_eq_true hb4
   refine sdc A qid hb4 λa A↦?_
   refine sdk (v := .bool true) A λa A↦?_
   iterate 2 refine sdm A λa A↦?_
   refine sdo (v := .int .i32 n) A (yv rfl (qjh Tryz.underlying3 Tryz.underlying21 (by omega) (by omega))) λa A↦?_
   refine gcl A M (ef rfl rfl) (vrune_any) fun w5 hbv M a A => ?_
   refine sdo (v := .bool (Lib.validRune n)) A (vp rfl rfl rfl rfl) λa A↦?_
   refine sda A λa A↦?_
   refine qa (hK2 _ _ (wp_ret (hret _ _ (en1 A rfl (qe rfl) ?_))))
   exact ⟨by rw [show qfi n = Lib.validRune n from by unfold qfi; unfold Lib.validRune; exact decide_eq_decide.2 (by omega)], M.bel⟩
  ·
   have hb4' := of_decide_eq_false hb4
   refine sdc A qid hb4 λa A↦?_
   refine sdk (v := .bool false) A λa A↦?_
   refine sdm A λa A↦?_
   iterate 3 refine qt A rfl rfl rfl λa A↦?_
   refine sdk (v := .bool false) A λa A↦?_
   refine sda A λa A↦?_
   refine qa (hK2 _ _ (wp_ret (hret _ _ (en1 A rfl (qe rfl) ?_))))
   exact ⟨by rw [show qfi n = false from by unfold qfi; apply decide_eq_false; omega], M.bel⟩
 ·
  have hb3' := of_decide_eq_false hb3
  refine sdc A xz hb3 λa A↦?_
  refine sdm A λa A↦?_
  iterate 2 refine qt A rfl rfl rfl λa A↦?_
  refine sdk (v := .bool false) A λa A↦?_
  refine sdm A λa A↦?_
  iterate 3 refine qt A rfl rfl rfl λa A↦?_
  refine sdk (v := .bool false) A λa A↦?_
  refine sda A λa A↦?_
  refine qa (hK2 _ _ (wp_ret (hret _ _ (en1 A rfl (qe rfl) ?_))))
  exact ⟨by rw [show qfi n = false from by unfold qfi; apply decide_eq_false; omega], M.bel⟩
theorem va {w : World} {b : Bool} {o1 o2 : Option Addr} {m1 m2 c1 c2 : Nat} (h1 : m1 ≤ 9223372036854775807) (h2 : m2 ≤ 9223372036854775807) {r : Bool} (hr : qdb b m1 m2 = r) : Calls Tryz.prog 144 #[.agg #[.bool b, .slice o1 m1 c1, .slice o2 m2 c2]] w fun e w' => e = .returned (.bool r) ∧ Below w.heap.size w w' := by
 have M : Mg w w ([]) := Mg.start w
 refine qr (l := [(0, .agg #[.bool b, .slice o1 m1 c1, .slice o2 m2 c2])]) Tryz.func144 rfl Tryz.ntmps144 rfl rfl ?_
 intro Q hret hnorm hP a A
 refine wsk fun K1 hK1 => wrl (zg (vs := [.bool b, .slice o1 m1 c1, .slice o2 m2 c2]) (t := 48) A M rfl rfl rfl pg (zd rfl rfl) (by decide) ?_)
 intro g2 w3 M a A
 refine sda A λa A↦?_
 refine qa (hK1 _ _ (wsk fun K4 hK4 => wrl (sdo (v := .pointer (some ⟨g2, 0, none⟩)) A (qb TrB_fld_48_0 rfl rfl) λa A↦?_)))
 refine sdo A (qi M TrB_is1_4 rfl 0 rfl rfl) λa A↦?_
 rcases b with _ | _
 ·
  refine sdo (v := .bool true) A (zb rfl zn) λa A↦?_
  refine sdm A λa A↦?_
  refine sdo (v := .pointer (some ⟨g2, 1, none⟩)) A (qb TrB_fld_48_1 rfl rfl) λa A↦?_
  refine sdo A (qi M TrB_is1_46 rfl 0 rfl rfl) λa A↦?_
  refine sdo A (ze Tryz.underlying46 rfl) λa A↦?_
  rcases tf ((((m1 : Nat) : Int) == 0)) with hb5 | hb5
  ·
   have hb5' := eq_of_beq hb5
   refine sdc A qx hb5 λa A↦?_
   refine sdk (v := .bool true) A λa A↦?_
   refine sdm A λa A↦?_
   refine sdo (v := .pointer (some ⟨g2, 2, none⟩)) A (qb TrB_fld_48_2 rfl rfl) λa A↦?_
   refine sdo A (qi M TrB_is1_46 rfl 0 rfl rfl) λa A↦?_
   refine sdo A (ze Tryz.underlying46 rfl) λa A↦?_
   rcases tf ((((m2 : Nat) : Int) == 0)) with hb6 | hb6
   ·
    have hb6' := eq_of_beq hb6
    refine sdc A qx hb6 λa A↦?_
    refine sdk (v := .bool true) A λa A↦?_
    refine sda A λa A↦?_
    refine qa (hK4 _ _ (wp_ret (hret _ _ (en1 A rfl (qe rfl) ?_))))
    subst hr
    exact ⟨by unfold qdb; simp_all; try omega, M.bel⟩
   ·
    have hb6' := ne_of_beq_false hb6
    refine sdc A qx hb6 λa A↦?_
    refine sdk (v := .bool false) A λa A↦?_
    refine sda A λa A↦?_
    refine qa (hK4 _ _ (wp_ret (hret _ _ (en1 A rfl (qe rfl) ?_))))
    subst hr
    exact ⟨by unfold qdb; simp_all; try omega, M.bel⟩
  ·
   have hb5' := ne_of_beq_false hb5
   refine sdc A qx hb5 λa A↦?_
   refine sdk (v := .bool false) A λa A↦?_
   refine sdm A λa A↦?_
   iterate 4 refine qt A rfl rfl rfl λa A↦?_
   refine sdk (v := .bool false) A λa A↦?_
   refine sda A λa A↦?_
   refine qa (hK4 _ _ (wp_ret (hret _ _ (en1 A rfl (qe rfl) ?_))))
   subst hr
   exact ⟨by unfold qdb; simp_all; try omega, M.bel⟩
 ·
  refine sdo (v := .bool false) A (zb rfl zn) λa A↦?_
  refine sdm A λa A↦?_
  iterate 4 refine qt A rfl rfl rfl λa A↦?_
  refine sdk (v := .bool false) A λa A↦?_
  refine sdm A λa A↦?_
  iterate 4 refine qt A rfl rfl rfl λa A↦?_
  refine sdk (v := .bool false) A λa A↦?_
  refine sda A λa A↦?_
  refine qa (hK4 _ _ (wp_ret (hret _ _ (en1 A rfl (qe rfl) ?_))))
  subst hr
  exact ⟨by unfold qdb; simp_all; try omega, M.bel⟩
theorem bare_any {w : World} {k n : Int} {b1 b2 : Bool} {o1 o2 o3 o4 ro lo : Option Addr} {m1 m2 m3 m4 mr ml c1 c2 c3 c4 rc lc : Nat} {s : ByteArray} (h1 : m1 ≤ 9223372036854775807) (h2 : m2 ≤ 9223372036854775807) (h3 : m3 ≤ 9223372036854775807) (h4 : m4 ≤ 9223372036854775807) {r : Bool} (hr : xe n b1 m1 m2 b2 m3 m4 s mr ml = r) : Calls Tryz.prog 122 #[.agg #[.int .i64 k, .int .i64 n, .bool b1, .slice o1 m1 c1, .slice o2 m2 c2, .bool b2, .slice o3 m3 c3, .slice o4 m4 c4, .string s, .slice ro mr rc, .slice lo ml lc]] w fun e w' => e = .returned (.bool r) ∧ Below w.heap.size w w' := by
 have M : Mg w w ([]) := Mg.start w
 refine qr (l := [(0, .agg #[.int .i64 k, .int .i64 n, .bool b1, .slice o1 m1 c1, .slice o2 m2 c2, .bool b2, .slice o3 m3 c3, .slice o4 m4 c4, .string s, .slice ro mr rc, .slice lo ml lc])]) Tryz.func122 rfl Tryz.ntmps122 rfl rfl ?_
 intro Q hret hnorm hP a A
 refine wsk fun K1 hK1 => wrl (zg (vs := [.int .i64 k, .int .i64 n, .bool b1, .slice o1 m1 c1, .slice o2 m2 c2, .bool b2, .slice o3 m3 c3, .slice o4 m4 c4, .string s, .slice ro mr rc, .slice lo ml lc]) (t := 53) A M rfl rfl rfl pg (zd rfl rfl) (by decide) ?_)
 intro g2 w3 M a A
 refine sda A λa A↦?_
 refine qa (hK1 _ _ (wsk fun K4 hK4 => wrl (sdo (v := .pointer (some ⟨g2, 1, none⟩)) A (qb TrB_fld_53_1 rfl rfl) λa A↦?_)))
 refine sdo A (qi M TrB_is1_3 rfl 0 rfl rfl) λa A↦?_
 rcases tf ((n == 0)) with hb5 | hb5
 ·
  have hb5' := eq_of_beq hb5
  refine sdc A qx hb5 λa A↦?_
  refine sdm A λa A↦?_
  refine sdo (v := .pointer (some ⟨g2, 2, none⟩)) A (qb TrB_fld_53_2 rfl rfl) λa A↦?_
  refine sdo (v := .pointer (some ⟨g2, 2, none⟩)) A (qb TrB_fld_50_0 rfl rfl) λa A↦?_
  refine sdo A (za M TrB_isS_48 rfl 0 rfl (cs := [.bool b1, .slice o1 m1 c1, .slice o2 m2 c2]) rfl rfl) λa A↦?_
  rcases tf (qdb b1 m1 m2) with hb6 | hb6
  ·
   refine gcl A M (ef rfl rfl) (va h1 h2 hb6) fun w8 hb7 M a A => ?_
   refine sdk (v := .bool true) A λa A↦?_
   refine sdm A λa A↦?_
   refine sdo (v := .pointer (some ⟨g2, 2, none⟩)) A (qb TrB_fld_53_2 rfl rfl) λa A↦?_
   refine sdo (v := .pointer (some ⟨g2, 5, none⟩)) A (qb TrB_fld_50_1 rfl rfl) λa A↦?_
   refine sdo A (za M TrB_isS_48 rfl 0 rfl (cs := [.bool b2, .slice o3 m3 c3, .slice o4 m4 c4]) rfl rfl) λa A↦?_
   rcases tf (qdb b2 m3 m4) with hb9 | hb9
   ·
    refine gcl A M (ef rfl rfl) (va h3 h4 hb9) fun w11 hb10 M a A => ?_
    refine sdk (v := .bool true) A λa A↦?_
    refine sdm A λa A↦?_
    refine sdo (v := .pointer (some ⟨g2, 8, none⟩)) A (qb TrB_fld_53_3 rfl rfl) λa A↦?_
    refine sdo A (qi M TrB_is1_9 rfl 0 rfl rfl) λa A↦?_
    rcases tf (decide (s = ⟨#[]⟩)) with hb12 | hb12
    ·
     have hb12' := of_decide_eq_true hb12
     refine sdo (v := .bool true) A (qg rfl rfl (fun w => (yx Tryz.underlying9 w).trans (by rw [hb12] <;> rfl))) λa A↦?_
     refine sdk (v := .bool true) A λa A↦?_
     refine sdm A λa A↦?_
     refine sdo (v := .pointer (some ⟨g2, 9, none⟩)) A (qb TrB_fld_53_4 rfl rfl) λa A↦?_
     refine sdo A (qi M TrB_is1_51 rfl 0 rfl rfl) λa A↦?_
     refine sdo A (ze Tryz.underlying51 rfl) λa A↦?_
     rcases tf ((((mr : Nat) : Int) == 0)) with hb13 | hb13
     ·
      have hb13' := eq_of_beq hb13
      refine sdc A qx hb13 λa A↦?_
      refine sdk (v := .bool true) A λa A↦?_
      refine sdm A λa A↦?_
      refine sdo (v := .pointer (some ⟨g2, 10, none⟩)) A (qb TrB_fld_53_5 rfl rfl) λa A↦?_
      refine sdo A (qi M TrB_is1_39 rfl 0 rfl rfl) λa A↦?_
      refine sdo A (ze Tryz.underlying39 rfl) λa A↦?_
      rcases tf ((((ml : Nat) : Int) == 0)) with hb14 | hb14
      ·
       have hb14' := eq_of_beq hb14
       refine sdc A qx hb14 λa A↦?_
       refine sdk (v := .bool true) A λa A↦?_
       refine sda A λa A↦?_
       refine qa (hK4 _ _ (wp_ret (hret _ _ (en1 A rfl (qe rfl) ?_))))
       subst hr
       exact ⟨by unfold xe; simp_all, M.bel⟩
      ·
       have hb14' := ne_of_beq_false hb14
       refine sdc A qx hb14 λa A↦?_
       refine sdk (v := .bool false) A λa A↦?_
       refine sda A λa A↦?_
       refine qa (hK4 _ _ (wp_ret (hret _ _ (en1 A rfl (qe rfl) ?_))))
       subst hr
       exact ⟨by unfold xe; simp_all, M.bel⟩
     ·
      have hb13' := ne_of_beq_false hb13
      refine sdc A qx hb13 λa A↦?_
      refine sdk (v := .bool false) A λa A↦?_
      refine sdm A λa A↦?_
      iterate 4 refine qt A rfl rfl rfl λa A↦?_
      refine sdk (v := .bool false) A λa A↦?_
      refine sda A λa A↦?_
      refine qa (hK4 _ _ (wp_ret (hret _ _ (en1 A rfl (qe rfl) ?_))))
      subst hr
      exact ⟨by unfold xe; simp_all, M.bel⟩
    ·
     have hb12' := of_decide_eq_false hb12
     refine sdo (v := .bool false) A (qg rfl rfl (fun w => (yx Tryz.underlying9 w).trans (by rw [hb12] <;> rfl))) λa A↦?_
     refine sdk (v := .bool false) A λa A↦?_
     refine sdm A λa A↦?_
     iterate 4 refine qt A rfl rfl rfl λa A↦?_
     refine sdk (v := .bool false) A λa A↦?_
     refine sdm A λa A↦?_
     iterate 4 refine qt A rfl rfl rfl λa A↦?_
     refine sdk (v := .bool false) A λa A↦?_
     refine sda A λa A↦?_
     refine qa (hK4 _ _ (wp_ret (hret _ _ (en1 A rfl (qe rfl) ?_))))
     subst hr
     exact ⟨by unfold xe; simp_all, M.bel⟩
   ·
    refine gcl A M (ef rfl rfl) (va h3 h4 hb9) fun w16 hb15 M a A => ?_
    refine sdk (v := .bool false) A λa A↦?_
    refine sdm A λa A↦?_
    iterate 3 refine qt A rfl rfl rfl λa A↦?_
    refine sdk (v := .bool false) A λa A↦?_
    refine sdm A λa A↦?_
    iterate 4 refine qt A rfl rfl rfl λa A↦?_
    refine sdk (v := .bool false) A λa A↦?_
    refine sdm A λa A↦?_
    iterate 4 refine qt A rfl rfl rfl λa A↦?_
    refine sdk (v := .bool false) A λa A↦?_
    refine sda A λa A↦?_
    refine qa (hK4 _ _ (wp_ret (hret _ _ (en1 A rfl (qe rfl) ?_))))
    subst hr
    exact ⟨by unfold xe; simp_all, M.bel⟩
  ·
   refine gcl A M (ef rfl rfl) (va h1 h2 hb6) fun w18 hb17 M a A => ?_
   refine sdk (v := .bool false) A λa A↦?_
   refine sdm A λa A↦?_
   iterate 4 refine qt A rfl rfl rfl λa A↦?_
   refine sdk (v := .bool false) A λa A↦?_
   refine sdm A λa A↦?_
   iterate 3 refine qt A rfl rfl rfl λa A↦?_
   refine sdk (v := .bool false) A λa A↦?_
   refine sdm A λa A↦?_
   iterate 4 refine qt A rfl rfl rfl λa A↦?_
   refine sdk (v := .bool false) A λa A↦?_
   refine sdm A λa A↦?_
   iterate 4 refine qt A rfl rfl rfl λa A↦?_
   refine sdk (v := .bool false) A λa A↦?_
   refine sda A λa A↦?_
   refine qa (hK4 _ _ (wp_ret (hret _ _ (en1 A rfl (qe rfl) ?_))))
   subst hr
   exact ⟨by unfold xe; simp_all, M.bel⟩
 ·
  have hb5' := ne_of_beq_false hb5
  refine sdc A qx hb5 λa A↦?_
  refine sdm A λa A↦?_
  iterate 4 refine qt A rfl rfl rfl λa A↦?_
  refine sdk (v := .bool false) A λa A↦?_
  refine sdm A λa A↦?_
  iterate 4 refine qt A rfl rfl rfl λa A↦?_
  refine sdk (v := .bool false) A λa A↦?_
  refine sdm A λa A↦?_
  iterate 3 refine qt A rfl rfl rfl λa A↦?_
  refine sdk (v := .bool false) A λa A↦?_
  refine sdm A λa A↦?_
  iterate 4 refine qt A rfl rfl rfl λa A↦?_
  refine sdk (v := .bool false) A λa A↦?_
  refine sdm A λa A↦?_
  iterate 4 refine qt A rfl rfl rfl λa A↦?_
  refine sdk (v := .bool false) A λa A↦?_
  refine sda A λa A↦?_
  refine qa (hK4 _ _ (wp_ret (hret _ _ (en1 A rfl (qe rfl) ?_))))
  subst hr
  exact ⟨by unfold xe; simp_all, M.bel⟩
theorem qed {w : World} {d : Nd} {ts : List Dt} (hok : NdOk w d) (hT : Tabs8 w) : Calls Tryz.prog 100 #[.agg (d.cells ts.length).toArray] w fun e w' => e = .returned (.bool (jf d.k d.n d.y.q d.s d.rl.length ts.length)) ∧ Below w.heap.size w w' := by
 have hq1 := hok.len.l1
 have hq2 := hok.len.l2
 have hq3 := hok.len.l3
 have hq4 := hok.len.l4
 have M : Mg w w ([]) := Mg.start w
 refine qr (l := [(0, .agg (d.cells ts.length).toArray)]) Tryz.func100 rfl Tryz.ntmps100 rfl rfl ?_
 intro Q hret hnorm hP a A
 refine wsk fun K1 hK1 => wrl (zg (vs := [.int .i64 d.k, .int .i64 d.n, .bool d.y.q.b1, .slice d.y.o1 d.y.q.t1.length d.y.c1, .slice d.y.o2 d.y.q.q1.length d.y.c2, .bool d.y.q.b2, .slice d.y.o3 d.y.q.t2.length d.y.c3, .slice d.y.o4 d.y.q.q2.length d.y.c4, .string d.s, .slice d.ro d.rl.length d.rc, .slice d.lo ts.length d.lc]) (t := 53) A M rfl rfl rfl pg (zd rfl rfl) (by decide) ?_)
 intro g2 w3 M a A
 refine sda A λa A↦?_
 refine qa (hK1 _ _ (wsk fun K4 hK4 => wrl (sda A λa A↦?_)))
 refine qa (hK4 _ _ (wsk fun K5 hK5 => ?_))
 have hJ6 : ∀ a w1, (∃ (ok : Bool) (z1 : Int) (z2 : Bool) (y1 : Option Addr) (m1 : Nat) (e1 : Nat) (y2 : Option Addr) (m2 : Nat) (e2 : Nat) (z3 : Bool) (y3 : Option Addr) (m3 : Nat) (e3 : Nat) (y4 : Option Addr) (m4 : Nat) (e4 : Nat) (zs : ByteArray) (yr : Option Addr) (mr : Nat) (er : Nat) (yl : Option Addr) (ml : Nat) (el : Nat), (jf d.k d.n d.y.q d.s d.rl.length ts.length = (ok && xe z1 z2 m1 m2 z3 m3 m4 zs mr ml) ∧ m1 ≤ 9223372036854775807 ∧ m2 ≤ 9223372036854775807 ∧ m3 ≤ 9223372036854775807 ∧ m4 ≤ 9223372036854775807) ∧ Sl a 59 [(0, .agg (d.cells ts.length).toArray), (1, .pointer (some ⟨g2, 0, none⟩)), (2, .bool false), (3, .bool ok)] ∧ Mg w w1 (.obj g2 (.cells #[.int .i64 d.k, .int .i64 z1, .bool z2, .slice y1 m1 e1, .slice y2 m2 e2, .bool z3, .slice y3 m3 e3, .slice y4 m4 e4, .string zs, .slice yr mr er, .slice yl ml el] 53) :: [])) → K5 a w1 := by
  clear A M
  rintro a w7 ⟨ok, z1, z2, y1, m1, e1, y2, m2, e2, z3, y3, m3, e3, y4, m4, e4, zs, yr, mr, er, yl, ml, el, hf8, A, M⟩
  obtain ⟨hsh, hq1, hq2, hq3, hq4⟩ := hf8
  refine hK5 _ _ (wsk fun K9 hK9 => wrl ?_)
  iterate 2 refine sdm A λa A↦?_
  rcases ok with _ | _
  ·
   iterate 2 refine qt A rfl rfl rfl λa A↦?_
   refine sdk (v := .bool false) A λa A↦?_
   refine sda A λa A↦?_
   refine qa (hK9 _ _ (wp_ret (hret _ _ (en1 A rfl (qe rfl) ?_))))
   exact ⟨by rw [hsh]; rfl, M.bel⟩
  ·
   refine sdo A (za M TrB_isS_53 rfl 0 rfl (cs := [.int .i64 d.k, .int .i64 z1, .bool z2, .slice y1 m1 e1, .slice y2 m2 e2, .bool z3, .slice y3 m3 e3, .slice y4 m4 e4, .string zs, .slice yr mr er, .slice yl ml el]) rfl rfl) λa A↦?_
   refine gcl A M (ef rfl rfl) (bare_any (by first | exact hq1 | omega) (by first | exact hq2 | omega) (by first | exact hq3 | omega) (by first | exact hq4 | omega) rfl) fun w11 hb10 M a A => ?_
   refine sdo (v := .bool (xe z1 z2 m1 m2 z3 m3 m4 zs mr ml)) A (vp rfl rfl rfl rfl) λa A↦?_
   refine sda A λa A↦?_
   refine qa (hK9 _ _ (wp_ret (hret _ _ (en1 A rfl (qe rfl) ?_))))
   exact ⟨by rw [hsh]; rfl, M.bel⟩
 refine wsk fun K12 hK12 => wrl (sdo (v := .pointer (some ⟨g2, 0, none⟩)) A (qb TrB_fld_53_0 rfl rfl) λa A↦?_)
 refine sdo A (qi M TrB_is1_3 rfl 0 rfl rfl) λa A↦?_
 refine qa (hK12 _ _ (wp_block (wsk fun K13 hK13 => wsk fun K14 hK14 => wrl ?_)))
 rcases tf ((d.k == 1)) with hb15 | hb15
 ·
  have hb15' := eq_of_beq hb15
  refine sdc A qx hb15 λa A↦?_
  refine sda A λa A↦?_
  refine qa (hK14 _ _ (wp_cond_true (A.ev rfl) ?_))
  refine wp_skip (hK13 _ _ (wp_cond_true (A.ev rfl) ?_))
  refine wp_skip ?_
  exact hJ6 _ _ ⟨true, d.n, d.y.q.b1, d.y.o1, d.y.q.t1.length, d.y.c1, d.y.o2, d.y.q.q1.length, d.y.c2, d.y.q.b2, d.y.o3, d.y.q.t2.length, d.y.c3, d.y.o4, d.y.q.q2.length, d.y.c4, d.s, d.ro, d.rl.length, d.rc, d.lo, ts.length, d.lc, ⟨by
   unfold jf
   repeat (first | rw [if_pos (by omega)] | rw [if_neg (by omega)])
   first | rfl, by first | exact hq1 | decide, by first | exact hq2 | decide, by first | exact hq3 | decide, by first | exact hq4 | decide⟩, A.keep _ ⟨rfl, rfl, rfl, rfl, trivial⟩, M⟩
 ·
  have hb15' := ne_of_beq_false hb15
  refine sdc A qx hb15 λa A↦?_
  refine sda A λa A↦?_
  refine qa (hK14 _ _ (wp_cond_false (A.ev rfl) ?_))
  refine wrl ?_
  rcases tf ((d.k == 10)) with hb16 | hb16
  ·
   have hb16' := eq_of_beq hb16
   refine sdc A qx hb16 λa A↦?_
   refine sda A λa A↦?_
   refine qa (hK13 _ _ (wp_cond_true (A.ev rfl) ?_))
   refine wp_skip ?_
   exact hJ6 _ _ ⟨true, d.n, d.y.q.b1, d.y.o1, d.y.q.t1.length, d.y.c1, d.y.o2, d.y.q.q1.length, d.y.c2, d.y.q.b2, d.y.o3, d.y.q.t2.length, d.y.c3, d.y.o4, d.y.q.q2.length, d.y.c4, d.s, d.ro, d.rl.length, d.rc, d.lo, ts.length, d.lc, ⟨by
    unfold jf
    repeat (first | rw [if_pos (by omega)] | rw [if_neg (by omega)])
    first | rfl, by first | exact hq1 | decide, by first | exact hq2 | decide, by first | exact hq3 | decide, by first | exact hq4 | decide⟩, A.keep _ ⟨rfl, rfl, rfl, rfl, trivial⟩, M⟩
  ·
   have hb16' := ne_of_beq_false hb16
   refine sdc A qx hb16 λa A↦?_
   refine sda A λa A↦?_
   refine qa (hK13 _ _ (wp_cond_false (A.ev rfl) ?_))
   refine wsk fun K17 hK17 => wrl ?_
   rcases tf ((d.k == 2)) with hb18 | hb18
   ·
    have hb18' := eq_of_beq hb18
    refine sdc A qx hb18 λa A↦?_
    refine sda A λa A↦?_
    refine qa (hK17 _ _ (wp_cond_true (A.ev rfl) ?_))
    refine wrl (sdo (v := .pointer (some ⟨g2, 1, none⟩)) A (qb TrB_fld_53_1 rfl rfl) λa A↦?_)
    refine sdo A (qi M TrB_is1_3 rfl 0 rfl rfl) λa A↦?_
    rcases tf ((d.n == 0)) with hb19 | hb19
    ·
     have hb19' := eq_of_beq hb19
     refine sdc A qx hb19 λa A↦?_
     refine sdm A λa A↦?_
     iterate 3 refine qt A rfl rfl rfl λa A↦?_
     refine sdk (v := .bool true) A λa A↦?_
     refine sda A λa A↦?_
     refine sdo (v := .pointer (some ⟨g2, 1, none⟩)) A (qb TrB_fld_53_1 rfl rfl) λa A↦?_
     refine qw (us := [.int .i64 d.k, .int .i64 0, .bool d.y.q.b1, .slice d.y.o1 d.y.q.t1.length d.y.c1, .slice d.y.o2 d.y.q.q1.length d.y.c2, .bool d.y.q.b2, .slice d.y.o3 d.y.q.t2.length d.y.c3, .slice d.y.o4 d.y.q.q2.length d.y.c4, .string d.s, .slice d.ro d.rl.length d.rc, .slice d.lo ts.length d.lc]) (L' := (.obj g2 (.cells #[.int .i64 d.k, .int .i64 0, .bool d.y.q.b1, .slice d.y.o1 d.y.q.t1.length d.y.c1, .slice d.y.o2 d.y.q.q1.length d.y.c2, .bool d.y.q.b2, .slice d.y.o3 d.y.q.t2.length d.y.c3, .slice d.y.o4 d.y.q.q2.length d.y.c4, .string d.s, .slice d.ro d.rl.length d.rc, .slice d.lo ts.length d.lc] 53) :: [])) A M rfl rfl (qj rfl rfl rfl (by kernel_rfl) M 0 rfl rfl rfl) 0 rfl rfl rfl ?_
     intro w20 M
     refine qa ?_
     exact hJ6 _ _ ⟨true, 0, d.y.q.b1, d.y.o1, d.y.q.t1.length, d.y.c1, d.y.o2, d.y.q.q1.length, d.y.c2, d.y.q.b2, d.y.o3, d.y.q.t2.length, d.y.c3, d.y.o4, d.y.q.q2.length, d.y.c4, d.s, d.ro, d.rl.length, d.rc, d.lo, ts.length, d.lc, ⟨by
      unfold jf
      repeat (first | rw [if_pos (by omega)] | rw [if_neg (by omega)])
      first | rfl | (rw [decide_eq_true (show (d.n = 0 ∨ d.n = 1) by omega)]), by first | exact hq1 | decide, by first | exact hq2 | decide, by first | exact hq3 | decide, by first | exact hq4 | decide⟩, A.keep _ ⟨rfl, rfl, rfl, rfl, trivial⟩, M⟩
    ·
     have hb19' := ne_of_beq_false hb19
     refine sdc A qx hb19 λa A↦?_
     refine sdm A λa A↦?_
     refine sdo (v := .pointer (some ⟨g2, 1, none⟩)) A (qb TrB_fld_53_1 rfl rfl) λa A↦?_
     refine sdo A (qi M TrB_is1_3 rfl 0 rfl rfl) λa A↦?_
     rcases tf ((d.n == 1)) with hb21 | hb21
     ·
      have hb21' := eq_of_beq hb21
      refine sdc A qx hb21 λa A↦?_
      refine sdk (v := .bool true) A λa A↦?_
      refine sda A λa A↦?_
      refine sdo (v := .pointer (some ⟨g2, 1, none⟩)) A (qb TrB_fld_53_1 rfl rfl) λa A↦?_
      refine qw (us := [.int .i64 d.k, .int .i64 0, .bool d.y.q.b1, .slice d.y.o1 d.y.q.t1.length d.y.c1, .slice d.y.o2 d.y.q.q1.length d.y.c2, .bool d.y.q.b2, .slice d.y.o3 d.y.q.t2.length d.y.c3, .slice d.y.o4 d.y.q.q2.length d.y.c4, .string d.s, .slice d.ro d.rl.length d.rc, .slice d.lo ts.length d.lc]) (L' := (.obj g2 (.cells #[.int .i64 d.k, .int .i64 0, .bool d.y.q.b1, .slice d.y.o1 d.y.q.t1.length d.y.c1, .slice d.y.o2 d.y.q.q1.length d.y.c2, .bool d.y.q.b2, .slice d.y.o3 d.y.q.t2.length d.y.c3, .slice d.y.o4 d.y.q.q2.length d.y.c4, .string d.s, .slice d.ro d.rl.length d.rc, .slice d.lo ts.length d.lc] 53) :: [])) A M rfl rfl (qj rfl rfl rfl (by kernel_rfl) M 0 rfl rfl rfl) 0 rfl rfl rfl ?_
      intro w22 M
      refine qa ?_
      exact hJ6 _ _ ⟨true, 0, d.y.q.b1, d.y.o1, d.y.q.t1.length, d.y.c1, d.y.o2, d.y.q.q1.length, d.y.c2, d.y.q.b2, d.y.o3, d.y.q.t2.length, d.y.c3, d.y.o4, d.y.q.q2.length, d.y.c4, d.s, d.ro, d.rl.length, d.rc, d.lo, ts.length, d.lc, ⟨by
       unfold jf
       repeat (first | rw [if_pos (by omega)] | rw [if_neg (by omega)])
       first | rfl | (rw [decide_eq_true (show (d.n = 0 ∨ d.n = 1) by omega)]), by first | exact hq1 | decide, by first | exact hq2 | decide, by first | exact hq3 | decide, by first | exact hq4 | decide⟩, A.keep _ ⟨rfl, rfl, rfl, rfl, trivial⟩, M⟩
     ·
      have hb21' := ne_of_beq_false hb21
      refine sdc A qx hb21 λa A↦?_
      refine sdk (v := .bool false) A λa A↦?_
      refine sda A λa A↦?_
      refine sdo (v := .pointer (some ⟨g2, 1, none⟩)) A (qb TrB_fld_53_1 rfl rfl) λa A↦?_
      refine qw (us := [.int .i64 d.k, .int .i64 0, .bool d.y.q.b1, .slice d.y.o1 d.y.q.t1.length d.y.c1, .slice d.y.o2 d.y.q.q1.length d.y.c2, .bool d.y.q.b2, .slice d.y.o3 d.y.q.t2.length d.y.c3, .slice d.y.o4 d.y.q.q2.length d.y.c4, .string d.s, .slice d.ro d.rl.length d.rc, .slice d.lo ts.length d.lc]) (L' := (.obj g2 (.cells #[.int .i64 d.k, .int .i64 0, .bool d.y.q.b1, .slice d.y.o1 d.y.q.t1.length d.y.c1, .slice d.y.o2 d.y.q.q1.length d.y.c2, .bool d.y.q.b2, .slice d.y.o3 d.y.q.t2.length d.y.c3, .slice d.y.o4 d.y.q.q2.length d.y.c4, .string d.s, .slice d.ro d.rl.length d.rc, .slice d.lo ts.length d.lc] 53) :: [])) A M rfl rfl (qj rfl rfl rfl (by kernel_rfl) M 0 rfl rfl rfl) 0 rfl rfl rfl ?_
      intro w23 M
      refine qa ?_
      exact hJ6 _ _ ⟨false, 0, d.y.q.b1, d.y.o1, d.y.q.t1.length, d.y.c1, d.y.o2, d.y.q.q1.length, d.y.c2, d.y.q.b2, d.y.o3, d.y.q.t2.length, d.y.c3, d.y.o4, d.y.q.q2.length, d.y.c4, d.s, d.ro, d.rl.length, d.rc, d.lo, ts.length, d.lc, ⟨by
       unfold jf
       repeat (first | rw [if_pos (by omega)] | rw [if_neg (by omega)])
       first | rfl | (rw [decide_eq_false (show ¬ (d.n = 0 ∨ d.n = 1) by omega)]), by first | exact hq1 | decide, by first | exact hq2 | decide, by first | exact hq3 | decide, by first | exact hq4 | decide⟩, A.keep _ ⟨rfl, rfl, rfl, rfl, trivial⟩, M⟩
   ·
    have hb18' := ne_of_beq_false hb18
    refine sdc A qx hb18 λa A↦?_
    refine sda A λa A↦?_
    refine qa (hK17 _ _ (wp_cond_false (A.ev rfl) ?_))
    refine wsk fun K24 hK24 => wrl ?_
    rcases tf ((d.k == 3)) with hb25 | hb25
    ·
     have hb25' := eq_of_beq hb25
     refine sdc A qx hb25 λa A↦?_
     refine sda A λa A↦?_
     refine qa (hK24 _ _ (wp_cond_true (A.ev rfl) ?_))
     refine wrl (sdo (v := .pointer (some ⟨g2, 2, none⟩)) A (qb TrB_fld_53_2 rfl rfl) λa A↦?_)
     refine sdo A (za M TrB_isS_50 rfl 0 rfl (cs := [.bool d.y.q.b1, .slice d.y.o1 d.y.q.t1.length d.y.c1, .slice d.y.o2 d.y.q.q1.length d.y.c2, .bool d.y.q.b2, .slice d.y.o3 d.y.q.t2.length d.y.c3, .slice d.y.o4 d.y.q.q2.length d.y.c4]) rfl rfl) λa A↦?_
     rcases tf (qie d.y.q) with hb26 | hb26
     ·
      refine gcl A M (ef rfl rfl) (qcg (Nu.below hok.num M.bel) hok.len hb26) fun w28 hb27 M a A => ?_
      refine sdo (v := .agg #[.bool false, .slice none 0 0, .slice none 0 0, .bool false, .slice none 0 0, .slice none 0 0]) A (qn rfl (fun w => by kernel_rfl)) λa A↦?_
      refine sda A λa A↦?_
      refine sdo (v := .pointer (some ⟨g2, 2, none⟩)) A (qb TrB_fld_53_2 rfl rfl) λa A↦?_
      refine qw (us := [.int .i64 d.k, .int .i64 d.n, .bool false, .slice none 0 0, .slice none 0 0, .bool false, .slice none 0 0, .slice none 0 0, .string d.s, .slice d.ro d.rl.length d.rc, .slice d.lo ts.length d.lc]) (L' := (.obj g2 (.cells #[.int .i64 d.k, .int .i64 d.n, .bool false, .slice none 0 0, .slice none 0 0, .bool false, .slice none 0 0, .slice none 0 0, .string d.s, .slice d.ro d.rl.length d.rc, .slice d.lo ts.length d.lc] 53) :: [])) A M rfl rfl (qj rfl rfl rfl (by kernel_rfl) M 0 rfl rfl rfl) 0 rfl rfl rfl ?_
      intro w29 M
      refine qa ?_
      exact hJ6 _ _ ⟨true, d.n, false, none, 0, 0, none, 0, 0, false, none, 0, 0, none, 0, 0, d.s, d.ro, d.rl.length, d.rc, d.lo, ts.length, d.lc, ⟨by
       unfold jf
       repeat (first | rw [if_pos (by omega)] | rw [if_neg (by omega)])
       first | rfl | rw [hb26], by first | exact hq1 | decide, by first | exact hq2 | decide, by first | exact hq3 | decide, by first | exact hq4 | decide⟩, A.keep _ ⟨rfl, rfl, rfl, rfl, trivial⟩, M⟩
     ·
      refine gcl A M (ef rfl rfl) (qcg (Nu.below hok.num M.bel) hok.len hb26) fun w31 hb30 M a A => ?_
      refine sdo (v := .agg #[.bool false, .slice none 0 0, .slice none 0 0, .bool false, .slice none 0 0, .slice none 0 0]) A (qn rfl (fun w => by kernel_rfl)) λa A↦?_
      refine sda A λa A↦?_
      refine sdo (v := .pointer (some ⟨g2, 2, none⟩)) A (qb TrB_fld_53_2 rfl rfl) λa A↦?_
      refine qw (us := [.int .i64 d.k, .int .i64 d.n, .bool false, .slice none 0 0, .slice none 0 0, .bool false, .slice none 0 0, .slice none 0 0, .string d.s, .slice d.ro d.rl.length d.rc, .slice d.lo ts.length d.lc]) (L' := (.obj g2 (.cells #[.int .i64 d.k, .int .i64 d.n, .bool false, .slice none 0 0, .slice none 0 0, .bool false, .slice none 0 0, .slice none 0 0, .string d.s, .slice d.ro d.rl.length d.rc, .slice d.lo ts.length d.lc] 53) :: [])) A M rfl rfl (qj rfl rfl rfl (by kernel_rfl) M 0 rfl rfl rfl) 0 rfl rfl rfl ?_
      intro w32 M
      refine qa ?_
      exact hJ6 _ _ ⟨false, d.n, false, none, 0, 0, none, 0, 0, false, none, 0, 0, none, 0, 0, d.s, d.ro, d.rl.length, d.rc, d.lo, ts.length, d.lc, ⟨by
       unfold jf
       repeat (first | rw [if_pos (by omega)] | rw [if_neg (by omega)])
       first | rfl | rw [hb26], by first | exact hq1 | decide, by first | exact hq2 | decide, by first | exact hq3 | decide, by first | exact hq4 | decide⟩, A.keep _ ⟨rfl, rfl, rfl, rfl, trivial⟩, M⟩
    ·
     have hb25' := ne_of_beq_false hb25
     refine sdc A qx hb25 λa A↦?_
     refine sda A λa A↦?_
     refine qa (hK24 _ _ (wp_cond_false (A.ev rfl) ?_))
     refine wsk fun K33 hK33 => wrl ?_
     rcases tf ((d.k == 4)) with hb34 | hb34
     ·
      have hb34' := eq_of_beq hb34
      refine sdc A qx hb34 λa A↦?_
      refine sda A λa A↦?_
      refine qa (hK33 _ _ (wp_cond_true (A.ev rfl) ?_))
      refine wrl (sdo (v := .pointer (some ⟨g2, 1, none⟩)) A (qb TrB_fld_53_1 rfl rfl) λa A↦?_)
      refine sdo A (qi M TrB_is1_3 rfl 0 rfl rfl) λa A↦?_
      rcases tf (qfi d.n) with hb35 | hb35
      ·
       refine gcl A M (ef rfl rfl) ((hb35 ▸ isCh_any)) fun w37 hb36 M a A => ?_
       refine sda A λa A↦?_
       refine sdo (v := .pointer (some ⟨g2, 1, none⟩)) A (qb TrB_fld_53_1 rfl rfl) λa A↦?_
       refine qw (us := [.int .i64 d.k, .int .i64 0, .bool d.y.q.b1, .slice d.y.o1 d.y.q.t1.length d.y.c1, .slice d.y.o2 d.y.q.q1.length d.y.c2, .bool d.y.q.b2, .slice d.y.o3 d.y.q.t2.length d.y.c3, .slice d.y.o4 d.y.q.q2.length d.y.c4, .string d.s, .slice d.ro d.rl.length d.rc, .slice d.lo ts.length d.lc]) (L' := (.obj g2 (.cells #[.int .i64 d.k, .int .i64 0, .bool d.y.q.b1, .slice d.y.o1 d.y.q.t1.length d.y.c1, .slice d.y.o2 d.y.q.q1.length d.y.c2, .bool d.y.q.b2, .slice d.y.o3 d.y.q.t2.length d.y.c3, .slice d.y.o4 d.y.q.q2.length d.y.c4, .string d.s, .slice d.ro d.rl.length d.rc, .slice d.lo ts.length d.lc] 53) :: [])) A M rfl rfl (qj rfl rfl rfl (by kernel_rfl) M 0 rfl rfl rfl) 0 rfl rfl rfl ?_
       intro w38 M
       refine qa ?_
       exact hJ6 _ _ ⟨true, 0, d.y.q.b1, d.y.o1, d.y.q.t1.length, d.y.c1, d.y.o2, d.y.q.q1.length, d.y.c2, d.y.q.b2, d.y.o3, d.y.q.t2.length, d.y.c3, d.y.o4, d.y.q.q2.length, d.y.c4, d.s, d.ro, d.rl.length, d.rc, d.lo, ts.length, d.lc, ⟨by
        unfold jf
        repeat (first | rw [if_pos (by omega)] | rw [if_neg (by omega)])
        first | rfl | rw [hb35], by first | exact hq1 | decide, by first | exact hq2 | decide, by first | exact hq3 | decide, by first | exact hq4 | decide⟩, A.keep _ ⟨rfl, rfl, rfl, rfl, trivial⟩, M⟩
      ·
       refine gcl A M (ef rfl rfl) ((hb35 ▸ isCh_any)) fun w40 hb39 M a A => ?_
       refine sda A λa A↦?_
       refine sdo (v := .pointer (some ⟨g2, 1, none⟩)) A (qb TrB_fld_53_1 rfl rfl) λa A↦?_
       refine qw (us := [.int .i64 d.k, .int .i64 0, .bool d.y.q.b1, .slice d.y.o1 d.y.q.t1.length d.y.c1, .slice d.y.o2 d.y.q.q1.length d.y.c2, .bool d.y.q.b2, .slice d.y.o3 d.y.q.t2.length d.y.c3, .slice d.y.o4 d.y.q.q2.length d.y.c4, .string d.s, .slice d.ro d.rl.length d.rc, .slice d.lo ts.length d.lc]) (L' := (.obj g2 (.cells #[.int .i64 d.k, .int .i64 0, .bool d.y.q.b1, .slice d.y.o1 d.y.q.t1.length d.y.c1, .slice d.y.o2 d.y.q.q1.length d.y.c2, .bool d.y.q.b2, .slice d.y.o3 d.y.q.t2.length d.y.c3, .slice d.y.o4 d.y.q.q2.length d.y.c4, .string d.s, .slice d.ro d.rl.length d.rc, .slice d.lo ts.length d.lc] 53) :: [])) A M rfl rfl (qj rfl rfl rfl (by kernel_rfl) M 0 rfl rfl rfl) 0 rfl rfl rfl ?_
       intro w41 M
       refine qa ?_
       exact hJ6 _ _ ⟨false, 0, d.y.q.b1, d.y.o1, d.y.q.t1.length, d.y.c1, d.y.o2, d.y.q.q1.length, d.y.c2, d.y.q.b2, d.y.o3, d.y.q.t2.length, d.y.c3, d.y.o4, d.y.q.q2.length, d.y.c4, d.s, d.ro, d.rl.length, d.rc, d.lo, ts.length, d.lc, ⟨by
        unfold jf
        repeat (first | rw [if_pos (by omega)] | rw [if_neg (by omega)])
        first | rfl | rw [hb35], by first | exact hq1 | decide, by first | exact hq2 | decide, by first | exact hq3 | decide, by first | exact hq4 | decide⟩, A.keep _ ⟨rfl, rfl, rfl, rfl, trivial⟩, M⟩
     ·
      have hb34' := ne_of_beq_false hb34
      refine sdc A qx hb34 λa A↦?_
      refine sda A λa A↦?_
      refine qa (hK33 _ _ (wp_cond_false (A.ev rfl) ?_))
      refine wsk fun K42 hK42 => wsk fun K43 hK43 => wrl ?_
      rcases tf ((d.k == 5)) with hb44 | hb44
      ·
       have hb44' := eq_of_beq hb44
       refine sdc A qx hb44 λa A↦?_
       refine sda A λa A↦?_
       refine qa (hK43 _ _ (wp_cond_true (A.ev rfl) ?_))
       refine wp_skip (hK42 _ _ (wp_cond_true (A.ev rfl) ?_))
       refine wrl (sdo (v := .pointer (some ⟨g2, 8, none⟩)) A (qb TrB_fld_53_3 rfl rfl) λa A↦?_)
       refine sdo A (qi M TrB_is1_9 rfl 0 rfl rfl) λa A↦?_
       rcases tf (okS d.s) with hb45 | hb45
       ·
        refine gcl A M (ef rfl rfl) (ve hok.smax (hT.below M.bel) hb45) fun w47 hb46 M a A => ?_
        refine sda A λa A↦?_
        refine sdo (v := .pointer (some ⟨g2, 8, none⟩)) A (qb TrB_fld_53_3 rfl rfl) λa A↦?_
        refine qw (us := [.int .i64 d.k, .int .i64 d.n, .bool d.y.q.b1, .slice d.y.o1 d.y.q.t1.length d.y.c1, .slice d.y.o2 d.y.q.q1.length d.y.c2, .bool d.y.q.b2, .slice d.y.o3 d.y.q.t2.length d.y.c3, .slice d.y.o4 d.y.q.q2.length d.y.c4, .string (⟨#[]⟩), .slice d.ro d.rl.length d.rc, .slice d.lo ts.length d.lc]) (L' := (.obj g2 (.cells #[.int .i64 d.k, .int .i64 d.n, .bool d.y.q.b1, .slice d.y.o1 d.y.q.t1.length d.y.c1, .slice d.y.o2 d.y.q.q1.length d.y.c2, .bool d.y.q.b2, .slice d.y.o3 d.y.q.t2.length d.y.c3, .slice d.y.o4 d.y.q.q2.length d.y.c4, .string (⟨#[]⟩), .slice d.ro d.rl.length d.rc, .slice d.lo ts.length d.lc] 53) :: [])) A M rfl rfl (qj rfl rfl rfl (by kernel_rfl) M 0 rfl rfl rfl) 0 rfl rfl rfl ?_
        intro w48 M
        refine qa ?_
        exact hJ6 _ _ ⟨true, d.n, d.y.q.b1, d.y.o1, d.y.q.t1.length, d.y.c1, d.y.o2, d.y.q.q1.length, d.y.c2, d.y.q.b2, d.y.o3, d.y.q.t2.length, d.y.c3, d.y.o4, d.y.q.q2.length, d.y.c4, ⟨#[]⟩, d.ro, d.rl.length, d.rc, d.lo, ts.length, d.lc, ⟨by
         unfold jf
         repeat (first | rw [if_pos (by omega)] | rw [if_neg (by omega)])
         first | rfl | rw [hb45], by first | exact hq1 | decide, by first | exact hq2 | decide, by first | exact hq3 | decide, by first | exact hq4 | decide⟩, A.keep _ ⟨rfl, rfl, rfl, rfl, trivial⟩, M⟩
       ·
        refine gcl A M (ef rfl rfl) (ve hok.smax (hT.below M.bel) hb45) fun w50 hb49 M a A => ?_
        refine sda A λa A↦?_
        refine sdo (v := .pointer (some ⟨g2, 8, none⟩)) A (qb TrB_fld_53_3 rfl rfl) λa A↦?_
        refine qw (us := [.int .i64 d.k, .int .i64 d.n, .bool d.y.q.b1, .slice d.y.o1 d.y.q.t1.length d.y.c1, .slice d.y.o2 d.y.q.q1.length d.y.c2, .bool d.y.q.b2, .slice d.y.o3 d.y.q.t2.length d.y.c3, .slice d.y.o4 d.y.q.q2.length d.y.c4, .string (⟨#[]⟩), .slice d.ro d.rl.length d.rc, .slice d.lo ts.length d.lc]) (L' := (.obj g2 (.cells #[.int .i64 d.k, .int .i64 d.n, .bool d.y.q.b1, .slice d.y.o1 d.y.q.t1.length d.y.c1, .slice d.y.o2 d.y.q.q1.length d.y.c2, .bool d.y.q.b2, .slice d.y.o3 d.y.q.t2.length d.y.c3, .slice d.y.o4 d.y.q.q2.length d.y.c4, .string (⟨#[]⟩), .slice d.ro d.rl.length d.rc, .slice d.lo ts.length d.lc] 53) :: [])) A M rfl rfl (qj rfl rfl rfl (by kernel_rfl) M 0 rfl rfl rfl) 0 rfl rfl rfl ?_
        intro w51 M
        refine qa ?_
        exact hJ6 _ _ ⟨false, d.n, d.y.q.b1, d.y.o1, d.y.q.t1.length, d.y.c1, d.y.o2, d.y.q.q1.length, d.y.c2, d.y.q.b2, d.y.o3, d.y.q.t2.length, d.y.c3, d.y.o4, d.y.q.q2.length, d.y.c4, ⟨#[]⟩, d.ro, d.rl.length, d.rc, d.lo, ts.length, d.lc, ⟨by
         unfold jf
         repeat (first | rw [if_pos (by omega)] | rw [if_neg (by omega)])
         first | rfl | rw [hb45], by first | exact hq1 | decide, by first | exact hq2 | decide, by first | exact hq3 | decide, by first | exact hq4 | decide⟩, A.keep _ ⟨rfl, rfl, rfl, rfl, trivial⟩, M⟩
      ·
       have hb44' := ne_of_beq_false hb44
       refine sdc A qx hb44 λa A↦?_
       refine sda A λa A↦?_
       refine qa (hK43 _ _ (wp_cond_false (A.ev rfl) ?_))
       refine wsk fun K52 hK52 => wrl ?_
       rcases tf ((d.k == 6)) with hb53 | hb53
       ·
        have hb53' := eq_of_beq hb53
        refine sdc A qx hb53 λa A↦?_
        refine sda A λa A↦?_
        refine qa (hK52 _ _ (wp_cond_true (A.ev rfl) ?_))
        refine wp_skip (hK42 _ _ (wp_cond_true (A.ev rfl) ?_))
        refine wrl (sdo (v := .pointer (some ⟨g2, 8, none⟩)) A (qb TrB_fld_53_3 rfl rfl) λa A↦?_)
        refine sdo A (qi M TrB_is1_9 rfl 0 rfl rfl) λa A↦?_
        rcases tf (okS d.s) with hb54 | hb54
        ·
         refine gcl A M (ef rfl rfl) (ve hok.smax (hT.below M.bel) hb54) fun w56 hb55 M a A => ?_
         refine sda A λa A↦?_
         refine sdo (v := .pointer (some ⟨g2, 8, none⟩)) A (qb TrB_fld_53_3 rfl rfl) λa A↦?_
         refine qw (us := [.int .i64 d.k, .int .i64 d.n, .bool d.y.q.b1, .slice d.y.o1 d.y.q.t1.length d.y.c1, .slice d.y.o2 d.y.q.q1.length d.y.c2, .bool d.y.q.b2, .slice d.y.o3 d.y.q.t2.length d.y.c3, .slice d.y.o4 d.y.q.q2.length d.y.c4, .string (⟨#[]⟩), .slice d.ro d.rl.length d.rc, .slice d.lo ts.length d.lc]) (L' := (.obj g2 (.cells #[.int .i64 d.k, .int .i64 d.n, .bool d.y.q.b1, .slice d.y.o1 d.y.q.t1.length d.y.c1, .slice d.y.o2 d.y.q.q1.length d.y.c2, .bool d.y.q.b2, .slice d.y.o3 d.y.q.t2.length d.y.c3, .slice d.y.o4 d.y.q.q2.length d.y.c4, .string (⟨#[]⟩), .slice d.ro d.rl.length d.rc, .slice d.lo ts.length d.lc] 53) :: [])) A M rfl rfl (qj rfl rfl rfl (by kernel_rfl) M 0 rfl rfl rfl) 0 rfl rfl rfl ?_
         intro w57 M
         refine qa ?_
         exact hJ6 _ _ ⟨true, d.n, d.y.q.b1, d.y.o1, d.y.q.t1.length, d.y.c1, d.y.o2, d.y.q.q1.length, d.y.c2, d.y.q.b2, d.y.o3, d.y.q.t2.length, d.y.c3, d.y.o4, d.y.q.q2.length, d.y.c4, ⟨#[]⟩, d.ro, d.rl.length, d.rc, d.lo, ts.length, d.lc, ⟨by
          unfold jf
          repeat (first | rw [if_pos (by omega)] | rw [if_neg (by omega)])
          first | rfl | rw [hb54], by first | exact hq1 | decide, by first | exact hq2 | decide, by first | exact hq3 | decide, by first | exact hq4 | decide⟩, A.keep _ ⟨rfl, rfl, rfl, rfl, trivial⟩, M⟩
        ·
         refine gcl A M (ef rfl rfl) (ve hok.smax (hT.below M.bel) hb54) fun w59 hb58 M a A => ?_
         refine sda A λa A↦?_
         refine sdo (v := .pointer (some ⟨g2, 8, none⟩)) A (qb TrB_fld_53_3 rfl rfl) λa A↦?_
         refine qw (us := [.int .i64 d.k, .int .i64 d.n, .bool d.y.q.b1, .slice d.y.o1 d.y.q.t1.length d.y.c1, .slice d.y.o2 d.y.q.q1.length d.y.c2, .bool d.y.q.b2, .slice d.y.o3 d.y.q.t2.length d.y.c3, .slice d.y.o4 d.y.q.q2.length d.y.c4, .string (⟨#[]⟩), .slice d.ro d.rl.length d.rc, .slice d.lo ts.length d.lc]) (L' := (.obj g2 (.cells #[.int .i64 d.k, .int .i64 d.n, .bool d.y.q.b1, .slice d.y.o1 d.y.q.t1.length d.y.c1, .slice d.y.o2 d.y.q.q1.length d.y.c2, .bool d.y.q.b2, .slice d.y.o3 d.y.q.t2.length d.y.c3, .slice d.y.o4 d.y.q.q2.length d.y.c4, .string (⟨#[]⟩), .slice d.ro d.rl.length d.rc, .slice d.lo ts.length d.lc] 53) :: [])) A M rfl rfl (qj rfl rfl rfl (by kernel_rfl) M 0 rfl rfl rfl) 0 rfl rfl rfl ?_
         intro w60 M
         refine qa ?_
         exact hJ6 _ _ ⟨false, d.n, d.y.q.b1, d.y.o1, d.y.q.t1.length, d.y.c1, d.y.o2, d.y.q.q1.length, d.y.c2, d.y.q.b2, d.y.o3, d.y.q.t2.length, d.y.c3, d.y.o4, d.y.q.q2.length, d.y.c4, ⟨#[]⟩, d.ro, d.rl.length, d.rc, d.lo, ts.length, d.lc, ⟨by
          unfold jf
          repeat (first | rw [if_pos (by omega)] | rw [if_neg (by omega)])
          first | rfl | rw [hb54], by first | exact hq1 | decide, by first | exact hq2 | decide, by first | exact hq3 | decide, by first | exact hq4 | decide⟩, A.keep _ ⟨rfl, rfl, rfl, rfl, trivial⟩, M⟩
       ·
        have hb53' := ne_of_beq_false hb53
        refine sdc A qx hb53 λa A↦?_
        refine sda A λa A↦?_
        refine qa (hK52 _ _ (wp_cond_false (A.ev rfl) ?_))
        refine wrl ?_
        rcases tf ((d.k == 11)) with hb61 | hb61
        ·
         have hb61' := eq_of_beq hb61
         refine sdc A qx hb61 λa A↦?_
         refine sda A λa A↦?_
         refine qa (hK42 _ _ (wp_cond_true (A.ev rfl) ?_))
         refine wrl (sdo (v := .pointer (some ⟨g2, 8, none⟩)) A (qb TrB_fld_53_3 rfl rfl) λa A↦?_)
         refine sdo A (qi M TrB_is1_9 rfl 0 rfl rfl) λa A↦?_
         rcases tf (okS d.s) with hb62 | hb62
         ·
          refine gcl A M (ef rfl rfl) (ve hok.smax (hT.below M.bel) hb62) fun w64 hb63 M a A => ?_
          refine sda A λa A↦?_
          refine sdo (v := .pointer (some ⟨g2, 8, none⟩)) A (qb TrB_fld_53_3 rfl rfl) λa A↦?_
          refine qw (us := [.int .i64 d.k, .int .i64 d.n, .bool d.y.q.b1, .slice d.y.o1 d.y.q.t1.length d.y.c1, .slice d.y.o2 d.y.q.q1.length d.y.c2, .bool d.y.q.b2, .slice d.y.o3 d.y.q.t2.length d.y.c3, .slice d.y.o4 d.y.q.q2.length d.y.c4, .string (⟨#[]⟩), .slice d.ro d.rl.length d.rc, .slice d.lo ts.length d.lc]) (L' := (.obj g2 (.cells #[.int .i64 d.k, .int .i64 d.n, .bool d.y.q.b1, .slice d.y.o1 d.y.q.t1.length d.y.c1, .slice d.y.o2 d.y.q.q1.length d.y.c2, .bool d.y.q.b2, .slice d.y.o3 d.y.q.t2.length d.y.c3, .slice d.y.o4 d.y.q.q2.length d.y.c4, .string (⟨#[]⟩), .slice d.ro d.rl.length d.rc, .slice d.lo ts.length d.lc] 53) :: [])) A M rfl rfl (qj rfl rfl rfl (by kernel_rfl) M 0 rfl rfl rfl) 0 rfl rfl rfl ?_
          intro w65 M
          refine qa ?_
          exact hJ6 _ _ ⟨true, d.n, d.y.q.b1, d.y.o1, d.y.q.t1.length, d.y.c1, d.y.o2, d.y.q.q1.length, d.y.c2, d.y.q.b2, d.y.o3, d.y.q.t2.length, d.y.c3, d.y.o4, d.y.q.q2.length, d.y.c4, ⟨#[]⟩, d.ro, d.rl.length, d.rc, d.lo, ts.length, d.lc, ⟨by
           unfold jf
           repeat (first | rw [if_pos (by omega)] | rw [if_neg (by omega)])
           first | rfl | rw [hb62], by first | exact hq1 | decide, by first | exact hq2 | decide, by first | exact hq3 | decide, by first | exact hq4 | decide⟩, A.keep _ ⟨rfl, rfl, rfl, rfl, trivial⟩, M⟩
         ·
          refine gcl A M (ef rfl rfl) (ve hok.smax (hT.below M.bel) hb62) fun w67 hb66 M a A => ?_
          refine sda A λa A↦?_
          refine sdo (v := .pointer (some ⟨g2, 8, none⟩)) A (qb TrB_fld_53_3 rfl rfl) λa A↦?_
          refine qw (us := [.int .i64 d.k, .int .i64 d.n, .bool d.y.q.b1, .slice d.y.o1 d.y.q.t1.length d.y.c1, .slice d.y.o2 d.y.q.q1.length d.y.c2, .bool d.y.q.b2, .slice d.y.o3 d.y.q.t2.length d.y.c3, .slice d.y.o4 d.y.q.q2.length d.y.c4, .string (⟨#[]⟩), .slice d.ro d.rl.length d.rc, .slice d.lo ts.length d.lc]) (L' := (.obj g2 (.cells #[.int .i64 d.k, .int .i64 d.n, .bool d.y.q.b1, .slice d.y.o1 d.y.q.t1.length d.y.c1, .slice d.y.o2 d.y.q.q1.length d.y.c2, .bool d.y.q.b2, .slice d.y.o3 d.y.q.t2.length d.y.c3, .slice d.y.o4 d.y.q.q2.length d.y.c4, .string (⟨#[]⟩), .slice d.ro d.rl.length d.rc, .slice d.lo ts.length d.lc] 53) :: [])) A M rfl rfl (qj rfl rfl rfl (by kernel_rfl) M 0 rfl rfl rfl) 0 rfl rfl rfl ?_
          intro w68 M
          refine qa ?_
          exact hJ6 _ _ ⟨false, d.n, d.y.q.b1, d.y.o1, d.y.q.t1.length, d.y.c1, d.y.o2, d.y.q.q1.length, d.y.c2, d.y.q.b2, d.y.o3, d.y.q.t2.length, d.y.c3, d.y.o4, d.y.q.q2.length, d.y.c4, ⟨#[]⟩, d.ro, d.rl.length, d.rc, d.lo, ts.length, d.lc, ⟨by
           unfold jf
           repeat (first | rw [if_pos (by omega)] | rw [if_neg (by omega)])
           first | rfl | rw [hb62], by first | exact hq1 | decide, by first | exact hq2 | decide, by first | exact hq3 | decide, by first | exact hq4 | decide⟩, A.keep _ ⟨rfl, rfl, rfl, rfl, trivial⟩, M⟩
        ·
         have hb61' := ne_of_beq_false hb61
         refine sdc A qx hb61 λa A↦?_
         refine sda A λa A↦?_
         refine qa (hK42 _ _ (wp_cond_false (A.ev rfl) ?_))
         refine wsk fun K69 hK69 => wrl ?_
         rcases tf ((d.k == 7)) with hb70 | hb70
         ·
          have hb70' := eq_of_beq hb70
          refine sdc A qx hb70 λa A↦?_
          refine sda A λa A↦?_
          refine qa (hK69 _ _ (wp_cond_true (A.ev rfl) ?_))
          refine wrl (sdo (v := .pointer (some ⟨g2, 9, none⟩)) A (qb TrB_fld_53_4 rfl rfl) λa A↦?_)
          refine qw (us := [.int .i64 d.k, .int .i64 d.n, .bool d.y.q.b1, .slice d.y.o1 d.y.q.t1.length d.y.c1, .slice d.y.o2 d.y.q.q1.length d.y.c2, .bool d.y.q.b2, .slice d.y.o3 d.y.q.t2.length d.y.c3, .slice d.y.o4 d.y.q.q2.length d.y.c4, .string d.s, .slice none 0 0, .slice d.lo ts.length d.lc]) (L' := (.obj g2 (.cells #[.int .i64 d.k, .int .i64 d.n, .bool d.y.q.b1, .slice d.y.o1 d.y.q.t1.length d.y.c1, .slice d.y.o2 d.y.q.q1.length d.y.c2, .bool d.y.q.b2, .slice d.y.o3 d.y.q.t2.length d.y.c3, .slice d.y.o4 d.y.q.q2.length d.y.c4, .string d.s, .slice none 0 0, .slice d.lo ts.length d.lc] 53) :: [])) A M rfl rfl (qj rfl rfl rfl (by kernel_rfl) M 0 rfl rfl rfl) 0 rfl rfl rfl ?_
          intro w71 M
          refine qa ?_
          exact hJ6 _ _ ⟨true, d.n, d.y.q.b1, d.y.o1, d.y.q.t1.length, d.y.c1, d.y.o2, d.y.q.q1.length, d.y.c2, d.y.q.b2, d.y.o3, d.y.q.t2.length, d.y.c3, d.y.o4, d.y.q.q2.length, d.y.c4, d.s, none, 0, 0, d.lo, ts.length, d.lc, ⟨by
           unfold jf
           repeat (first | rw [if_pos (by omega)] | rw [if_neg (by omega)])
           first | rfl, by first | exact hq1 | decide, by first | exact hq2 | decide, by first | exact hq3 | decide, by first | exact hq4 | decide⟩, A.keep _ ⟨rfl, rfl, rfl, rfl, trivial⟩, M⟩
         ·
          have hb70' := ne_of_beq_false hb70
          refine sdc A qx hb70 λa A↦?_
          refine sda A λa A↦?_
          refine qa (hK69 _ _ (wp_cond_false (A.ev rfl) ?_))
          refine wsk fun K72 hK72 => wrl ?_
          rcases tf ((d.k == 8)) with hb73 | hb73
          ·
           have hb73' := eq_of_beq hb73
           refine sdc A qx hb73 λa A↦?_
           refine sda A λa A↦?_
           refine qa (hK72 _ _ (wp_cond_true (A.ev rfl) ?_))
           refine wrl (sdo (v := .pointer (some ⟨g2, 10, none⟩)) A (qb TrB_fld_53_5 rfl rfl) λa A↦?_)
           refine sdo A (qi M TrB_is1_39 rfl 0 rfl rfl) λa A↦?_
           refine sdo A (ze Tryz.underlying39 rfl) λa A↦?_
           rcases tf ((((ts.length : Nat) : Int) == 2)) with hb74 | hb74
           ·
            have hb74' := eq_of_beq hb74
            refine sdc A qx hb74 λa A↦?_
            refine sda A λa A↦?_
            refine sdo (v := .pointer (some ⟨g2, 10, none⟩)) A (qb TrB_fld_53_5 rfl rfl) λa A↦?_
            refine qw (us := [.int .i64 d.k, .int .i64 d.n, .bool d.y.q.b1, .slice d.y.o1 d.y.q.t1.length d.y.c1, .slice d.y.o2 d.y.q.q1.length d.y.c2, .bool d.y.q.b2, .slice d.y.o3 d.y.q.t2.length d.y.c3, .slice d.y.o4 d.y.q.q2.length d.y.c4, .string d.s, .slice d.ro d.rl.length d.rc, .slice none 0 0]) (L' := (.obj g2 (.cells #[.int .i64 d.k, .int .i64 d.n, .bool d.y.q.b1, .slice d.y.o1 d.y.q.t1.length d.y.c1, .slice d.y.o2 d.y.q.q1.length d.y.c2, .bool d.y.q.b2, .slice d.y.o3 d.y.q.t2.length d.y.c3, .slice d.y.o4 d.y.q.q2.length d.y.c4, .string d.s, .slice d.ro d.rl.length d.rc, .slice none 0 0] 53) :: [])) A M rfl rfl (qj rfl rfl rfl (by kernel_rfl) M 0 rfl rfl rfl) 0 rfl rfl rfl ?_
            intro w75 M
            refine qa ?_
            exact hJ6 _ _ ⟨true, d.n, d.y.q.b1, d.y.o1, d.y.q.t1.length, d.y.c1, d.y.o2, d.y.q.q1.length, d.y.c2, d.y.q.b2, d.y.o3, d.y.q.t2.length, d.y.c3, d.y.o4, d.y.q.q2.length, d.y.c4, d.s, d.ro, d.rl.length, d.rc, none, 0, 0, ⟨by
             unfold jf
             repeat (first | rw [if_pos (by omega)] | rw [if_neg (by omega)])
             first | rfl | (rw [decide_eq_true (show (ts.length = 2) by omega)]), by first | exact hq1 | decide, by first | exact hq2 | decide, by first | exact hq3 | decide, by first | exact hq4 | decide⟩, A.keep _ ⟨rfl, rfl, rfl, rfl, trivial⟩, M⟩
           ·
            have hb74' := ne_of_beq_false hb74
            refine sdc A qx hb74 λa A↦?_
            refine sda A λa A↦?_
            refine sdo (v := .pointer (some ⟨g2, 10, none⟩)) A (qb TrB_fld_53_5 rfl rfl) λa A↦?_
            refine qw (us := [.int .i64 d.k, .int .i64 d.n, .bool d.y.q.b1, .slice d.y.o1 d.y.q.t1.length d.y.c1, .slice d.y.o2 d.y.q.q1.length d.y.c2, .bool d.y.q.b2, .slice d.y.o3 d.y.q.t2.length d.y.c3, .slice d.y.o4 d.y.q.q2.length d.y.c4, .string d.s, .slice d.ro d.rl.length d.rc, .slice none 0 0]) (L' := (.obj g2 (.cells #[.int .i64 d.k, .int .i64 d.n, .bool d.y.q.b1, .slice d.y.o1 d.y.q.t1.length d.y.c1, .slice d.y.o2 d.y.q.q1.length d.y.c2, .bool d.y.q.b2, .slice d.y.o3 d.y.q.t2.length d.y.c3, .slice d.y.o4 d.y.q.q2.length d.y.c4, .string d.s, .slice d.ro d.rl.length d.rc, .slice none 0 0] 53) :: [])) A M rfl rfl (qj rfl rfl rfl (by kernel_rfl) M 0 rfl rfl rfl) 0 rfl rfl rfl ?_
            intro w76 M
            refine qa ?_
            exact hJ6 _ _ ⟨false, d.n, d.y.q.b1, d.y.o1, d.y.q.t1.length, d.y.c1, d.y.o2, d.y.q.q1.length, d.y.c2, d.y.q.b2, d.y.o3, d.y.q.t2.length, d.y.c3, d.y.o4, d.y.q.q2.length, d.y.c4, d.s, d.ro, d.rl.length, d.rc, none, 0, 0, ⟨by
             unfold jf
             repeat (first | rw [if_pos (by omega)] | rw [if_neg (by omega)])
             first | rfl | (rw [decide_eq_false (show ¬ (ts.length = 2) by omega)]), by first | exact hq1 | decide, by first | exact hq2 | decide, by first | exact hq3 | decide, by first | exact hq4 | decide⟩, A.keep _ ⟨rfl, rfl, rfl, rfl, trivial⟩, M⟩
          ·
           have hb73' := ne_of_beq_false hb73
           refine sdc A qx hb73 λa A↦?_
           refine sda A λa A↦?_
           refine qa (hK72 _ _ (wp_cond_false (A.ev rfl) ?_))
           refine wsk fun K77 hK77 => wrl ?_
           rcases tf ((d.k == 9)) with hb78 | hb78
           ·
            have hb78' := eq_of_beq hb78
            refine sdc A qx hb78 λa A↦?_
            refine sda A λa A↦?_
            refine qa (hK77 _ _ (wp_cond_true (A.ev rfl) ?_))
            refine wrl (sdo (v := .pointer (some ⟨g2, 10, none⟩)) A (qb TrB_fld_53_5 rfl rfl) λa A↦?_)
            refine qw (us := [.int .i64 d.k, .int .i64 d.n, .bool d.y.q.b1, .slice d.y.o1 d.y.q.t1.length d.y.c1, .slice d.y.o2 d.y.q.q1.length d.y.c2, .bool d.y.q.b2, .slice d.y.o3 d.y.q.t2.length d.y.c3, .slice d.y.o4 d.y.q.q2.length d.y.c4, .string d.s, .slice d.ro d.rl.length d.rc, .slice none 0 0]) (L' := (.obj g2 (.cells #[.int .i64 d.k, .int .i64 d.n, .bool d.y.q.b1, .slice d.y.o1 d.y.q.t1.length d.y.c1, .slice d.y.o2 d.y.q.q1.length d.y.c2, .bool d.y.q.b2, .slice d.y.o3 d.y.q.t2.length d.y.c3, .slice d.y.o4 d.y.q.q2.length d.y.c4, .string d.s, .slice d.ro d.rl.length d.rc, .slice none 0 0] 53) :: [])) A M rfl rfl (qj rfl rfl rfl (by kernel_rfl) M 0 rfl rfl rfl) 0 rfl rfl rfl ?_
            intro w79 M
            refine qa ?_
            exact hJ6 _ _ ⟨true, d.n, d.y.q.b1, d.y.o1, d.y.q.t1.length, d.y.c1, d.y.o2, d.y.q.q1.length, d.y.c2, d.y.q.b2, d.y.o3, d.y.q.t2.length, d.y.c3, d.y.o4, d.y.q.q2.length, d.y.c4, d.s, d.ro, d.rl.length, d.rc, none, 0, 0, ⟨by
             unfold jf
             repeat (first | rw [if_pos (by omega)] | rw [if_neg (by omega)])
             first | rfl, by first | exact hq1 | decide, by first | exact hq2 | decide, by first | exact hq3 | decide, by first | exact hq4 | decide⟩, A.keep _ ⟨rfl, rfl, rfl, rfl, trivial⟩, M⟩
           ·
            have hb78' := ne_of_beq_false hb78
            refine sdc A qx hb78 λa A↦?_
            refine sda A λa A↦?_
            refine qa (hK77 _ _ (wp_cond_false (A.ev rfl) ?_))
            refine wrl (sda A λa A↦?_)
            refine qa ?_
            exact hJ6 _ _ ⟨false, d.n, d.y.q.b1, d.y.o1, d.y.q.t1.length, d.y.c1, d.y.o2, d.y.q.q1.length, d.y.c2, d.y.q.b2, d.y.o3, d.y.q.t2.length, d.y.c3, d.y.o4, d.y.q.q2.length, d.y.c4, d.s, d.ro, d.rl.length, d.rc, d.lo, ts.length, d.lc, ⟨by
             unfold jf
             repeat (first | rw [if_pos (by omega)] | rw [if_neg (by omega)])
             first | rfl, by first | exact hq1 | decide, by first | exact hq2 | decide, by first | exact hq3 | decide, by first | exact hq4 | decide⟩, A.keep _ ⟨rfl, rfl, rfl, rfl, trivial⟩, M⟩
theorem TrC_is1_39 : Is1 Tryz.prog 39 := ⟨⟨_, Tryz.underlying39, rfl⟩, by kernel_rfl⟩
theorem TrC_fld_53_5 : FieldAt Tryz.prog 53 5 10 := ⟨_, _, Tryz.underlying53, rfl, rfl, by kernel_rfl⟩
theorem TrC_isS_53 : IsS Tryz.prog 53 11 := ⟨⟨_, Tryz.underlying53⟩, by kernel_rfl⟩
theorem Mg.here {w0 w : World} {L : List Ck} (h : Mg w0 w L) (k : Nat) {g : Nat} {cs : List Value} {t : TypeId} (hk : L[k]? = some (.obj g (.cells cs.toArray t))) : Here w g 0 cs := ⟨(Array.getElem?_eq_some_iff.1 (h.obj k hk)).1, fun j v hj => by rw [Nat.zero_add]; exact h.cell k hk j hj⟩
def Through (t : Dt) : Prop := ∀ {w : World}, t.rd w → Tabs8 w → Calls Tryz.prog 81 #[.agg t.cells.toArray] w fun e w' => e = .returned (.bool (jz qh t.tr)) ∧ Below w.heap.size w w'
theorem qah : ∀ t : Dt, Through t := Dt.indT fun d ts ih => by
 intro w hrd hT
 have hok := (Dt.rd_iff.1 hrd)
 have hlen : ts.length ≤ 9223372036854775807 := Nat.le_trans hok.2.1 hok.2.2.1
 have M : Mg w w ([]) := Mg.start w
 refine qr (l := [(0, .agg (d.cells ts.length).toArray)]) Tryz.func81 rfl Tryz.ntmps81 rfl rfl ?_
 intro Q hret hnorm hP a A
 refine wsk fun K1 hK1 => wrl (zg (vs := [.int .i64 d.k, .int .i64 d.n, .bool d.y.q.b1, .slice d.y.o1 d.y.q.t1.length d.y.c1, .slice d.y.o2 d.y.q.q1.length d.y.c2, .bool d.y.q.b2, .slice d.y.o3 d.y.q.t2.length d.y.c3, .slice d.y.o4 d.y.q.q2.length d.y.c4, .string d.s, .slice d.ro d.rl.length d.rc, .slice d.lo ts.length d.lc]) (t := 53) A M rfl rfl rfl pg (zd rfl rfl) (by decide) ?_)
 intro g2 w3 M a A
 refine sda A λa A↦?_
 refine qa (hK1 _ _ (wsk fun K4 hK4 => wsk fun K5 hK5 => wrl (sdo A (za M TrC_isS_53 rfl 0 rfl (cs := [.int .i64 d.k, .int .i64 d.n, .bool d.y.q.b1, .slice d.y.o1 d.y.q.t1.length d.y.c1, .slice d.y.o2 d.y.q.q1.length d.y.c2, .bool d.y.q.b2, .slice d.y.o3 d.y.q.t2.length d.y.c3, .slice d.y.o4 d.y.q.q2.length d.y.c4, .string d.s, .slice d.ro d.rl.length d.rc, .slice d.lo ts.length d.lc]) rfl rfl) λa A↦?_)))
 rcases tf (jf d.k d.n d.y.q d.s d.rl.length ts.length) with hb6 | hb6
 ·
  refine gcl A M (ef rfl rfl) ((hb6 ▸ qed (ts := ts) (hok.1.below M.bel) (hT.below M.bel))) fun w8 hb7 M a A => ?_
  refine sdo (v := .bool false) A (zb rfl zn) λa A↦?_
  refine qa (hK5 _ _ (wp_cond_false (A.ev rfl) ?_))
  refine wp_skip (hK4 _ _ (wsk fun K9 hK9 => wsk fun K10 hK10 => wrl (sdo (v := .pointer (some ⟨g2, 10, none⟩)) A (qb TrC_fld_53_5 rfl rfl) λa A↦?_)))
  refine sdo A (qi M TrC_is1_39 rfl 0 rfl rfl) λa A↦?_
  refine sdo A (ze Tryz.underlying39 rfl) λa A↦?_
  refine sdm A λa A↦?_
  refine qa (hK10 _ _ (wp_block (ja (fun m_ a w1 => ∃ (i : Nat), m_ = 1 + (ts.length - i) ∧ (i ≤ ts.length ∧ yg qh ((ts.map Dt.tr).drop 0) = yg qh ((ts.map Dt.tr).drop i)) ∧ Sl a 19 [(0, .agg (d.cells ts.length).toArray), (1, .pointer (some ⟨g2, 0, none⟩)), (5, .agg (d.cells ts.length).toArray), (6, .bool true), (7, .bool false), (8, .pointer (some ⟨g2, 10, none⟩)), (9, .slice d.lo ts.length d.lc), (10, .int .i64 (((ts.length : Nat) : Int))), (11, .int .i64 (((i : Nat) : Int)))] ∧ Mg w w1 (.obj g2 (.cells (d.cells ts.length).toArray 53) :: [])) _ ⟨0, rfl, ⟨Nat.zero_le _, rfl⟩, A.keep _ (by repeat' constructor), M⟩ ?_)))
  clear M A
  rintro m_ a w11 ⟨i, rfl, hinv13, A, M⟩ K12 hK12
  obtain ⟨hi0, hin9⟩ := hinv13
  refine wsk fun K14 hK14 => wrl ?_
  rcases tf (decide (((i : Nat) : Int) < ((ts.length : Nat) : Int))) with hb15 | hb15
  ·
   have hb15' := of_decide_eq_true hb15
   refine sdc A zl hb15 λa A↦?_
   refine qa (hK14 _ _ (wsk fun K16 hK16 => wp_cond_true (A.ev rfl) ?_))
   refine wp_skip (hK16 _ _ (wsk fun K17 hK17 => wp_block (wsk fun K18 hK18 => ?_)))
   obtain ⟨t1, b1, o1, hi1, hm1, hr1, hl1, hH1⟩ := kid hrd (i := i) (by omega)
   refine wrl (sdo (v := .pointer (some ⟨b1, o1 + i * 11, none⟩)) A (zp (k := i) Tryz.underlying39 (by kernel_rfl) rfl rfl rfl hl1 (by omega)) λa A↦?_)
   refine sdo A (jp M hH1 TrC_isS_53 rfl rfl) λa A↦?_
   refine zg (vs := [.int .i64 0, .int .i64 0, .bool false, .slice none 0 0, .slice none 0 0, .bool false, .slice none 0 0, .slice none 0 0, .string (⟨#[]⟩), .slice none 0 0, .slice none 0 0]) (t := 53) A M rfl rfl rfl pg (qk (z := .agg #[.int .i64 0, .int .i64 0, .bool false, .slice none 0 0, .slice none 0 0, .bool false, .slice none 0 0, .slice none 0 0, .string (⟨#[]⟩), .slice none 0 0, .slice none 0 0]) (by kernel_rfl) rfl) (by decide) ?_
   intro g19 w20 M a A
   refine qw (us := [.int .i64 t1.d.k, .int .i64 t1.d.n, .bool t1.d.y.q.b1, .slice t1.d.y.o1 t1.d.y.q.t1.length t1.d.y.c1, .slice t1.d.y.o2 t1.d.y.q.q1.length t1.d.y.c2, .bool t1.d.y.q.b2, .slice t1.d.y.o3 t1.d.y.q.t2.length t1.d.y.c3, .slice t1.d.y.o4 t1.d.y.q.q2.length t1.d.y.c4, .string t1.d.s, .slice t1.d.ro t1.d.rl.length t1.d.rc, .slice t1.d.lo t1.ts.length t1.d.lc]) (L' := (.obj g19 (.cells (t1.d.cells t1.ts.length).toArray 53) :: .obj g2 (.cells (d.cells ts.length).toArray 53) :: [])) A M rfl rfl (qj rfl rfl rfl (by kernel_rfl) M 0 rfl rfl rfl) 0 rfl rfl rfl ?_
   intro w21 M
   refine qa (hK18 _ _ (wsk fun K22 hK22 => wrl (sdo A (za M TrC_isS_53 rfl 0 rfl (cs := [.int .i64 t1.d.k, .int .i64 t1.d.n, .bool t1.d.y.q.b1, .slice t1.d.y.o1 t1.d.y.q.t1.length t1.d.y.c1, .slice t1.d.y.o2 t1.d.y.q.q1.length t1.d.y.c2, .bool t1.d.y.q.b2, .slice t1.d.y.o3 t1.d.y.q.t2.length t1.d.y.c3, .slice t1.d.y.o4 t1.d.y.q.q2.length t1.d.y.c4, .string t1.d.s, .slice t1.d.ro t1.d.rl.length t1.d.rc, .slice t1.d.lo t1.ts.length t1.d.lc]) rfl rfl) λa A↦?_)))
   rcases tf (jz qh t1.tr) with hb23 | hb23
   ·
    refine gcl A M (ef rfl rfl) ((hb23 ▸ ih t1 hm1 (Dt.keep M.bel _ hr1) (hT.below M.bel))) fun w25 hb24 M a A => ?_
    refine sdo (v := .bool false) A (zb rfl zn) λa A↦?_
    refine qa (hK22 _ _ (wp_cond_false (A.ev rfl) ?_))
    refine wp_skip (hK17 _ _ (wrl (sdo (v := .int .i64 (((i + 1 : Nat) : Int))) A (qg rfl rfl (fun w => (jk (xj (by omega) (by omega)) w).trans (by rw [show (((i : Nat) : Int) + 1 : Int) = ((i + 1 : Nat) : Int) from by omega]))) λa A↦?_)))
    refine sdm A λa A↦?_
    refine qa ?_
    replace M : Mg w w25 (.obj g2 (.cells (d.cells ts.length).toArray 53) :: []) := by
     have h9 := M.sub (cn (cc (.refl _)))
     exact h9
    refine hK12 _ _ _ (by omega) ⟨i + 1, rfl, ⟨by omega, by rw [hin9, allL_go hi1, hb23, Bool.true_and]⟩, A.keep _ (by repeat' constructor), M⟩
   ·
    refine gcl A M (ef rfl rfl) ((hb23 ▸ ih t1 hm1 (Dt.keep M.bel _ hr1) (hT.below M.bel))) fun w27 hb26 M a A => ?_
    refine sdo (v := .bool true) A (zb rfl zn) λa A↦?_
    refine qa (hK22 _ _ (wp_cond_true (A.ev rfl) ?_))
    refine wsk fun K28 hK28 => wrl (sda A λa A↦?_)
    refine qa (hK28 _ _ (wp_ret (hret _ _ (en1 A rfl (qe rfl) ?_))))
    rw [show jz qh (Dt.mk d ts).tr = false from by rw [qih, ur, hb6, Bool.true_and, hin9, allL_go hi1, hb23, Bool.false_and]]
    exact ⟨rfl, M.bel⟩
  ·
   have hb15' := of_decide_eq_false hb15
   refine sdc A zl hb15 λa A↦?_
   refine qa (hK14 _ _ (wsk fun K29 hK29 => wp_cond_false (A.ev rfl) ?_))
   refine wp_exit (hK9 _ _ (wsk fun K30 hK30 => wrl (sda A λa A↦?_)))
   refine qa (hK30 _ _ (wp_ret (hret _ _ (en1 A rfl (qe rfl) ?_))))
   rw [show jz qh (Dt.mk d ts).tr = true from by rw [qih, ur, hb6, Bool.true_and, hin9, un (by omega), yg]]
   exact ⟨rfl, M.bel⟩
 ·
  refine gcl A M (ef rfl rfl) ((hb6 ▸ qed (ts := ts) (hok.1.below M.bel) (hT.below M.bel))) fun w32 hb31 M a A => ?_
  refine sdo (v := .bool true) A (zb rfl zn) λa A↦?_
  refine qa (hK5 _ _ (wp_cond_true (A.ev rfl) ?_))
  refine wsk fun K33 hK33 => wrl (sda A λa A↦?_)
  refine qa (hK33 _ _ (wp_ret (hret _ _ (en1 A rfl (qe rfl) ?_))))
  rw [show jz qh (Dt.mk d ts).tr = false from by rw [qih, ur, hb6, Bool.false_and]]
  exact ⟨rfl, M.bel⟩
theorem fits_any {w : World} {d : Nd} {ts : List Dt} (hrd : (Dt.mk d ts).rd w) : Calls Tryz.prog 80 #[.agg (d.cells ts.length).toArray] w fun e w' => e = .returned (.bool (je 1 20000 (Dt.mk d ts).tr).1) ∧ Below w.heap.size w w' := by
 have M : Mg w w ([]) := Mg.start w
 refine qr (l := [(0, .agg (d.cells ts.length).toArray)]) Tryz.func80 rfl Tryz.ntmps80 rfl rfl ?_
 intro Q hret hnorm hP a A
 refine wsk fun K1 hK1 => wrl (zg (vs := [.int .i64 d.k, .int .i64 d.n, .bool d.y.q.b1, .slice d.y.o1 d.y.q.t1.length d.y.c1, .slice d.y.o2 d.y.q.q1.length d.y.c2, .bool d.y.q.b2, .slice d.y.o3 d.y.q.t2.length d.y.c3, .slice d.y.o4 d.y.q.q2.length d.y.c4, .string d.s, .slice d.ro d.rl.length d.rc, .slice d.lo ts.length d.lc]) (t := 53) A M rfl rfl rfl pg (zd rfl rfl) (by decide) ?_)
 intro g2 w3 M a A
 refine sda A λa A↦?_
 refine qa (hK1 _ _ (wsk fun K4 hK4 => ?_))
 have hB1 := M.bel
 have hH1 := M.here 0 (cs := d.cells ts.length) rfl
 replace M : Mg w3 w3 [] := Mg.start w3
 refine wrl (zg (vs := [.int .i64 0]) (t := 3) A M rfl rfl rfl pg (qk (z := .int .i64 0) (by kernel_rfl) rfl) (by decide) ?_)
 intro g5 w6 M a A
 refine qw (us := [.int .i64 20000]) (L' := (.obj g5 (.cells #[.int .i64 20000] 3) :: [])) A M rfl rfl (qj rfl rfl rfl (by kernel_rfl) M 0 rfl rfl rfl) 0 rfl rfl rfl ?_
 intro w7 M
 refine qa (hK4 _ _ (wsk fun K8 hK8 => wrl (sct A (ef rfl rfl) (fitsAt_all (Dt.mk d ts) (Dt.keep hB1 _ hrd) hH1 M (by omega) (by omega) (by omega) (by omega)) ?_)))
 rintro _ w10 ⟨rfl, hM9⟩
 replace M : Mg w3 w10 (.obj g5 (.cells #[.int .i64 ((je 1 20000 (Dt.mk d ts).tr).2)] 3) :: []) := hM9
 refine ⟨_, rfl, ?_⟩
 intro a A
 refine sda A λa A↦?_
 refine qa (hK8 _ _ (wp_ret (hret _ _ (en1 A rfl (qe rfl) ?_))))
 exact ⟨rfl, hB1.trans (M.bel.mono hB1.size)⟩
theorem sound_mk {w : World} {d : Nd} {ts : List Dt} (hrd : (Dt.mk d ts).rd w) (hT : Tabs8 w) : Calls Tryz.prog 62 #[.agg (d.cells ts.length).toArray] w fun e w' => e = .returned (.bool (qz qh (Dt.mk d ts).tr)) ∧ Below w.heap.size w w' := by
 have M : Mg w w ([]) := Mg.start w
 refine qr (l := [(0, .agg (d.cells ts.length).toArray)]) Tryz.func62 rfl Tryz.ntmps62 rfl rfl ?_
 intro Q hret hnorm hP a A
 refine wsk fun K1 hK1 => wrl (zg (vs := [.int .i64 d.k, .int .i64 d.n, .bool d.y.q.b1, .slice d.y.o1 d.y.q.t1.length d.y.c1, .slice d.y.o2 d.y.q.q1.length d.y.c2, .bool d.y.q.b2, .slice d.y.o3 d.y.q.t2.length d.y.c3, .slice d.y.o4 d.y.q.q2.length d.y.c4, .string d.s, .slice d.ro d.rl.length d.rc, .slice d.lo ts.length d.lc]) (t := 53) A M rfl rfl rfl pg (zd rfl rfl) (by decide) ?_)
 intro g2 w3 M a A
 refine sda A λa A↦?_
 refine qa (hK1 _ _ (wsk fun K4 hK4 => wrl (sdo A (za M TrC_isS_53 rfl 0 rfl (cs := [.int .i64 d.k, .int .i64 d.n, .bool d.y.q.b1, .slice d.y.o1 d.y.q.t1.length d.y.c1, .slice d.y.o2 d.y.q.q1.length d.y.c2, .bool d.y.q.b2, .slice d.y.o3 d.y.q.t2.length d.y.c3, .slice d.y.o4 d.y.q.q2.length d.y.c4, .string d.s, .slice d.ro d.rl.length d.rc, .slice d.lo ts.length d.lc]) rfl rfl) λa A↦?_)))
 rcases tf ((je 1 20000 (Dt.mk d ts).tr).1) with hb5 | hb5
 ·
  refine gcl A M (ef rfl rfl) ((hb5 ▸ fits_any (Dt.keep M.bel _ hrd))) fun w7 hb6 M a A => ?_
  refine sdm A λa A↦?_
  refine sdo A (za M TrC_isS_53 rfl 0 rfl (cs := [.int .i64 d.k, .int .i64 d.n, .bool d.y.q.b1, .slice d.y.o1 d.y.q.t1.length d.y.c1, .slice d.y.o2 d.y.q.q1.length d.y.c2, .bool d.y.q.b2, .slice d.y.o3 d.y.q.t2.length d.y.c3, .slice d.y.o4 d.y.q.q2.length d.y.c4, .string d.s, .slice d.ro d.rl.length d.rc, .slice d.lo ts.length d.lc]) rfl rfl) λa A↦?_
  rcases tf (jz qh (Dt.mk d ts).tr) with hb8 | hb8
  ·
   refine gcl A M (ef rfl rfl) ((hb8 ▸ qah (Dt.mk d ts) (Dt.keep M.bel _ hrd) (hT.below M.bel))) fun w10 hb9 M a A => ?_
   refine sdk (v := .bool true) A λa A↦?_
   refine sda A λa A↦?_
   refine qa (hK4 _ _ (wp_ret (hret _ _ (en1 A rfl (qe rfl) ?_))))
   exact ⟨by unfold qz; simp_all, M.bel⟩
  ·
   refine gcl A M (ef rfl rfl) ((hb8 ▸ qah (Dt.mk d ts) (Dt.keep M.bel _ hrd) (hT.below M.bel))) fun w12 hb11 M a A => ?_
   refine sdk (v := .bool false) A λa A↦?_
   refine sda A λa A↦?_
   refine qa (hK4 _ _ (wp_ret (hret _ _ (en1 A rfl (qe rfl) ?_))))
   exact ⟨by unfold qz; simp_all, M.bel⟩
 ·
  refine gcl A M (ef rfl rfl) ((hb5 ▸ fits_any (Dt.keep M.bel _ hrd))) fun w14 hb13 M a A => ?_
  refine sdm A λa A↦?_
  iterate 2 refine qt A rfl rfl rfl λa A↦?_
  refine sdk (v := .bool false) A λa A↦?_
  refine sda A λa A↦?_
  refine qa (hK4 _ _ (wp_ret (hret _ _ (en1 A rfl (qe rfl) ?_))))
  exact ⟨by unfold qz; simp_all, M.bel⟩
theorem sound_any {w : World} {t : Dt} (hrd : t.rd w) (hT : Tabs8 w) : Calls Tryz.prog 62 #[.agg t.cells.toArray] w fun e w' => e = .returned (.bool (qz qh t.tr)) ∧ Below w.heap.size w w' := by
 obtain ⟨d, ts⟩ := t
 exact sound_mk hrd hT
end Go.Proofs.YtdpakekdbkpdfaaGreatDoor.G
namespace Go.Proofs
open Go.Shelf
def Tryz.laysM316_ren : Go.Shelf.Ren := ⟨fun | 316 => 83 | n => n, fun | 9 => 9 | 3 => 3 | 4 => 4 | 37 => 51 | 0 => 0 | 127 => 110 | 5 => 5 | n => n, fun | n => n⟩
theorem Tryz.laysM316 : Go.Proofs.LaysM.n316 Tryz.prog Tryz.laysM316_ren := {
  mixed := by kernel_rfl
  f316 := Tryz.func83.trans (congrArg some (by kernel_rfl))
  t0 := Tryz.underlying0
  a0 := Tryz.isAgg0
  z0 := Tryz.sizeOf0
  v0 := Tryz.zeroValue0
  t3 := Tryz.underlying3
  a3 := Tryz.isAgg3
  z3 := Tryz.sizeOf3
  v3 := Tryz.zeroValue3
  t4 := Tryz.underlying4
  a4 := Tryz.isAgg4
  z4 := Tryz.sizeOf4
  v4 := Tryz.zeroValue4
  t9 := Tryz.underlying9
  a9 := Tryz.isAgg9
  z9 := Tryz.sizeOf9
  v9 := Tryz.zeroValue9
  t37 := Tryz.underlying51
  a37 := Tryz.isAgg51
  z37 := Tryz.sizeOf51
  v37 := Tryz.zeroValue51
  t127 := Tryz.underlying110
  a127 := Tryz.isAgg110
  z127 := Tryz.sizeOf110
  v127 := Tryz.zeroValue110
  t5 := Tryz.underlying5
  a5 := Tryz.isAgg5
  z5 := Tryz.sizeOf5
  v5 := Tryz.zeroValue5
  i0 := by kernel_rfl
  i3 := by kernel_rfl
  i4 := by kernel_rfl
  i5 := by kernel_rfl
  i9 := by kernel_rfl
  i37 := by kernel_rfl
  i127 := by kernel_rfl }
open Go.RowKit in
theorem Tryz.stringslite_Clone (s : ByteArray) (w : World) (hlim : s.size ≤ 281474976710656) :
    Calls Tryz.prog 83 #[.string s] w fun e w' => e = .returned (.string s) ∧ Below w.heap.size w w' := Any.stringslite_Clone Tryz.laysM316 s w hlim
end Go.Proofs
namespace Go.Proofs.YtdpakekdbkpdfaaGreatDoor.G
open Go.RowKit
set_option linter.unusedVariables false
set_option linter.unusedSimpArgs false
set_option maxRecDepth 100000
theorem LiA_is1_4 : Is1 Tryz.prog 4 := ⟨⟨_, Tryz.underlying4, rfl⟩, by kernel_rfl⟩
theorem LiA_is1_46 : Is1 Tryz.prog 46 := ⟨⟨_, Tryz.underlying46, rfl⟩, by kernel_rfl⟩
theorem LiA_fld_48_0 : FieldAt Tryz.prog 48 0 0 := ⟨_, _, Tryz.underlying48, rfl, rfl, by kernel_rfl⟩
theorem LiA_fld_48_1 : FieldAt Tryz.prog 48 1 1 := ⟨_, _, Tryz.underlying48, rfl, rfl, by kernel_rfl⟩
theorem LiA_fld_48_2 : FieldAt Tryz.prog 48 2 2 := ⟨_, _, Tryz.underlying48, rfl, rfl, by kernel_rfl⟩
theorem LiA_isS_48 : IsS Tryz.prog 48 3 := ⟨⟨_, Tryz.underlying48⟩, by kernel_rfl⟩
theorem clB_w {w : World} {so : Option Addr} {ca : Nat} {l : List UInt8} (hb : Rb w so l) (hl : l.length ≤ 1000000000) : Calls Tryz.prog 65 #[.slice so l.length ca] w fun e w' => ∃ v, e = .returned v ∧ Mg w w' [.row BY 1 v l.length (Lib.byteCells l)] := by
 have M : Mg w w ([]) := Mg.start w
 refine qr (l := [(0, .slice so l.length ca)]) Tryz.func65 rfl Tryz.ntmps65 rfl rfl ?_
 intro Q hret hnorm hP a A
 refine wsk fun K1 hK1 => wrl (sda A λa A↦?_)
 refine qa (hK1 _ _ (wsk fun K2 hK2 => wrl (sdm A λa A↦?_)))
 replace M := M.nilRow (qp qy) BY 1
 refine xn (e := BY) (sz := 1) (k := 0) (q := 0) (m := l.length) (xs := []) (news := Lib.byteCells l) (L' := fun v3 => (.row BY 1 (v3) (0 + l.length) ([] ++ Lib.byteCells l) :: [])) A rfl rfl rfl (vm (z := .int .u8 0) (sz := 1) (by_ := 1) Tryz.underlying51 (by kernel_rfl) rfl rfl rfl M 0 rfl rfl rfl (bytes_n l) ((rc_bytes hb).below M.bel) (bytes_one l) (by omega)) (fun _ => rfl) ?_
 intro v3 w4 M a A
 refine sda A λa A↦?_
 refine qa (hK2 _ _ (wp_ret (hret _ _ (en1 A rfl (qe rfl) ?_))))
 exact ⟨_, rfl, by rw [Nat.zero_add, List.nil_append] at M; exact M⟩
theorem clW_w {w : World} {so : Option Addr} {ca : Nat} {l : List Nat} (hb : Rd w so l) (hl : l.length ≤ 1000000000) : Calls Tryz.prog 82 #[.slice so l.length ca] w fun e w' => ∃ v, e = .returned v ∧ Mg w w' [.row 117 1 v l.length (jn l)] := by
 have M : Mg w w ([]) := Mg.start w
 refine qr (l := [(0, .slice so l.length ca)]) Tryz.func82 rfl Tryz.ntmps82 rfl rfl ?_
 intro Q hret hnorm hP a A
 refine wsk fun K1 hK1 => wrl (sda A λa A↦?_)
 refine qa (hK1 _ _ (wsk fun K2 hK2 => wrl (sdm A λa A↦?_)))
 replace M := M.nilRow (qp qy) 117 1
 refine xn (e := 117) (sz := 1) (k := 0) (q := 0) (m := l.length) (xs := []) (news := jn l) (L' := fun v3 => (.row 117 1 (v3) (0 + l.length) ([] ++ jn l) :: [])) A rfl rfl rfl (vm (z := .int .u32 0) (sz := 1) (by_ := 4) Tryz.underlying46 (by kernel_rfl) rfl rfl rfl M 0 rfl rfl rfl (words_n l) ((rc_words hb).below M.bel) (qgf l) (by omega)) (fun _ => rfl) ?_
 intro v3 w4 M a A
 refine sda A λa A↦?_
 refine qa (hK2 _ _ (wp_ret (hret _ _ (en1 A rfl (qe rfl) ?_))))
 exact ⟨_, rfl, by rw [Nat.zero_add, List.nil_append] at M; exact M⟩
theorem clD_w {w : World} {so : Option Addr} {ca : Nat} {ts : List Dt} (hb : Rt w so ts) (hl : ts.length ≤ 1000000000) : Calls Tryz.prog 76 #[.slice so ts.length ca] w fun e w' => ∃ v, e = .returned v ∧ Mg w w' [.row 53 11 v ts.length (cellsOf ts)] := by
 have M : Mg w w ([]) := Mg.start w
 refine qr (l := [(0, .slice so ts.length ca)]) Tryz.func76 rfl Tryz.ntmps76 rfl rfl ?_
 intro Q hret hnorm hP a A
 refine wsk fun K1 hK1 => wrl (sda A λa A↦?_)
 refine qa (hK1 _ _ (wsk fun K2 hK2 => wrl (sdm A λa A↦?_)))
 replace M := M.nilRow (qp qy) 53 11
 refine xn (e := 53) (sz := 11) (k := 0) (q := 0) (m := ts.length) (xs := []) (news := cellsOf ts) (L' := fun v3 => (.row 53 11 (v3) (0 + ts.length) ([] ++ cellsOf ts) :: [])) A rfl rfl rfl (vm (z := .agg #[.int .i64 0, .int .i64 0, .bool false, .slice none 0 0, .slice none 0 0, .bool false, .slice none 0 0, .slice none 0 0, .string ⟨#[]⟩, .slice none 0 0, .slice none 0 0]) (sz := 11) (by_ := 192) Tryz.underlying39 (by kernel_rfl) rfl rfl rfl M 0 rfl rfl rfl (xv ts) ((rc_rt hb).below M.bel) (ua ts) (by omega)) (fun _ => rfl) ?_
 intro v3 w4 M a A
 refine sda A λa A↦?_
 refine qa (hK2 _ _ (wp_ret (hret _ _ (en1 A rfl (qe rfl) ?_))))
 exact ⟨_, rfl, by rw [Nat.zero_add, List.nil_append] at M; exact M⟩
theorem clB_any {w : World} {so : Option Addr} {ca : Nat} {l : List UInt8} (hb : Rb w so l) (hl : l.length ≤ 1000000000) : Calls Tryz.prog 65 #[.slice so l.length ca] w fun e w' => ∃ so' ca', e = .returned (.slice so' l.length ca') ∧ (Rb w' so' l ∧ In (w.heap.size ≤ ·) so' l ∧ l.length ≤ ca' ∧ ca' ≤ 9223372036854775807) ∧ Below w.heap.size w w' := by
 refine (clB_w hb hl).mono ?_
 rintro _ w' ⟨v, rfl, M⟩
 obtain ⟨so', ca', rfl⟩ := vz (M.has 0 rfl)
 exact ⟨so', ca', rfl, ⟨(rb_row M 0 rfl).1, uu (M.has 0 rfl) _, row_cap (M.has 0 rfl), row_max (M.has 0 rfl)⟩, M.bel⟩
theorem clW_any {w : World} {so : Option Addr} {ca : Nat} {l : List Nat} (hb : Rd w so l) (hl : l.length ≤ 1000000000) : Calls Tryz.prog 82 #[.slice so l.length ca] w fun e w' => ∃ so' ca', e = .returned (.slice so' l.length ca') ∧ (Sc w' so' ca' l ∧ In (w.heap.size ≤ ·) so' l) ∧ Below w.heap.size w w' := by
 refine (clW_w hb hl).mono ?_
 rintro _ w' ⟨v, rfl, M⟩
 obtain ⟨so', ca', rfl⟩ := vz (M.has 0 rfl)
 exact ⟨so', ca', rfl, ⟨sc_row hb.dig (M.has 0 rfl), uu (M.has 0 rfl) _⟩, M.bel⟩
theorem cfr_any {w : World} {b : Bool} {o1 o2 : Option Addr} {c1 c2 : Nat} {t q : List Nat} (h1 : Sc w o1 c1 t) (h2 : Sc w o2 c2 q) (l1 : t.length ≤ 1000000000) (l2 : q.length ≤ 1000000000) : Calls Tryz.prog 63 #[.agg #[.bool b, .slice o1 t.length c1, .slice o2 q.length c2]] w fun e w' => ∃ p1 d1 p2 d2, e = .returned (.agg #[.bool b, .slice p1 t.length d1, .slice p2 q.length d2]) ∧ (Sc w' p1 d1 t ∧ In (w.heap.size ≤ ·) p1 t ∧ Sc w' p2 d2 q ∧ In (w.heap.size ≤ ·) p2 q) ∧ Below w.heap.size w w' := by
 have M : Mg w w ([]) := Mg.start w
 refine qr (l := [(0, .agg #[.bool b, .slice o1 t.length c1, .slice o2 q.length c2])]) Tryz.func63 rfl Tryz.ntmps63 rfl rfl ?_
 intro Q hret hnorm hP a A
 refine wsk fun K1 hK1 => wrl (zg (vs := [.bool b, .slice o1 t.length c1, .slice o2 q.length c2]) (t := 48) A M rfl rfl rfl pg (zd rfl rfl) (by decide) ?_)
 intro g2 w3 M a A
 refine zg (vs := [.bool false, .slice none 0 0, .slice none 0 0]) (t := 48) A M rfl rfl rfl pg (qk (z := .agg #[.bool false, .slice none 0 0, .slice none 0 0]) (by kernel_rfl) rfl) (by decide) ?_
 intro g4 w5 M a A
 refine qa (hK1 _ _ (wsk fun K6 hK6 => xh (S := fun w1 => Mg w w1 (.obj g2 (.cells #[.bool b, .slice o1 t.length c1, .slice o2 q.length c2] 48) :: [])) (by kernel_rfl) ?_))
 replace M := M.drew
 refine qm (v := .pointer (some ⟨g2, 0, none⟩)) A 0 rfl rfl rfl rfl hP (M.sub (cn (cc (List.nil_sublist _)))) (fun w1 M => qb LiA_fld_48_0 rfl rfl) λa A↦?_
 refine qm A 1 rfl rfl rfl rfl hP (M.sub (cn (cc (List.nil_sublist _)))) (fun w1 M => qi M LiA_is1_4 rfl 0 rfl rfl) λa A↦?_
 refine qm (v := .pointer (some ⟨g2, 1, none⟩)) A 2 rfl rfl rfl rfl hP (M.sub (cn (cc (List.nil_sublist _)))) (fun w1 M => qb LiA_fld_48_1 rfl rfl) λa A↦?_
 refine qm A 3 rfl rfl rfl rfl hP (M.sub (cn (cc (List.nil_sublist _)))) (fun w1 M => qi M LiA_is1_46 rfl 0 rfl rfl) λa A↦?_
 refine qm (v := .pointer (some ⟨g2, 2, none⟩)) A 5 rfl rfl rfl rfl hP (M.sub (cn (cc (List.nil_sublist _)))) (fun w1 M => qb LiA_fld_48_2 rfl rfl) λa A↦?_
 refine qm A 6 rfl rfl rfl rfl hP (M.sub (cn (cc (List.nil_sublist _)))) (fun w1 M => qi M LiA_is1_46 rfl 0 rfl rfl) λa A↦?_
 have hlt7 := (Ck.lt (M.has 0 rfl) g4 rfl).2
 have hlt8 := (Ck.lt (M.has 1 rfl) g2 rfl).2
 have hsz9 := M.bel.size
 refine zy (by kernel_rfl) (jj A 4 rfl rfl rfl rfl (zf rfl rfl (fun w => by kernel_rfl)) (clW_any (h1.rd.below M.bel) l1) ?_)
 rintro _ w15 ⟨so10, ca11, rfl, ⟨hf13, hf14⟩, hb12⟩
 replace M := M.call hb12
 refine ⟨_, rfl, (M.sub (cn (cc (List.nil_sublist _)))), ?_⟩
 intro a A
 have hlt16 := (Ck.lt (M.has 0 rfl) g4 rfl).2
 have hlt17 := (Ck.lt (M.has 1 rfl) g2 rfl).2
 have hsz18 := M.bel.size
 refine zy (by kernel_rfl) (jj A 7 rfl rfl rfl rfl (zf rfl rfl (fun w => by kernel_rfl)) (clW_any (h2.rd.below M.bel) l2) ?_)
 rintro _ w24 ⟨so19, ca20, rfl, ⟨hf22, hf23⟩, hb21⟩
 replace hf13 := hf13.below hb21
 replace M := M.call hb21
 refine ⟨_, rfl, (M.sub (cn (cc (List.nil_sublist _)))), ?_⟩
 intro a A
 refine qm (v := .agg #[.bool b, .slice so10 t.length ca11, .slice so19 q.length ca20]) A 8 rfl rfl rfl rfl hP (M.sub (cn (cc (List.nil_sublist _)))) (fun w1 M => qn rfl (fun w => by kernel_rfl)) λa A↦?_
 refine zy (by kernel_rfl) (qdc (us := [.bool b, .slice so10 t.length ca11, .slice so19 q.length ca20]) (L' := (.obj g4 (.cells #[.bool b, .slice so10 t.length ca11, .slice so19 q.length ca20] 48) :: .obj g2 (.cells #[.bool b, .slice o1 t.length c1, .slice o2 q.length c2] 48) :: [])) A M 9 rfl rfl rfl (qj rfl rfl rfl (by kernel_rfl) M 0 rfl rfl rfl) 0 rfl rfl rfl ?_)
 intro w25 M hK26
 replace hf13 := xt hf13 (hf14.mono fun b hb => by rintro rfl; omega) hK26
 replace hf22 := xt hf22 (hf23.mono fun b hb => by rintro rfl; omega) hK26
 refine ⟨(M.sub (cn (cc (List.nil_sublist _)))), ?_⟩
 refine jo (by kernel_rfl) ?_
 refine hK6 _ _ (wp_ret (hret _ _ (en1 A rfl (zr M LiA_isS_48 rfl 0 rfl (cs := [.bool b, .slice so10 t.length ca11, .slice so19 q.length ca20]) rfl rfl) ?_)))
 exact ⟨_, _, _, _, rfl, ⟨hf13, In.mono hf14 (fun b hb => Nat.le_trans hsz9 hb), hf22, In.mono hf23 (fun b hb => Nat.le_trans hsz18 hb)⟩, M.bel⟩
theorem LiB_is1_3 : Is1 Tryz.prog 3 := ⟨⟨_, Tryz.underlying3, rfl⟩, by kernel_rfl⟩
theorem LiB_is1_39 : Is1 Tryz.prog 39 := ⟨⟨_, Tryz.underlying39, rfl⟩, by kernel_rfl⟩
theorem LiB_is1_51 : Is1 Tryz.prog 51 := ⟨⟨_, Tryz.underlying51, rfl⟩, by kernel_rfl⟩
theorem LiB_is1_9 : Is1 Tryz.prog 9 := ⟨⟨_, Tryz.underlying9, rfl⟩, by kernel_rfl⟩
theorem LiB_fld_50_0 : FieldAt Tryz.prog 50 0 0 := ⟨_, _, Tryz.underlying50, rfl, rfl, by kernel_rfl⟩
theorem LiB_fld_50_1 : FieldAt Tryz.prog 50 1 3 := ⟨_, _, Tryz.underlying50, rfl, rfl, by kernel_rfl⟩
theorem LiB_fld_53_0 : FieldAt Tryz.prog 53 0 0 := ⟨_, _, Tryz.underlying53, rfl, rfl, by kernel_rfl⟩
theorem LiB_fld_53_1 : FieldAt Tryz.prog 53 1 1 := ⟨_, _, Tryz.underlying53, rfl, rfl, by kernel_rfl⟩
theorem LiB_fld_53_2 : FieldAt Tryz.prog 53 2 2 := ⟨_, _, Tryz.underlying53, rfl, rfl, by kernel_rfl⟩
theorem LiB_fld_53_3 : FieldAt Tryz.prog 53 3 8 := ⟨_, _, Tryz.underlying53, rfl, rfl, by kernel_rfl⟩
theorem LiB_fld_53_4 : FieldAt Tryz.prog 53 4 9 := ⟨_, _, Tryz.underlying53, rfl, rfl, by kernel_rfl⟩
theorem LiB_fld_53_5 : FieldAt Tryz.prog 53 5 10 := ⟨_, _, Tryz.underlying53, rfl, rfl, by kernel_rfl⟩
theorem LiB_isS_48 : IsS Tryz.prog 48 3 := ⟨⟨_, Tryz.underlying48⟩, by kernel_rfl⟩
theorem LiB_isS_53 : IsS Tryz.prog 53 11 := ⟨⟨_, Tryz.underlying53⟩, by kernel_rfl⟩
theorem clone_any {w : World} {s : ByteArray} (hs : s.size ≤ 281474976710656) : Calls Tryz.prog 64 #[.string s] w fun e w' => e = .returned (.string s) ∧ Below w.heap.size w w' := by
 have M : Mg w w ([]) := Mg.start w
 refine qr (l := [(0, .string s)]) Tryz.func64 rfl Tryz.ntmps64 rfl rfl ?_
 intro Q hret hnorm hP a A
 refine wsk fun K1 hK1 => wrl (sda A λa A↦?_)
 refine qa (hK1 _ _ (wsk fun K2 hK2 => wrl (sdm A λa A↦?_)))
 refine gcl A M (ef rfl rfl) (Tryz.stringslite_Clone s _ hs) fun w3 hb1 M a A => ?_
 refine sda A λa A↦?_
 refine qa (hK2 _ _ (wp_ret (hret _ _ (en1 A rfl (qe rfl) ?_))))
 exact ⟨rfl, M.bel⟩
def Copies (t : Dt) : Prop := ∀ {w : World}, t.rd w → t.tr.bulk ≤ 1000000000 → Calls Tryz.prog 40 #[.agg (t.d.cells t.ts.length).toArray] w fun e w' => ∃ t2 : Dt, e = .returned (.agg (t2.d.cells t2.ts.length).toArray) ∧ (t2.rd w' ∧ t2.at_ (w.heap.size ≤ ·) ∧ t2.tr = t.tr) ∧ Below w.heap.size w w'
def CopyAll (ts : List Dt) : Prop := ∀ {w : World} {so : Option Addr} {ca : Nat}, Rt w so ts → (∀ t ∈ ts, t.rd w) → Tr.bulks (ts.map Dt.tr) ≤ 1000000000 → Calls Tryz.prog 54 #[.slice so ts.length ca] w fun e w' => ∃ v us, e = .returned v ∧ (us.map Dt.tr = ts.map Dt.tr ∧ (∀ t ∈ us, t.rd w' ∧ t.at_ (fun b => w.heap.size ≤ b ∧ v.ownBlock ≠ some b))) ∧ Mg w w' [.row 53 11 v us.length (cellsOf us)]
theorem callA_cons {ts : List Dt} (ih : ∀ t ∈ ts, Copies t) (hne : ts ≠ []) : CopyAll ts := by
 intro w so ca hR hD hb
 have hbl := vr ts
 have M : Mg w w ([]) := Mg.start w
 refine qr (l := [(0, .slice so ts.length ca)]) Tryz.func54 rfl Tryz.ntmps54 rfl rfl ?_
 intro Q hret hnorm hP a A
 refine wsk fun K1 hK1 => wrl (sda A λa A↦?_)
 refine qa (hK1 _ _ (wsk fun K2 hK2 => wrl (sdm A λa A↦?_)))
 refine sct A (ef rfl rfl) (clD_w (hR.below M.bel) (by have := vr ts; omega)) ?_
 rintro _ w4 ⟨v9, rfl, hM3⟩
 obtain ⟨g9, c9, rfl⟩ := row_open (hM3.has 0 rfl) (fun k => hne (List.length_eq_zero_iff.1 k))
 replace M : Mg w w4 (.row 53 11 (.slice (some ⟨g9, 0, none⟩) ts.length c9) ts.length (cellsOf ts) :: []) := hM3
 refine ⟨_, rfl, ?_⟩
 intro a A
 refine sda A λa A↦?_
 refine qa (hK2 _ _ (wsk fun K5 hK5 => wsk fun K6 hK6 => wrl (sdm A λa A↦?_)))
 refine sdo A (ze Tryz.underlying39 rfl) λa A↦?_
 refine sdm A λa A↦?_
 refine qa (hK6 _ _ (wp_block (ja (fun m_ a w1 => ∃ (i : Nat) (cs : List Dt), m_ = 1 + (ts.length - i) ∧ (i ≤ ts.length ∧ cs.length = i ∧ cs.map Dt.tr = (ts.take i).map Dt.tr ∧ CsOk w.heap.size g9 w1 cs) ∧ Sl a 22 [(0, .slice so ts.length ca), (2, .slice none 0 0), (3, .slice (some ⟨g9, 0, none⟩) ts.length c9), (6, .slice so ts.length ca), (7, .slice (some ⟨g9, 0, none⟩) ts.length c9), (8, .slice (some ⟨g9, 0, none⟩) ts.length c9), (9, .int .i64 (((ts.length : Nat) : Int))), (10, .int .i64 (((i : Nat) : Int)))] ∧ Mg w w1 (.row 53 11 (.slice (some ⟨g9, 0, none⟩) ts.length c9) ts.length (cellsOf (cs ++ ts.drop i)) :: [])) _ ⟨0, [], rfl, ⟨Nat.zero_le _, rfl, rfl, csok_nil⟩, A.keep _ (by repeat' constructor), M⟩ ?_)))
 clear M A
 rintro m_ a w7 ⟨i, cs, rfl, hinv9, A, M⟩ K8 hK8
 obtain ⟨hi0, hcl, htr, hcs⟩ := hinv9
 refine wsk fun K10 hK10 => wrl ?_
 rcases tf (decide (((i : Nat) : Int) < ((ts.length : Nat) : Int))) with hb11 | hb11
 ·
  have hb11' := of_decide_eq_true hb11
  refine sdc A zl hb11 λa A↦?_
  refine qa (hK10 _ _ (wsk fun K12 hK12 => wp_cond_true (A.ev rfl) ?_))
  refine wp_skip (hK12 _ _ (wsk fun K13 hK13 => wp_block (wsk fun K14 hK14 => ?_)))
  obtain ⟨t1, i1, m1, it1⟩ := at_row hcl (show i < ts.length by omega)
  refine wrl (sdm A λa A↦?_)
  refine sdo (v := .pointer (some ⟨g9, i * 11, none⟩)) A (vj (k := i) Tryz.underlying39 (by kernel_rfl) rfl rfl rfl (by omega)) λa A↦?_
  refine sdo A (qla (o := i * 11) (cs := t1.d.cells t1.ts.length) M 0 rfl LiB_isS_53 (yi it1) rfl rfl) λa A↦?_
  refine qii (vs := [.int .i64 0, .int .i64 0, .bool false, .slice none 0 0, .slice none 0 0, .bool false, .slice none 0 0, .slice none 0 0, .string (⟨#[]⟩), .slice none 0 0, .slice none 0 0]) (t := 53) A M rfl rfl rfl pg (qk (z := .agg #[.int .i64 0, .int .i64 0, .bool false, .slice none 0 0, .slice none 0 0, .bool false, .slice none 0 0, .slice none 0 0, .string (⟨#[]⟩), .slice none 0 0, .slice none 0 0]) (by kernel_rfl) rfl) (by decide) ?_
  intro g15 w16 M hg17 hb18 a A
  refine sda A λa A↦?_
  refine xw (us := (t1.d.cells t1.ts.length)) (L' := (.obj g15 (.cells (t1.d.cells t1.ts.length).toArray 53) :: .row 53 11 (.slice (some ⟨g9, 0, none⟩) ts.length c9) ts.length (cellsOf (cs ++ ts.drop i)) :: [])) A M rfl rfl (qj rfl rfl rfl (by kernel_rfl) M 0 rfl rfl rfl) 0 rfl rfl rfl ?_
  intro w19 M hK20
  replace hcs := hcs.new hg17 hb18 hK20
  refine qa (hK14 _ _ (wrl ?_))
  iterate 2 refine sdm A λa A↦?_
  refine sdo A (za M LiB_isS_53 rfl 0 rfl (cs := (t1.d.cells t1.ts.length)) rfl rfl) λa A↦?_
  have hltg := (Ck.lt (M.has 1 rfl) g9 rfl).2
  have hsz := M.bel.size
  refine sct A (ef rfl rfl) (ih t1 m1 (Dt.keep M.bel _ (hD t1 m1)) (by have := ub m1; omega)) ?_
  rintro _ w21 ⟨t2, rfl, ⟨hr2, ha2, ht2⟩, hb2⟩
  replace hcs := hcs.below hb2
  replace M := M.call hb2
  refine ⟨_, rfl, ?_⟩
  intro a A
  refine sdo (v := .pointer (some ⟨g9, i * 11, none⟩)) A (vj (k := i) Tryz.underlying39 (by kernel_rfl) rfl rfl rfl (by omega)) λa A↦?_
  refine uw (us := cellsOf ((cs ++ [t2]) ++ ts.drop (i + 1))) (L' := (.obj g15 (.cells (t1.d.cells t1.ts.length).toArray 53) :: .row 53 11 (.slice (some ⟨g9, 0, none⟩) ts.length c9) ts.length (cellsOf ((cs ++ [t2]) ++ ts.drop (i + 1))) :: [])) A M rfl rfl (qda (cs := t2.d.cells t2.ts.length) rfl rfl rfl (by kernel_rfl) M 1 rfl (by show _ + 11 ≤ _; omega) (ky t2)) 1 rfl (over_row (by rw [List.length_append, List.length_drop]; omega) (set_row t2 hcl (by omega))) rfl ?_
  intro w22 M hK23
  replace hcs := hcs.snoc hr2 (Dt.at_mono (fun b hb => ⟨by omega, by rintro rfl; omega⟩) _ ha2) hK23
  refine qa (hK13 _ _ (wrl (sdo (v := .int .i64 (((i + 1 : Nat) : Int))) A (qg rfl rfl (fun w => (jk (xj (by omega) (by omega)) w).trans (by rw [show (((i : Nat) : Int) + 1 : Int) = ((i + 1 : Nat) : Int) from by omega]))) λa A↦?_)))
  refine sdm A λa A↦?_
  refine qa ?_
  replace M : Mg w w22 (.row 53 11 (.slice (some ⟨g9, 0, none⟩) ts.length c9) ts.length (cellsOf ((cs ++ [t2]) ++ ts.drop (i + 1))) :: []) := by
   have h9 := M.sub (cn (cc (.refl _)))
   exact h9
  refine hK8 _ _ _ (by omega) ⟨i + 1, cs ++ [t2], rfl, ⟨by omega, by rw [List.length_append]; simp only [List.length_cons, List.length_nil]; omega, tr_snoc htr i1 ht2, hcs⟩, A.keep _ (by repeat' constructor), M⟩
 ·
  have hb11' := of_decide_eq_false hb11
  refine sdc A zl hb11 λa A↦?_
  refine qa (hK10 _ _ (wsk fun K24 hK24 => wp_cond_false (A.ev rfl) ?_))
  refine wp_exit (hK5 _ _ (wsk fun K25 hK25 => wrl (sdm A λa A↦?_)))
  refine sda A λa A↦?_
  refine qa (hK25 _ _ (wp_ret (hret _ _ (en1 A rfl (qe rfl) ?_))))
  have e9 : cs ++ ts.drop i = cs := by rw [List.drop_of_length_le (by omega), List.append_nil]
  rw [e9] at M
  have e8 : ts.length = cs.length := by omega
  exact ⟨_, cs, rfl, ⟨by rw [htr, List.take_of_length_le (by omega)], fun t ht => ⟨(hcs t ht).1, Dt.at_mono (fun b hb => ⟨hb.1, fun e => hb.2 (Option.some.inj e).symm⟩) _ (hcs t ht).2⟩⟩, e8 ▸ M⟩
theorem callA_nil : CopyAll [] := by
 intro w so ca hR hD hb
 have M : Mg w w ([]) := Mg.start w
 refine qr (l := [(0, .slice so (([] : List Dt).length) ca)]) Tryz.func54 rfl Tryz.ntmps54 rfl rfl ?_
 intro Q hret hnorm hP a A
 refine wsk fun K1 hK1 => wrl (sda A λa A↦?_)
 refine qa (hK1 _ _ (wsk fun K2 hK2 => wrl (sdm A λa A↦?_)))
 refine sct A (ef rfl rfl) (clD_w (ts := []) (fun k => absurd rfl k) (by decide)) ?_
 rintro _ w4 ⟨v9, rfl, hM3⟩
 obtain ⟨so9, c9, rfl⟩ := jr (hM3.has 0 rfl)
 replace M : Mg w w4 (.row 53 11 (.slice so9 (([] : List Dt).length) c9) (([] : List Dt).length) (cellsOf []) :: []) := hM3
 refine ⟨_, rfl, ?_⟩
 intro a A
 refine sda A λa A↦?_
 refine qa (hK2 _ _ (wsk fun K5 hK5 => wsk fun K6 hK6 => wrl (sdm A λa A↦?_)))
 refine sdo A (ze Tryz.underlying39 rfl) λa A↦?_
 refine sdm A λa A↦?_
 refine qa (hK6 _ _ (wp_block (wp_loop_rounds 12 ?_)))
 refine qkg fun K7 hK7 => ?_
 refine wsk fun K8 hK8 => wrl (sdo (v := .bool false) A (qg rfl rfl (fun w => (zl w).trans (by rw [show (decide (0 < ((([] : List Dt).length : Nat) : Int))) = false from (by rfl)]))) λa A↦?_)
 refine qa (hK8 _ _ (wsk fun K9 hK9 => wp_cond_false (A.ev rfl) ?_))
 refine wp_exit (hK5 _ _ (wsk fun K10 hK10 => wrl (sdm A λa A↦?_)))
 refine sda A λa A↦?_
 refine qa (hK10 _ _ (wp_ret (hret _ _ (en1 A rfl (qe rfl) ?_))))
 exact ⟨_, [], rfl, ⟨rfl, fun t h => by cases h⟩, M⟩
theorem qab {ts : List Dt} (ih : ∀ t ∈ ts, Copies t) : CopyAll ts := by
 by_cases h : ts = []
 ·
  subst h; exact callA_nil
 ·
  exact callA_cons ih h
theorem xr : ∀ t : Dt, Copies t := Dt.indT fun d ts ih => by
 intro w hrd hb
 have hok := (Dt.rd_iff.1 hrd)
 rw [bulk_parts] at hb
 have M : Mg w w ([]) := Mg.start w
 refine qr (l := [(0, .agg (d.cells ts.length).toArray)]) Tryz.func40 rfl Tryz.ntmps40 rfl rfl ?_
 intro Q hret hnorm hP a A
 refine wsk fun K1 hK1 => wrl (zg (vs := (d.cells ts.length)) (t := 53) A M rfl rfl rfl pg (zd rfl rfl) (by decide) ?_)
 intro g2 w3 M a A
 refine zg (vs := [.int .i64 0, .int .i64 0, .bool false, .slice none 0 0, .slice none 0 0, .bool false, .slice none 0 0, .slice none 0 0, .string (⟨#[]⟩), .slice none 0 0, .slice none 0 0]) (t := 53) A M rfl rfl rfl pg (qk (z := .agg #[.int .i64 0, .int .i64 0, .bool false, .slice none 0 0, .slice none 0 0, .bool false, .slice none 0 0, .slice none 0 0, .string (⟨#[]⟩), .slice none 0 0, .slice none 0 0]) (by kernel_rfl) rfl) (by decide) ?_
 intro g4 w5 M a A
 refine qa (hK1 _ _ (wsk fun K6 hK6 => xh (S := fun w1 => Mg w w1 (.obj g2 (.cells (d.cells ts.length).toArray 53) :: [])) (by kernel_rfl) ?_))
 replace M := M.drew
 refine qm (v := .pointer (some ⟨g2, 0, none⟩)) A 0 rfl rfl rfl rfl hP (M.sub (cn (cc (List.nil_sublist _)))) (fun w1 M => qb LiB_fld_53_0 rfl rfl) λa A↦?_
 refine qm A 1 rfl rfl rfl rfl hP (M.sub (cn (cc (List.nil_sublist _)))) (fun w1 M => qi M LiB_is1_3 rfl 0 rfl rfl) λa A↦?_
 refine qm (v := .pointer (some ⟨g2, 1, none⟩)) A 2 rfl rfl rfl rfl hP (M.sub (cn (cc (List.nil_sublist _)))) (fun w1 M => qb LiB_fld_53_1 rfl rfl) λa A↦?_
 refine qm A 3 rfl rfl rfl rfl hP (M.sub (cn (cc (List.nil_sublist _)))) (fun w1 M => qi M LiB_is1_3 rfl 0 rfl rfl) λa A↦?_
 refine qm (v := .pointer (some ⟨g2, 2, none⟩)) A 4 rfl rfl rfl rfl hP (M.sub (cn (cc (List.nil_sublist _)))) (fun w1 M => qb LiB_fld_53_2 rfl rfl) λa A↦?_
 refine qm (v := .pointer (some ⟨g2, 2, none⟩)) A 5 rfl rfl rfl rfl hP (M.sub (cn (cc (List.nil_sublist _)))) (fun w1 M => qb LiB_fld_50_0 rfl rfl) λa A↦?_
 refine qm A 6 rfl rfl rfl rfl hP (M.sub (cn (cc (List.nil_sublist _)))) (fun w1 M => za M LiB_isS_48 rfl 0 rfl (cs := [.bool d.y.q.b1, .slice d.y.o1 d.y.q.t1.length d.y.c1, .slice d.y.o2 d.y.q.q1.length d.y.c2]) rfl rfl) λa A↦?_
 refine qm (v := .pointer (some ⟨g2, 2, none⟩)) A 8 rfl rfl rfl rfl hP (M.sub (cn (cc (List.nil_sublist _)))) (fun w1 M => qb LiB_fld_53_2 rfl rfl) λa A↦?_
 refine qm (v := .pointer (some ⟨g2, 5, none⟩)) A 9 rfl rfl rfl rfl hP (M.sub (cn (cc (List.nil_sublist _)))) (fun w1 M => qb LiB_fld_50_1 rfl rfl) λa A↦?_
 refine qm A 10 rfl rfl rfl rfl hP (M.sub (cn (cc (List.nil_sublist _)))) (fun w1 M => za M LiB_isS_48 rfl 0 rfl (cs := [.bool d.y.q.b2, .slice d.y.o3 d.y.q.t2.length d.y.c3, .slice d.y.o4 d.y.q.q2.length d.y.c4]) rfl rfl) λa A↦?_
 refine qm (v := .pointer (some ⟨g2, 8, none⟩)) A 13 rfl rfl rfl rfl hP (M.sub (cn (cc (List.nil_sublist _)))) (fun w1 M => qb LiB_fld_53_3 rfl rfl) λa A↦?_
 refine qm A 14 rfl rfl rfl rfl hP (M.sub (cn (cc (List.nil_sublist _)))) (fun w1 M => qi M LiB_is1_9 rfl 0 rfl rfl) λa A↦?_
 refine qm (v := .pointer (some ⟨g2, 9, none⟩)) A 16 rfl rfl rfl rfl hP (M.sub (cn (cc (List.nil_sublist _)))) (fun w1 M => qb LiB_fld_53_4 rfl rfl) λa A↦?_
 refine qm A 17 rfl rfl rfl rfl hP (M.sub (cn (cc (List.nil_sublist _)))) (fun w1 M => qi M LiB_is1_51 rfl 0 rfl rfl) λa A↦?_
 refine qm (v := .pointer (some ⟨g2, 10, none⟩)) A 19 rfl rfl rfl rfl hP (M.sub (cn (cc (List.nil_sublist _)))) (fun w1 M => qb LiB_fld_53_5 rfl rfl) λa A↦?_
 refine qm A 20 rfl rfl rfl rfl hP (M.sub (cn (cc (List.nil_sublist _)))) (fun w1 M => qi M LiB_is1_39 rfl 0 rfl rfl) λa A↦?_
 have hlt7 := (Ck.lt (M.has 0 rfl) g4 rfl).2
 have hlt8 := (Ck.lt (M.has 1 rfl) g2 rfl).2
 have hsz9 := M.bel.size
 refine zy (by kernel_rfl) (jj A 7 rfl rfl rfl rfl (zf rfl rfl (fun w => by kernel_rfl)) (cfr_any (hok.1.num.s1.below M.bel) (hok.1.num.s2.below M.bel) (by omega) (by omega)) ?_)
 rintro _ w11 ⟨p1, e1, p2, e2, rfl, ⟨hs1, hi1, hs2, hi2⟩, hb10⟩
 replace M := M.call hb10
 refine ⟨_, rfl, (M.sub (cn (cc (List.nil_sublist _)))), ?_⟩
 intro a A
 have hlt12 := (Ck.lt (M.has 0 rfl) g4 rfl).2
 have hlt13 := (Ck.lt (M.has 1 rfl) g2 rfl).2
 have hsz14 := M.bel.size
 refine zy (by kernel_rfl) (jj A 11 rfl rfl rfl rfl (zf rfl rfl (fun w => by kernel_rfl)) (cfr_any (hok.1.num.s3.below M.bel) (hok.1.num.s4.below M.bel) (by omega) (by omega)) ?_)
 rintro _ w16 ⟨p3, e3, p4, e4, rfl, ⟨hs3, hi3, hs4, hi4⟩, hb15⟩
 replace hs1 := hs1.below hb15
 replace hs2 := hs2.below hb15
 replace M := M.call hb15
 refine ⟨_, rfl, (M.sub (cn (cc (List.nil_sublist _)))), ?_⟩
 intro a A
 refine qm (v := .agg #[.bool d.y.q.b1, .slice p1 d.y.q.t1.length e1, .slice p2 d.y.q.q1.length e2, .bool d.y.q.b2, .slice p3 d.y.q.t2.length e3, .slice p4 d.y.q.q2.length e4]) A 12 rfl rfl rfl rfl hP (M.sub (cn (cc (List.nil_sublist _)))) (fun w1 M => qn rfl (fun w => by kernel_rfl)) λa A↦?_
 refine zy (by kernel_rfl) (jj A 15 rfl rfl rfl rfl (zf rfl rfl (fun w => by kernel_rfl)) (clone_any (by omega)) ?_)
 rintro _ w17 ⟨rfl, hbc⟩
 replace hs1 := hs1.below hbc
 replace hs2 := hs2.below hbc
 replace hs3 := hs3.below hbc
 replace hs4 := hs4.below hbc
 replace M := M.call hbc
 refine ⟨_, rfl, (M.sub (cn (cc (List.nil_sublist _)))), ?_⟩
 intro a A
 have hlt18 := (Ck.lt (M.has 0 rfl) g4 rfl).2
 have hlt19 := (Ck.lt (M.has 1 rfl) g2 rfl).2
 have hz5 := M.bel.size
 refine zy (by kernel_rfl) (jj A 18 rfl rfl rfl rfl (zf rfl rfl (fun w => by kernel_rfl)) (clB_any (hok.1.raw.below M.bel) (by omega)) ?_)
 rintro _ w20 ⟨ro5, rc5, rfl, ⟨hr5, hi5, hc5, hm5⟩, hb5⟩
 replace hs1 := hs1.below hb5
 replace hs2 := hs2.below hb5
 replace hs3 := hs3.below hb5
 replace hs4 := hs4.below hb5
 replace M := M.call hb5
 refine ⟨_, rfl, (M.sub (cn (cc (List.nil_sublist _)))), ?_⟩
 intro a A
 have hlt21 := (Ck.lt (M.has 0 rfl) g4 rfl).2
 have hlt22 := (Ck.lt (M.has 1 rfl) g2 rfl).2
 have hz6 := M.bel.size
 refine zy (by kernel_rfl) (jj A 21 rfl rfl rfl rfl (zf rfl rfl (fun w => by kernel_rfl)) (qab ih (hok.2.2.2.1.below M.bel) (fun t ht => Dt.keep M.bel _ (hok.2.2.2.2 t ht)) (by omega)) ?_)
 rintro _ w23 ⟨v6, us, rfl, ⟨htr, hus⟩, hM6⟩
 obtain ⟨lo6, lc6, rfl⟩ := jr (hM6.has 0 rfl)
 replace hs1 := hs1.below hM6.bel
 replace hs2 := hs2.below hM6.bel
 replace hs3 := hs3.below hM6.bel
 replace hs4 := hs4.below hM6.bel
 replace hr5 := hr5.below hM6.bel
 replace M : Mg w w23 (.row 53 11 (.slice lo6 us.length lc6) us.length (cellsOf us) :: .obj g4 (.cells #[.int .i64 0, .int .i64 0, .bool false, .slice none 0 0, .slice none 0 0, .bool false, .slice none 0 0, .slice none 0 0, .string (⟨#[]⟩), .slice none 0 0, .slice none 0 0] 53) :: .obj g2 (.cells (d.cells ts.length).toArray 53) :: []) := (M.both hM6 (qf (by simp) (qf (by simp) (qp qy))) (qf (by simp) (qp qy)))
 refine ⟨_, rfl, (M.sub (cn (cn (cc (List.nil_sublist _))))), ?_⟩
 intro a A
 refine qm (v := .agg #[.int .i64 d.k, .int .i64 d.n, .bool d.y.q.b1, .slice p1 d.y.q.t1.length e1, .slice p2 d.y.q.q1.length e2, .bool d.y.q.b2, .slice p3 d.y.q.t2.length e3, .slice p4 d.y.q.q2.length e4, .string d.s, .slice ro5 d.rl.length rc5, .slice lo6 us.length lc6]) A 22 rfl rfl rfl rfl hP (M.sub (cn (cn (cc (List.nil_sublist _))))) (fun w1 M => qn rfl (fun w => by kernel_rfl)) λa A↦?_
 refine zy (by kernel_rfl) (qdc (us := [.int .i64 d.k, .int .i64 d.n, .bool d.y.q.b1, .slice p1 d.y.q.t1.length e1, .slice p2 d.y.q.q1.length e2, .bool d.y.q.b2, .slice p3 d.y.q.t2.length e3, .slice p4 d.y.q.q2.length e4, .string d.s, .slice ro5 d.rl.length rc5, .slice lo6 us.length lc6]) (L' := (.row 53 11 (.slice lo6 us.length lc6) us.length (cellsOf us) :: .obj g4 (.cells #[.int .i64 d.k, .int .i64 d.n, .bool d.y.q.b1, .slice p1 d.y.q.t1.length e1, .slice p2 d.y.q.q1.length e2, .bool d.y.q.b2, .slice p3 d.y.q.t2.length e3, .slice p4 d.y.q.q2.length e4, .string d.s, .slice ro5 d.rl.length rc5, .slice lo6 us.length lc6] 53) :: .obj g2 (.cells (d.cells ts.length).toArray 53) :: [])) A M 23 rfl rfl rfl (qj rfl rfl rfl (by kernel_rfl) M 1 rfl rfl rfl) 1 rfl rfl rfl ?_)
 intro w24 M hK25
 replace hs1 := xt hs1 (hi1.mono fun b hb => by rintro rfl; omega) hK25
 replace hs2 := xt hs2 (hi2.mono fun b hb => by rintro rfl; omega) hK25
 replace hs3 := xt hs3 (hi3.mono fun b hb => by rintro rfl; omega) hK25
 replace hs4 := xt hs4 (hi4.mono fun b hb => by rintro rfl; omega) hK25
 replace hr5 := rb_kept hr5 (hi5.mono fun b hb => by rintro rfl; omega) hK25
 have hu9 : ∀ t ∈ us, t.rd w24 := fun t ht => Dt.kept hK25 _ (hus t ht).1 (Dt.at_mono (fun b hb => by rintro rfl; have := hb.1; omega) _ (hus t ht).2)
 refine ⟨(M.sub (cn (cn (cc (List.nil_sublist _))))), ?_⟩
 refine jo (by kernel_rfl) ?_
 refine hK6 _ _ (wp_ret (hret _ _ (en1 A rfl (zr M LiB_isS_53 rfl 1 rfl (cs := [.int .i64 d.k, .int .i64 d.n, .bool d.y.q.b1, .slice p1 d.y.q.t1.length e1, .slice p2 d.y.q.q1.length e2, .bool d.y.q.b2, .slice p3 d.y.q.t2.length e3, .slice p4 d.y.q.q2.length e4, .string d.s, .slice ro5 d.rl.length rc5, .slice lo6 us.length lc6]) rfl rfl) ?_)))
 have ho9 := vg (M.has 0 rfl)
 exact ⟨.mk ⟨d.k, d.n, ⟨d.y.q, p1, e1, p2, e2, p3, e3, p4, e4⟩, d.s, ro5, rc5, d.rl, lo6, lc6⟩ us, rfl, ⟨Dt.rd_iff.2 ⟨{ hok.1 with num := ⟨hs1, hs2, hs3, hs4⟩, raw := hr5, rcap := hc5, rmax := hm5 }, ho9.2.2.1, ho9.2.2.2, ho9.1, hu9⟩, Dt.at_iff.2 ⟨⟨hi1.mono fun b hb => Nat.le_trans hsz9 hb, hi2.mono fun b hb => Nat.le_trans hsz9 hb, hi3.mono fun b hb => Nat.le_trans hsz14 hb, hi4.mono fun b hb => Nat.le_trans hsz14 hb, hi5.mono fun b hb => Nat.le_trans hz5 hb⟩, uu (M.has 0 rfl) _, fun t ht => Dt.at_mono (fun b hb => Nat.le_trans hz6 hb.1) _ (hus t ht).2⟩, by rw [Dt.tr_mk, Dt.tr_mk, htr]⟩, M.bel⟩
theorem LiC_isS_53 : IsS Tryz.prog 53 11 := ⟨⟨_, Tryz.underlying53⟩, by kernel_rfl⟩
theorem index_any {w : World} {so : Option Addr} {ca : Nat} {ts : List Dt} (hR : Rt w so ts) (hD : ∀ t ∈ ts, t.rd w) (hl : ts.length ≤ 1000000000) {f : FuncId} {cs : List Value} {p : Dt → Bool} (hF : Asks Tryz.prog f cs w ts p) : Calls Tryz.prog 77 #[.slice so ts.length ca, .func (.func f) #[] cs.toArray] w fun e w' => e = .returned (.int .i64 (qmb p ts)) ∧ Below w.heap.size w w' := by
 have M : Mg w w ([]) := Mg.start w
 refine qr (l := [(0, .slice so ts.length ca), (1, .func (.func f) #[] cs.toArray)]) Tryz.func77 rfl Tryz.ntmps77 rfl rfl ?_
 intro Q hret hnorm hP a A
 refine wsk fun K1 hK1 => wrl (sda A λa A↦?_)
 refine qa (hK1 _ _ (wsk fun K2 hK2 => wsk fun K3 hK3 => wrl (sdm A λa A↦?_)))
 refine sdo A (ze Tryz.underlying39 rfl) λa A↦?_
 refine sdm A λa A↦?_
 refine qa (hK3 _ _ (wp_block (ja (fun m_ a w1 => ∃ (i : Nat), m_ = 1 + (ts.length - i) ∧ (i ≤ ts.length ∧ ∀ j u, j < i → ts[j]? = some u → p u = false) ∧ Sl a 19 [(0, .slice so ts.length ca), (1, .func (.func f) #[] cs.toArray), (6, .slice so ts.length ca), (7, .int .i64 (((ts.length : Nat) : Int))), (8, .int .i64 (((i : Nat) : Int)))] ∧ Mg w w1 ([])) _ ⟨0, rfl, ⟨Nat.zero_le _, fun j u h => absurd h (Nat.not_lt_zero _)⟩, A.keep _ ⟨rfl, rfl, rfl, rfl, rfl, trivial⟩, M⟩ ?_)))
 clear M A
 rintro m_ a w4 ⟨i, rfl, hinv6, A, M⟩ K5 hK5
 obtain ⟨hi0, hin9⟩ := hinv6
 refine wsk fun K7 hK7 => wrl ?_
 rcases tf (decide (((i : Nat) : Int) < ((ts.length : Nat) : Int))) with hb8 | hb8
 ·
  have hb8' := of_decide_eq_true hb8
  refine sdc A zl hb8 λa A↦?_
  refine qa (hK7 _ _ (wsk fun K9 hK9 => wp_cond_true (A.ev rfl) ?_))
  refine wp_skip (hK9 _ _ (wsk fun K10 hK10 => wp_block (wsk fun K11 hK11 => wrl (sdm A λa A↦?_))))
  refine sda A λa A↦?_
  refine qa (hK11 _ _ (wsk fun K12 hK12 => ?_))
  obtain ⟨t1, bt1, ot1, it1, mt1, rt1_, lt1, Ht1⟩ := kidL hR hD (i := i) (by omega)
  refine wrl ?_
  iterate 3 refine sdm A λa A↦?_
  refine sdo (v := .pointer (some ⟨bt1, ot1 + i * 11, none⟩)) A (zp (k := i) Tryz.underlying39 (by kernel_rfl) rfl rfl rfl lt1 (by omega)) λa A↦?_
  refine sdo A (jp M Ht1 LiC_isS_53 rfl rfl) λa A↦?_
  rcases tf (p t1) with hb13 | hb13
  ·
   refine xg A rfl rfl rfl (kv rfl rfl hF.inv) ((hb13 ▸ hF.run t1 _ mt1 M.bel)) ?_
   rintro _ w15 ⟨rfl, hb14⟩
   replace M := M.call hb14
   refine ⟨_, rfl, ?_⟩
   intro a A
   refine qa (hK12 _ _ (wp_cond_true (A.ev rfl) ?_))
   refine wsk fun K16 hK16 => wrl (sdm A λa A↦?_)
   refine sda A λa A↦?_
   refine qa (hK16 _ _ (wp_ret (hret _ _ (en1 A rfl (qe rfl) ?_))))
   exact ⟨by rw [idx_hit hin9 it1 hb13], M.bel⟩
  ·
   refine xg A rfl rfl rfl (kv rfl rfl hF.inv) ((hb13 ▸ hF.run t1 _ mt1 M.bel)) ?_
   rintro _ w18 ⟨rfl, hb17⟩
   replace M := M.call hb17
   refine ⟨_, rfl, ?_⟩
   intro a A
   refine qa (hK12 _ _ (wp_cond_false (A.ev rfl) ?_))
   refine wp_skip (hK10 _ _ (wrl (sdo (v := .int .i64 (((i + 1 : Nat) : Int))) A (qg rfl rfl (fun w => (jk (xj (by omega) (by omega)) w).trans (by rw [show (((i : Nat) : Int) + 1 : Int) = ((i + 1 : Nat) : Int) from by omega]))) λa A↦?_)))
   refine sdm A λa A↦?_
   refine qa ?_
   replace M : Mg w w18 ([]) := by
    have h9 := M.sub (.refl _)
    exact h9
   refine hK5 _ _ _ (by omega) ⟨i + 1, rfl, ⟨by omega, fun j u hj hu => if h9 : j < i then hin9 j u h9 hu else by have h8 : j = i := (by omega); subst h8; rw [it1] at hu; rw [← Option.some.inj hu]; exact hb13⟩, A.keep _ ⟨rfl, rfl, rfl, rfl, rfl, trivial⟩, M⟩
 ·
  have hb8' := of_decide_eq_false hb8
  refine sdc A zl hb8 λa A↦?_
  refine qa (hK7 _ _ (wsk fun K19 hK19 => wp_cond_false (A.ev rfl) ?_))
  refine wp_exit (hK2 _ _ (wsk fun K20 hK20 => wrl (sda A λa A↦?_)))
  refine qa (hK20 _ _ (wp_ret (hret _ _ (en1 A rfl (qe rfl) ?_))))
  exact ⟨by rw [idx_miss (fun j u hj => hin9 j u (by omega))], M.bel⟩
theorem uf {w : World} {so : Option Addr} {ca : Nat} {ts : List Dt} (hR : Rt w so ts) (hD : ∀ t ∈ ts, t.rd w) (hl : ts.length ≤ 1000000000) {f : FuncId} {cs : List Value} {p : Dt → Bool} (hF : Asks Tryz.prog f cs w ts p) : Calls Tryz.prog 58 #[.slice so ts.length ca, .func (.func f) #[] cs.toArray] w fun e w' => e = .returned (.bool (ts.any p)) ∧ Below w.heap.size w w' := by
 have M : Mg w w ([]) := Mg.start w
 refine qr (l := [(0, .slice so ts.length ca), (1, .func (.func f) #[] cs.toArray)]) Tryz.func58 rfl Tryz.ntmps58 rfl rfl ?_
 intro Q hret hnorm hP a A
 refine wsk fun K1 hK1 => wrl (sda A λa A↦?_)
 refine qa (hK1 _ _ (wsk fun K2 hK2 => wrl ?_))
 iterate 2 refine sdm A λa A↦?_
 refine gcl A M (ef rfl rfl) (index_any (hR.below M.bel) (fun t ht => Dt.keep M.bel _ (hD t ht)) hl ⟨hF.inv, fun t w1 ht hb => hF.run t w1 ht (M.bel.trans (hb.mono M.bel.size))⟩) fun w4 hb3 M a A => ?_
 rcases tf (decide (0 ≤ qmb p ts)) with hb5 | hb5
 ·
  have hb5' := of_decide_eq_true hb5
  refine sdc A xz hb5 λa A↦?_
  refine sda A λa A↦?_
  refine qa (hK2 _ _ (wp_ret (hret _ _ (en1 A rfl (qe rfl) ?_))))
  exact ⟨by rw [← idx_pos p ts]; simp_all, M.bel⟩
 ·
  have hb5' := of_decide_eq_false hb5
  refine sdc A xz hb5 λa A↦?_
  refine sda A λa A↦?_
  refine qa (hK2 _ _ (wp_ret (hret _ _ (en1 A rfl (qe rfl) ?_))))
  exact ⟨by rw [← idx_pos p ts]; simp_all, M.bel⟩
theorem unsound_any {w : World} {t : Dt} (ht : t.rd w) (hT : Tabs8 w) : Calls Tryz.prog 132 #[.agg (t.d.cells t.ts.length).toArray] w fun e w' => e = .returned (.bool (!qz qh t.tr)) ∧ Below w.heap.size w w' := by
 have M : Mg w w ([]) := Mg.start w
 refine qr (l := [(0, .agg (t.d.cells t.ts.length).toArray)]) Tryz.func132 rfl Tryz.ntmps132 rfl rfl ?_
 intro Q hret hnorm hP a A
 refine wsk fun K1 hK1 => wrl (zg (vs := (t.d.cells t.ts.length)) (t := 53) A M rfl rfl rfl pg (zd rfl rfl) (by decide) ?_)
 intro g2 w3 M a A
 refine sda A λa A↦?_
 refine qa (hK1 _ _ (wsk fun K4 hK4 => wrl (sdo A (za M LiC_isS_53 rfl 0 rfl (cs := (t.d.cells t.ts.length)) rfl rfl) λa A↦?_)))
 rcases tf (qz qh t.tr) with hb5 | hb5
 ·
  refine gcl A M (ef rfl rfl) ((hb5 ▸ sound_any (t := t) (Dt.keep M.bel _ ht) (hT.below M.bel))) fun w7 hb6 M a A => ?_
  refine sdo (v := .bool false) A (zb rfl zn) λa A↦?_
  refine sda A λa A↦?_
  refine qa (hK4 _ _ (wp_ret (hret _ _ (en1 A rfl (qe rfl) ?_))))
  exact ⟨by simp_all, M.bel⟩
 ·
  refine gcl A M (ef rfl rfl) ((hb5 ▸ sound_any (t := t) (Dt.keep M.bel _ ht) (hT.below M.bel))) fun w9 hb8 M a A => ?_
  refine sdo (v := .bool true) A (zb rfl zn) λa A↦?_
  refine sda A λa A↦?_
  refine qa (hK4 _ _ (wp_ret (hret _ _ (en1 A rfl (qe rfl) ?_))))
  exact ⟨by simp_all, M.bel⟩
theorem qji {w : World} {ts : List Dt} (hD : ∀ t ∈ ts, t.rd w) (hT : Tabs8 w) : Asks Tryz.prog 132 [] w ts (fun t => !qz qh t.tr) := ⟨fun us w => by kernel_rfl, fun t w1 ht hb => unsound_any (Dt.keep hb _ (hD t ht)) (hT.below hb)⟩
theorem all_sound (ts : List Dt) : (!ts.any fun t => !qz qh t.tr) = ts.all fun t => qz qh t.tr := by
 induction ts with
 | nil => rfl
 | cons t ts ih => rw [List.any_cons, List.all_cons, Bool.not_or, Bool.not_not, ih]
theorem qjj {w : World} {so : Option Addr} {ca : Nat} {ts : List Dt} (hR : Rt w so ts) (hD : ∀ t ∈ ts, t.rd w) (hl : ts.length ≤ 1000000000) (hT : Tabs8 w) : Calls Tryz.prog 103 #[.slice so ts.length ca] w fun e w' => e = .returned (.bool (ts.all fun t => qz qh t.tr)) ∧ Below w.heap.size w w' := by
 have M : Mg w w ([]) := Mg.start w
 refine qr (l := [(0, .slice so ts.length ca)]) Tryz.func103 rfl Tryz.ntmps103 rfl rfl ?_
 intro Q hret hnorm hP a A
 refine wsk fun K1 hK1 => wrl (sda A λa A↦?_)
 refine qa (hK1 _ _ (wsk fun K2 hK2 => wrl (sdm A λa A↦?_)))
 refine gcl A M (ef rfl rfl) (uf (cs := []) (hR.below M.bel) (fun t ht => Dt.keep M.bel _ (hD t ht)) hl (qji (fun t ht => Dt.keep M.bel _ (hD t ht)) (hT.below M.bel))) fun w4 hb3 M a A => ?_
 refine sdo (v := .bool (!(ts.any fun t => !qz qh t.tr))) A (zb rfl zn) λa A↦?_
 refine sda A λa A↦?_
 refine qa (hK2 _ _ (wp_ret (hret _ _ (en1 A rfl (qe rfl) ?_))))
 exact ⟨by rw [← all_sound], M.bel⟩
theorem KcA_is1_3 : Is1 Tryz.prog 3 := ⟨⟨_, Tryz.underlying3, rfl⟩, by kernel_rfl⟩
theorem KcA_fld_61_1 : FieldAt Tryz.prog 61 1 1 := ⟨_, _, Tryz.underlying61, rfl, rfl, by kernel_rfl⟩
theorem KcA_fld_61_2 : FieldAt Tryz.prog 61 2 2 := ⟨_, _, Tryz.underlying61, rfl, rfl, by kernel_rfl⟩
theorem KcA_isS_61 : IsS Tryz.prog 61 3 := ⟨⟨_, Tryz.underlying61⟩, by kernel_rfl⟩
theorem index1_any {w : World} {so : Option Addr} {ca : Nat} {l : List Int} (hI : Rc w so (inC l)) (hl : l.length ≤ 2000000) {x : Int} : Calls Tryz.prog 75 #[.slice so l.length ca, .int .i64 x] w fun e w' => e = .returned (.int .i64 (ixG (fun z => x == z) l)) ∧ Below w.heap.size w w' := by
 have M : Mg w w ([]) := Mg.start w
 refine qr (l := [(0, .slice so l.length ca), (1, .int .i64 x)]) Tryz.func75 rfl Tryz.ntmps75 rfl rfl ?_
 intro Q hret hnorm hP a A
 refine wsk fun K1 hK1 => wrl (sda A λa A↦?_)
 refine qa (hK1 _ _ (wsk fun K2 hK2 => wsk fun K3 hK3 => wrl (sdm A λa A↦?_)))
 refine sdo A (ze Tryz.underlying94 rfl) λa A↦?_
 refine sdm A λa A↦?_
 refine qa (hK3 _ _ (wp_block (ja (fun m_ a w1 => ∃ (i : Nat), m_ = 1 + (l.length - i) ∧ (i ≤ l.length ∧ ∀ (j : Nat) u, j < i → l[j]? = some u → (fun z => x == z) u = false) ∧ Sl a 19 [(0, .slice so l.length ca), (1, .int .i64 x), (6, .slice so l.length ca), (7, .int .i64 (((l.length : Nat) : Int))), (8, .int .i64 (((i : Nat) : Int)))] ∧ Mg w w1 ([])) _ ⟨0, rfl, ⟨Nat.zero_le _, fun j u h => absurd h (Nat.not_lt_zero _)⟩, A.keep _ ⟨rfl, rfl, rfl, rfl, rfl, trivial⟩, M⟩ ?_)))
 clear M A
 rintro m_ a w4 ⟨i, rfl, hinv6, A, M⟩ K5 hK5
 obtain ⟨hi0, hin9⟩ := hinv6
 refine wsk fun K7 hK7 => wrl ?_
 rcases tf (decide (((i : Nat) : Int) < ((l.length : Nat) : Int))) with hb8 | hb8
 ·
  have hb8' := of_decide_eq_true hb8
  refine sdc A zl hb8 λa A↦?_
  refine qa (hK7 _ _ (wsk fun K9 hK9 => wp_cond_true (A.ev rfl) ?_))
  refine wp_skip (hK9 _ _ (wsk fun K10 hK10 => wp_block (wsk fun K11 hK11 => wrl (sdm A λa A↦?_))))
  refine sda A λa A↦?_
  refine qa (hK11 _ _ (wsk fun K12 hK12 => wrl ?_))
  iterate 3 refine sdm A λa A↦?_
  obtain ⟨bi13, oi14, zi15, hs16, hc17, hi18, hm19⟩ := ri_at (hI.below M.bel) (i := i) (by omega)
  refine sdo (v := .pointer (some ⟨bi13, oi14 + i, none⟩)) A (jl (k := i) Tryz.underlying94 (by kernel_rfl) rfl rfl (by first | rfl | omega) hs16 (by omega)) λa A↦?_
  refine sdo A (qij hc17 KcA_is1_3 rfl) λa A↦?_
  rcases tf ((x == zi15)) with hb20 | hb20
  ·
   have hb20' := eq_of_beq hb20
   refine sdc A qx hb20 λa A↦?_
   refine qa (hK12 _ _ (wp_cond_true (A.ev rfl) ?_))
   refine wsk fun K21 hK21 => wrl (sdm A λa A↦?_)
   refine sda A λa A↦?_
   refine qa (hK21 _ _ (wp_ret (hret _ _ (en1 A rfl (qe rfl) ?_))))
   exact ⟨by rw [ixG_hit (p := fun z => x == z) hin9 hi18 hb20], M.bel⟩
  ·
   have hb20' := ne_of_beq_false hb20
   refine sdc A qx hb20 λa A↦?_
   refine qa (hK12 _ _ (wp_cond_false (A.ev rfl) ?_))
   refine wp_skip (hK10 _ _ (wrl (sdo (v := .int .i64 (((i + 1 : Nat) : Int))) A (qg rfl rfl (fun w => (jk (xj (by omega) (by omega)) w).trans (by rw [show (((i : Nat) : Int) + 1 : Int) = ((i + 1 : Nat) : Int) from by omega]))) λa A↦?_)))
   refine sdm A λa A↦?_
   refine qa ?_
   replace M : Mg w w4 ([]) := by
    have h9 := M.sub (.refl _)
    exact h9
   refine hK5 _ _ _ (by omega) ⟨i + 1, rfl, ⟨by omega, fun j u hj hu => if h9 : j < i then hin9 j u h9 hu else by have h8 : j = i := (by omega); subst h8; rw [hi18] at hu; rw [← Option.some.inj hu]; exact hb20⟩, A.keep _ ⟨rfl, rfl, rfl, rfl, rfl, trivial⟩, M⟩
 ·
  have hb8' := of_decide_eq_false hb8
  refine sdc A zl hb8 λa A↦?_
  refine qa (hK7 _ _ (wsk fun K22 hK22 => wp_cond_false (A.ev rfl) ?_))
  refine wp_exit (hK2 _ _ (wsk fun K23 hK23 => wrl (sda A λa A↦?_)))
  refine qa (hK23 _ _ (wp_ret (hret _ _ (en1 A rfl (qe rfl) ?_))))
  exact ⟨by rw [ixG_miss (p := fun z => x == z) (fun j u hj => hin9 j u (by omega))], M.bel⟩
theorem qfj {w : World} {so : Option Addr} {ca : Nat} {l : List Int} (hI : Rc w so (inC l)) (hl : l.length ≤ 2000000) {x : Int} : Calls Tryz.prog 52 #[.slice so l.length ca, .int .i64 x] w fun e w' => e = .returned (.bool (l.any fun z => x == z)) ∧ Below w.heap.size w w' := by
 have M : Mg w w ([]) := Mg.start w
 refine qr (l := [(0, .slice so l.length ca), (1, .int .i64 x)]) Tryz.func52 rfl Tryz.ntmps52 rfl rfl ?_
 intro Q hret hnorm hP a A
 refine wsk fun K1 hK1 => wrl (sda A λa A↦?_)
 refine qa (hK1 _ _ (wsk fun K2 hK2 => wrl ?_))
 iterate 2 refine sdm A λa A↦?_
 refine gcl A M (ef rfl rfl) (index1_any (hI.below M.bel) hl) fun w4 hb3 M a A => ?_
 refine sdo (v := .bool (decide (0 ≤ ixG (fun z => x == z) l))) A (qg rfl rfl xz) λa A↦?_
 refine sda A λa A↦?_
 refine qa (hK2 _ _ (wp_ret (hret _ _ (en1 A rfl (qe rfl) ?_))))
 exact ⟨by rw [← ixG_any], M.bel⟩
theorem qee {w : World} {t : Int} : Calls Tryz.prog 27 #[.int .i64 t] w fun e w' => e = .returned (.tuple #[.agg (kat t).c.toArray, .int .i64 (if okT 20 t = true then (0 : Int) else 7)]) ∧ Below w.heap.size w w' := by
 have M : Mg w w ([]) := Mg.start w
 refine qr (l := [(0, .int .i64 t)]) Tryz.func27 rfl Tryz.ntmps27 rfl rfl ?_
 intro Q hret hnorm hP a A
 refine wsk fun K1 hK1 => wrl (zg (vs := ji.c) (t := 61) A M rfl rfl rfl pg (qk (z := .agg ji.c.toArray) (by kernel_rfl) rfl) (by decide) ?_)
 intro g2 w3 M a A
 refine sda A λa A↦?_
 refine qa (hK1 _ _ (wsk fun K4 hK4 => wrl (sdo (v := .agg #[.string (⟨#[99, 111, 110, 100, 105, 116, 105, 111, 110]⟩), .int .i64 (-1), .int .i64 0]) A (qn rfl (fun w => by kernel_rfl)) λa A↦?_)))
 refine sdo (v := .agg #[.string (⟨#[109, 101, 115, 115, 97, 103, 101]⟩), .int .i64 0, .int .i64 1]) A (qn rfl (fun w => by kernel_rfl)) λa A↦?_
 refine sdo (v := .agg #[.string (⟨#[119, 97, 114, 110, 105, 110, 103]⟩), .int .i64 0, .int .i64 0]) A (qn rfl (fun w => by kernel_rfl)) λa A↦?_
 refine sdo (v := .agg #[.string (⟨#[115, 101, 114, 105, 111, 117, 115]⟩), .int .i64 0, .int .i64 0]) A (qn rfl (fun w => by kernel_rfl)) λa A↦?_
 refine sdo (v := .agg #[.string (⟨#[101, 114, 114, 111, 114]⟩), .int .i64 3, .int .i64 0]) A (qn rfl (fun w => by kernel_rfl)) λa A↦?_
 refine sdo (v := .agg #[.string (⟨#[118, 105, 111, 108, 97, 116, 105, 111, 110]⟩), .int .i64 3, .int .i64 0]) A (qn rfl (fun w => by kernel_rfl)) λa A↦?_
 refine sdo (v := .agg #[.string (⟨#[97, 115, 115, 101, 114, 116, 105, 111, 110]⟩), .int .i64 5, .int .i64 0]) A (qn rfl (fun w => by kernel_rfl)) λa A↦?_
 refine sdo (v := .agg #[.string (⟨#[105, 114, 114, 105, 116, 97, 110, 116, 115]⟩), .int .i64 0, .int .i64 1]) A (qn rfl (fun w => by kernel_rfl)) λa A↦?_
 refine sdo (v := .agg #[.string (⟨#[119, 104, 111]⟩), .int .i64 0, .int .i64 1]) A (qn rfl (fun w => by kernel_rfl)) λa A↦?_
 refine sdo (v := .agg #[.string (⟨#[110, 111, 110, 45, 99, 111, 110, 116, 105, 110, 117, 97, 98, 108, 101]⟩), .int .i64 5, .int .i64 0]) A (qn rfl (fun w => by kernel_rfl)) λa A↦?_
 refine sdo (v := .agg #[.string (⟨#[105, 109, 112, 108, 101, 109, 101, 110, 116, 97, 116, 105, 111, 110, 45, 114, 101, 115, 116, 114, 105, 99, 116, 105, 111, 110]⟩), .int .i64 5, .int .i64 0]) A (qn rfl (fun w => by kernel_rfl)) λa A↦?_
 refine sdo (v := .agg #[.string (⟨#[108, 101, 120, 105, 99, 97, 108]⟩), .int .i64 5, .int .i64 0]) A (qn rfl (fun w => by kernel_rfl)) λa A↦?_
 refine sdo (v := .agg #[.string (⟨#[115, 121, 110, 116, 97, 120]⟩), .int .i64 5, .int .i64 2]) A (qn rfl (fun w => by kernel_rfl)) λa A↦?_
 refine sdo (v := .agg #[.string (⟨#[117, 110, 100, 101, 102, 105, 110, 101, 100]⟩), .int .i64 5, .int .i64 0]) A (qn rfl (fun w => by kernel_rfl)) λa A↦?_
 refine sdo (v := .agg #[.string (⟨#[105, 47, 111]⟩), .int .i64 4, .int .i64 0]) A (qn rfl (fun w => by kernel_rfl)) λa A↦?_
 refine sdo (v := .agg #[.string (⟨#[105, 47, 111, 45, 114, 101, 97, 100]⟩), .int .i64 14, .int .i64 0]) A (qn rfl (fun w => by kernel_rfl)) λa A↦?_
 refine sdo (v := .agg #[.string (⟨#[105, 47, 111, 45, 119, 114, 105, 116, 101]⟩), .int .i64 14, .int .i64 0]) A (qn rfl (fun w => by kernel_rfl)) λa A↦?_
 refine sdo (v := .agg #[.string (⟨#[105, 47, 111, 45, 102, 105, 108, 101, 110, 97, 109, 101]⟩), .int .i64 14, .int .i64 1]) A (qn rfl (fun w => by kernel_rfl)) λa A↦?_
 refine sdo (v := .agg #[.string (⟨#[105, 47, 111, 45, 102, 105, 108, 101, 45, 100, 111, 101, 115, 45, 110, 111, 116, 45, 101, 120, 105, 115, 116]⟩), .int .i64 17, .int .i64 0]) A (qn rfl (fun w => by kernel_rfl)) λa A↦?_
 refine sdo (v := .agg #[.string (⟨#[105, 47, 111, 45, 102, 105, 108, 101, 45, 97, 108, 114, 101, 97, 100, 121, 45, 101, 120, 105, 115, 116, 115]⟩), .int .i64 17, .int .i64 0]) A (qn rfl (fun w => by kernel_rfl)) λa A↦?_
 refine sdo (v := .agg (zh Kd.c kds).toArray) A (qn rfl (fun w => by kernel_rfl)) λa A↦?_
 refine zg (vs := (zh Kd.c (List.replicate 20 ji))) (t := 92) A M rfl rfl rfl pg (qk (z := .agg (zh Kd.c (List.replicate 20 ji)).toArray) (by kernel_rfl) rfl) (by decide) ?_
 intro g5 w6 M a A
 refine qw (us := (zh Kd.c kds)) (L' := (.obj g5 (.cells (zh Kd.c kds).toArray 92) :: .obj g2 (.cells ji.c.toArray 61) :: [])) A M rfl rfl (qj rfl rfl rfl (by kernel_rfl) M 0 rfl rfl rfl) 0 rfl rfl rfl ?_
 intro w7 M
 refine qa (hK4 _ _ (wsk fun K8 hK8 => wsk fun K9 hK9 => wrl (sdm A λa A↦?_)))
 rcases tf (decide (t < 0)) with hb10 | hb10
 ·
  have hb10' := of_decide_eq_true hb10
  refine sdc A zl hb10 λa A↦?_
  refine sdm A λa A↦?_
  iterate 2 refine qt A rfl rfl rfl λa A↦?_
  refine sdk (v := .bool true) A λa A↦?_
  refine qa (hK9 _ _ (wp_cond_true (A.ev rfl) ?_))
  refine wsk fun K11 hK11 => wrl (sdo (v := .agg ji.c.toArray) A (qn rfl (fun w => by kernel_rfl)) λa A↦?_)
  refine qw (us := ji.c) (L' := (.obj g5 (.cells (zh Kd.c kds).toArray 92) :: .obj g2 (.cells ji.c.toArray 61) :: [])) A M rfl rfl (qj rfl rfl rfl (by kernel_rfl) M 1 rfl rfl rfl) 1 rfl rfl rfl ?_
  intro w12 M
  refine sda A λa A↦?_
  refine qa (hK11 _ _ (wp_ret (hret _ _ (en2 A rfl (zr M KcA_isS_61 rfl 1 rfl (cs := [.string (⟨#[]⟩), .int .i64 0, .int .i64 0]) rfl rfl) (qe rfl) ?_))))
  have hno : okT 20 t = false := (by first | exact okT_lo (by omega) | exact okT_hi (by omega))
  exact ⟨by rw [kat_no hno, if_neg (by rw [hno]; decide)] <;> rfl, M.bel⟩
 ·
  have hb10' := of_decide_eq_false hb10
  refine sdc A zl hb10 λa A↦?_
  iterate 2 refine sdm A λa A↦?_
  rcases tf (decide (20 ≤ t)) with hb13 | hb13
  ·
   have hb13' := of_decide_eq_true hb13
   refine sdc A xz hb13 λa A↦?_
   refine sdk (v := .bool true) A λa A↦?_
   refine qa (hK9 _ _ (wp_cond_true (A.ev rfl) ?_))
   refine wsk fun K14 hK14 => wrl (sdo (v := .agg ji.c.toArray) A (qn rfl (fun w => by kernel_rfl)) λa A↦?_)
   refine qw (us := ji.c) (L' := (.obj g5 (.cells (zh Kd.c kds).toArray 92) :: .obj g2 (.cells ji.c.toArray 61) :: [])) A M rfl rfl (qj rfl rfl rfl (by kernel_rfl) M 1 rfl rfl rfl) 1 rfl rfl rfl ?_
   intro w15 M
   refine sda A λa A↦?_
   refine qa (hK14 _ _ (wp_ret (hret _ _ (en2 A rfl (zr M KcA_isS_61 rfl 1 rfl (cs := [.string (⟨#[]⟩), .int .i64 0, .int .i64 0]) rfl rfl) (qe rfl) ?_))))
   have hno : okT 20 t = false := (by first | exact okT_lo (by omega) | exact okT_hi (by omega))
   exact ⟨by rw [kat_no hno, if_neg (by rw [hno]; decide)] <;> rfl, M.bel⟩
  ·
   have hb13' := of_decide_eq_false hb13
   refine sdc A xz hb13 λa A↦?_
   refine sdk (v := .bool false) A λa A↦?_
   refine qa (hK9 _ _ (wp_cond_false (A.ev rfl) ?_))
   refine wp_skip (hK8 _ _ (wsk fun K16 hK16 => ?_))
   have hok : okT 20 t = true := okT_of (by omega) (by omega)
   refine wrl (sdm A λa A↦?_)
   refine sdo (v := .pointer (some ⟨g5, t.toNat * 3, none⟩)) A (does_arr (k := t.toNat) Tryz.underlying92 (by kernel_rfl) rfl rfl (by omega) (by omega)) λa A↦?_
   refine sdo A (za (cs := (kat t).c) M KcA_isS_61 rfl 0 rfl (qce kd_len (kds_at hok)) rfl) λa A↦?_
   refine qw (us := (kat t).c) (L' := (.obj g5 (.cells (zh Kd.c kds).toArray 92) :: .obj g2 (.cells (kat t).c.toArray 61) :: [])) A M rfl rfl (qj rfl rfl rfl (by kernel_rfl) M 1 rfl rfl rfl) 1 rfl rfl rfl ?_
   intro w17 M
   refine sda A λa A↦?_
   refine qa (hK16 _ _ (wp_ret (hret _ _ (en2 A rfl (zr M KcA_isS_61 rfl 1 rfl (cs := [.string ((kat t).nm), .int .i64 ((kat t).par), .int .i64 ((kat t).own)]) rfl rfl) (qe rfl) ?_))))
   exact ⟨by rw [if_pos hok] <;> rfl, M.bel⟩
theorem kq {w : World} {t : Int} (h : okT 20 t = true) : Calls Tryz.prog 27 #[.int .i64 t] w fun e w' => e = .returned (.tuple #[.agg (kat t).c.toArray, .int .i64 0]) ∧ Below w.heap.size w w' := by
 have := qee (w := w) (t := t)
 rwa [if_pos h] at this
theorem kindOf_f {w : World} {t : Int} (h : okT 20 t = false) : Calls Tryz.prog 27 #[.int .i64 t] w fun e w' => e = .returned (.tuple #[.agg (kat t).c.toArray, .int .i64 7]) ∧ Below w.heap.size w w' := by
 have := qee (w := w) (t := t)
 rwa [if_neg (by rw [h]; decide)] at this
theorem js {w : World} {t : Int} : Calls Tryz.prog 28 #[.int .i64 t] w fun e w' => e = .returned (.bool (okT 20 t)) ∧ Below w.heap.size w w' := by
 have M : Mg w w ([]) := Mg.start w
 refine qr (l := [(0, .int .i64 t)]) Tryz.func28 rfl Tryz.ntmps28 rfl rfl ?_
 intro Q hret hnorm hP a A
 refine wsk fun K1 hK1 => wrl (sda A λa A↦?_)
 refine qa (hK1 _ _ (wsk fun K2 hK2 => wrl (sdm A λa A↦?_)))
 rcases tf (okT 20 t) with hb3 | hb3
 ·
  refine gcl A M (ef rfl rfl) (kq hb3) fun w5 hb4 M a A => ?_
  refine sdm A λa A↦?_
  iterate 2 refine sdo A (ql (vs := [.agg (kat t).c.toArray, .int .i64 0]) rfl rfl) λa A↦?_
  refine zg (vs := ji.c) (t := 61) A M rfl rfl rfl pg (qk (z := .agg ji.c.toArray) (by kernel_rfl) rfl) (by decide) ?_
  intro g6 w7 M a A
  refine qw (us := (kat t).c) (L' := (.obj g6 (.cells (kat t).c.toArray 61) :: [])) A M rfl rfl (qj rfl rfl rfl (by kernel_rfl) M 0 rfl rfl rfl) 0 rfl rfl rfl ?_
  intro w8 M
  refine sda A λa A↦?_
  refine qa (hK2 _ _ (wsk fun K9 hK9 => wrl (sdm A λa A↦?_)))
  refine sdo (v := .bool true) A (qg rfl rfl (fun w => by kernel_rfl)) λa A↦?_
  refine sda A λa A↦?_
  refine qa (hK9 _ _ (wp_ret (hret _ _ (en1 A rfl (qe rfl) ?_))))
  exact ⟨by rw [hb3] <;> rfl, M.bel⟩
 ·
  refine gcl A M (ef rfl rfl) (kindOf_f hb3) fun w11 hb10 M a A => ?_
  refine sdm A λa A↦?_
  iterate 2 refine sdo A (ql (vs := [.agg (kat t).c.toArray, .int .i64 7]) rfl rfl) λa A↦?_
  refine zg (vs := ji.c) (t := 61) A M rfl rfl rfl pg (qk (z := .agg ji.c.toArray) (by kernel_rfl) rfl) (by decide) ?_
  intro g12 w13 M a A
  refine qw (us := (kat t).c) (L' := (.obj g12 (.cells (kat t).c.toArray 61) :: [])) A M rfl rfl (qj rfl rfl rfl (by kernel_rfl) M 0 rfl rfl rfl) 0 rfl rfl rfl ?_
  intro w14 M
  refine sda A λa A↦?_
  refine qa (hK2 _ _ (wsk fun K15 hK15 => wrl (sdm A λa A↦?_)))
  refine sdo (v := .bool false) A (qg rfl rfl (fun w => by kernel_rfl)) λa A↦?_
  refine sda A λa A↦?_
  refine qa (hK15 _ _ (wp_ret (hret _ _ (en1 A rfl (qe rfl) ?_))))
  exact ⟨by rw [hb3] <;> rfl, M.bel⟩
theorem qhd {w : World} {t : Int} (ht : okT 20 t = true) : Calls Tryz.prog 53 #[.int .i64 t] w fun e w' => ∃ so' ca', e = .returned (.slice so' (chC t).length ca') ∧ Mg w w' [.row 3 1 (.slice so' (chC t).length ca') (chC t).length (inC (chC t))] := by
 have ht9 := kj ht
 have M : Mg w w ([]) := Mg.start w
 refine qr (l := [(0, .int .i64 t)]) Tryz.func53 rfl Tryz.ntmps53 rfl rfl ?_
 intro Q hret hnorm hP a A
 refine wsk fun K1 hK1 => wrl (sda A λa A↦?_)
 refine qa (hK1 _ _ (wsk fun K2 hK2 => wrl (sda A λa A↦?_)))
 refine qa (hK2 _ _ (wsk fun K3 hK3 => wp_block ?_))
 replace M := M.nilRow (qp qy) 3 1
 refine ja (fun m_ a w1 => ∃ (out : List Int) (x : Int) (so9 : Option Addr) (ca9 : Nat), m_ = (x + 1).toNat ∧ (-1 ≤ x ∧ x ≤ t ∧ out ++ chC x = chC t) ∧ Sl a 20 [(0, .int .i64 x), (2, .slice none 0 0), (3, .slice so9 out.length ca9)] ∧ Mg w w1 (.row 3 1 (.slice so9 out.length ca9) out.length (inC out) :: [])) _ ⟨[], t, none, 0, rfl, ⟨by omega, by omega, rfl⟩, A.keep _ ⟨rfl, rfl, rfl, trivial⟩, M⟩ ?_
 clear M A
 rintro m_ a w4 ⟨out, x, so9, ca9, rfl, hinv6, A, M⟩ K5 hK5
 obtain ⟨hx0, hx1, hin9⟩ := hinv6
 refine wsk fun K7 hK7 => wsk fun K8 hK8 => wrl (sdm A λa A↦?_)
 rcases tf ((x != -1)) with hb9 | hb9
 ·
  have hb9' := bne_iff_ne.1 hb9
  refine sdc A zm hb9 λa A↦?_
  refine qa (hK8 _ _ (wp_cond_true (A.ev rfl) ?_))
  refine wp_skip (hK7 _ _ (wp_block (wsk fun K10 hK10 => ?_)))
  have hx : okT 20 x = true := okT_of (by omega) (by omega)
  have hstep := chC_step hx
  have hpr := par_rng hx
  have hol := qjb ht
  rw [← hin9, List.length_append] at hol
  refine wrl ?_
  iterate 2 refine sdm A λa A↦?_
  refine yh (e := 3) (sz := 1) (m := 1) (vs := inC [x]) A M rfl rfl rfl (zv rfl (by kernel_rfl)) rfl rfl (.inl (by decide)) ?_
  intro g11 w12 M a A
  refine xn (e := 3) (sz := 1) (k := 1) (q := out.length) (m := 1) (xs := inC out) (news := inC [x]) (L' := fun v13 => (.row 3 1 (.slice (some ⟨g11, 0, none⟩) 1 1) 1 (inC [x]) :: .row 3 1 (v13) (out.length + 1) (inC out ++ inC [x]) :: [])) A rfl rfl rfl (vm (z := .int .i64 0) (sz := 1) (by_ := 8) Tryz.underlying94 (by kernel_rfl) rfl rfl rfl M 1 rfl rfl rfl rfl (xq (M.has 0 rfl)) (inC_one [x]) (by first | omega | (simp only [List.length_nil]; omega))) (fun _ => rfl) ?_
  intro v13 w14 M a A
  replace M : Mg w w14 (.row 3 1 (.slice (some ⟨g11, 0, none⟩) 1 1) 1 (inC [x]) :: .row 3 1 (v13) ((out ++ [x]).length) (inC (out ++ [x])) :: []) := by
   rw [inC_append, List.length_append]; exact M
  obtain ⟨so15, ca16, rfl⟩ := jr (M.has 1 rfl)
  refine sda A λa A↦?_
  refine qa (hK10 _ _ (wsk fun K17 hK17 => wrl (sdm A λa A↦?_)))
  refine gcl A M (ef rfl rfl) (kq hx) fun w18 hbk M a A => ?_
  refine sdm A λa A↦?_
  iterate 2 refine sdo A (ql (vs := [.agg (kat x).c.toArray, .int .i64 0]) rfl rfl) λa A↦?_
  refine zg (vs := ji.c) (t := 61) A M rfl rfl rfl pg (qk (z := .agg ji.c.toArray) (by kernel_rfl) rfl) (by decide) ?_
  intro g19 w20 M a A
  refine qw (us := (kat x).c) (L' := (.obj g19 (.cells (kat x).c.toArray 61) :: .row 3 1 (.slice (some ⟨g11, 0, none⟩) 1 1) 1 (inC [x]) :: .row 3 1 (.slice so15 ((out ++ [x]).length) ca16) ((out ++ [x]).length) (inC (out ++ [x])) :: [])) A M rfl rfl (qj rfl rfl rfl (by kernel_rfl) M 0 rfl rfl rfl) 0 rfl rfl rfl ?_
  intro w21 M
  refine sda A λa A↦?_
  refine qa (hK17 _ _ (wrl (sdo (v := .pointer (some ⟨g19, 1, none⟩)) A (qb KcA_fld_61_1 rfl rfl) λa A↦?_)))
  refine sdo A (qi M KcA_is1_3 rfl 0 rfl rfl) λa A↦?_
  refine sda A λa A↦?_
  refine qa ?_
  replace M : Mg w w21 (.row 3 1 (.slice so15 ((out ++ [x]).length) ca16) ((out ++ [x]).length) (inC (out ++ [x])) :: []) := by
   have h9 := M.sub (cn (cn (cc (.refl _))))
   exact h9
  refine hK5 _ _ _ (by omega) ⟨(out ++ [x]), (kat x).par, so15, ca16, rfl, ⟨by omega, by omega, by rw [List.append_assoc, ← hin9, hstep]; rfl⟩, A.keep _ ⟨rfl, rfl, rfl, trivial⟩, M⟩
 ·
  have hb9' := bne_eq_false_iff_eq.1 hb9
  refine sdc A zm hb9 λa A↦?_
  refine qa (hK8 _ _ (wp_cond_false (A.ev rfl) ?_))
  refine wp_exit (hK3 _ _ (wsk fun K22 hK22 => wrl (sdm A λa A↦?_)))
  refine sda A λa A↦?_
  refine qa (hK22 _ _ (wp_ret (hret _ _ (en1 A rfl (qe rfl) ?_))))
  replace M : Mg w w4 (.row 3 1 (.slice so9 out.length ca9) out.length (inC out) :: []) := by
   have h9 := M.sub (cc (.refl _))
   exact h9
  have hx1 : x = -1 := hb9'
  subst hx1
  rw [chC_end, List.append_nil] at hin9
  subst hin9
  exact ⟨_, _, rfl, M⟩
theorem qai {w : World} {t o : Int} (ht : okT 20 t = true) : Calls Tryz.prog 29 #[.int .i64 t, .int .i64 o] w fun e w' => e = .returned (.bool (ke t o)) ∧ Below w.heap.size w w' := by
 have M : Mg w w ([]) := Mg.start w
 refine qr (l := [(0, .int .i64 t), (1, .int .i64 o)]) Tryz.func29 rfl Tryz.ntmps29 rfl rfl ?_
 intro Q hret hnorm hP a A
 refine wsk fun K1 hK1 => wrl (sda A λa A↦?_)
 refine qa (hK1 _ _ (wsk fun K2 hK2 => wrl (sdm A λa A↦?_)))
 refine sct A (ef rfl rfl) (qhd ht) ?_
 rintro _ w6 ⟨so3, ca4, rfl, hM5⟩
 replace M : Mg w w6 (.row 3 1 (.slice so3 ((chC t).length) ca4) ((chC t).length) (inC (chC t)) :: []) := (M.both hM5 (qp qy) (qf (by simp) (qp qy)))
 refine ⟨_, rfl, ?_⟩
 intro a A
 refine sdm A λa A↦?_
 refine gcl A M (ef rfl rfl) (qfj (l := (chC t)) (xq (M.has 0 rfl)) (by have h9 := qjb ht; omega)) fun w8 hb7 M a A => ?_
 refine sda A λa A↦?_
 refine qa (hK2 _ _ (wp_ret (hret _ _ (en1 A rfl (qe rfl) ?_))))
 exact ⟨rfl, M.bel⟩
def unS (t o : Int) : Bool × Int := if okT 20 t = true ∧ okT 20 o = true then (ke t o, 0) else (false, 7)
theorem unS_ok {t o : Int} (ht : okT 20 t = true) (ho : okT 20 o = true) : unS t o = (ke t o, 0) := if_pos ⟨ht, ho⟩
theorem unS_t {t o : Int} (ht : okT 20 t = false) : unS t o = (false, 7) := if_neg fun h => by rw [ht] at h; cases h.1
theorem unS_o {t o : Int} (ho : okT 20 o = false) : unS t o = (false, 7) := if_neg fun h => by rw [ho] at h; cases h.2
theorem under_any {w : World} {t o : Int} : Calls Tryz.prog 10 #[.int .i64 t, .int .i64 o] w fun e w' => e = .returned (.tuple #[.bool (unS t o).1, .int .i64 (unS t o).2]) ∧ Below w.heap.size w w' := by
 have M : Mg w w ([]) := Mg.start w
 refine qr (l := [(0, .int .i64 t), (1, .int .i64 o)]) Tryz.func10 rfl Tryz.ntmps10 rfl rfl ?_
 intro Q hret hnorm hP a A
 refine wsk fun K1 hK1 => wrl ?_
 iterate 2 refine sda A λa A↦?_
 refine qa (hK1 _ _ (wsk fun K2 hK2 => wsk fun K3 hK3 => wrl (sdm A λa A↦?_)))
 rcases tf (okT 20 t) with hb4 | hb4
 ·
  refine gcl A M (ef rfl rfl) ((hb4 ▸ js)) fun w6 hb5 M a A => ?_
  refine sdo (v := .bool false) A (zb rfl zn) λa A↦?_
  iterate 2 refine sdm A λa A↦?_
  rcases tf (okT 20 o) with hb7 | hb7
  ·
   refine gcl A M (ef rfl rfl) ((hb7 ▸ js)) fun w9 hb8 M a A => ?_
   refine sdo (v := .bool false) A (zb rfl zn) λa A↦?_
   refine sdk (v := .bool false) A λa A↦?_
   refine qa (hK3 _ _ (wp_cond_false (A.ev rfl) ?_))
   refine wp_skip (hK2 _ _ (wsk fun K10 hK10 => wrl ?_))
   iterate 2 refine sdm A λa A↦?_
   refine gcl A M (ef rfl rfl) (qai hb4) fun w11 hbu M a A => ?_
   iterate 2 refine sda A λa A↦?_
   refine qa (hK10 _ _ (wp_ret (hret _ _ (en2 A rfl (qe rfl) (qe rfl) ?_))))
   exact ⟨by rw [unS_ok hb4 hb7], M.bel⟩
  ·
   refine gcl A M (ef rfl rfl) ((hb7 ▸ js)) fun w13 hb12 M a A => ?_
   refine sdo (v := .bool true) A (zb rfl zn) λa A↦?_
   refine sdk (v := .bool true) A λa A↦?_
   refine qa (hK3 _ _ (wp_cond_true (A.ev rfl) ?_))
   refine wsk fun K14 hK14 => wrl ?_
   iterate 2 refine sda A λa A↦?_
   refine qa (hK14 _ _ (wp_ret (hret _ _ (en2 A rfl (qe rfl) (qe rfl) ?_))))
   exact ⟨by rw [unS_o hb7], M.bel⟩
 ·
  refine gcl A M (ef rfl rfl) ((hb4 ▸ js)) fun w16 hb15 M a A => ?_
  refine sdo (v := .bool true) A (zb rfl zn) λa A↦?_
  refine sdm A λa A↦?_
  iterate 3 refine qt A rfl rfl rfl λa A↦?_
  refine sdk (v := .bool true) A λa A↦?_
  refine qa (hK3 _ _ (wp_cond_true (A.ev rfl) ?_))
  refine wsk fun K17 hK17 => wrl ?_
  iterate 2 refine sda A λa A↦?_
  refine qa (hK17 _ _ (wp_ret (hret _ _ (en2 A rfl (qe rfl) (qe rfl) ?_))))
  exact ⟨by rw [unS_t hb4], M.bel⟩
theorem qef {w : World} {t : Int} (ht : okT 20 t = true) : Calls Tryz.prog 57 #[.int .i64 t] w fun e w' => e = .returned (.int .i64 (yb t)) ∧ Below w.heap.size w w' := by
 have hcl := qjb ht
 have M : Mg w w ([]) := Mg.start w
 refine qr (l := [(0, .int .i64 t)]) Tryz.func57 rfl Tryz.ntmps57 rfl rfl ?_
 intro Q hret hnorm hP a A
 refine wsk fun K1 hK1 => wrl (sda A λa A↦?_)
 refine qa (hK1 _ _ (wsk fun K2 hK2 => wrl (sda A λa A↦?_)))
 refine qa (hK2 _ _ (wsk fun K3 hK3 => wsk fun K4 hK4 => wrl (sdm A λa A↦?_)))
 refine sct A (ef rfl rfl) (qhd ht) ?_
 rintro _ w8 ⟨so5, ca6, rfl, hM7⟩
 replace M : Mg w w8 (.row 3 1 (.slice so5 ((chC t).length) ca6) ((chC t).length) (inC (chC t)) :: []) := (M.both hM7 (qp qy) (qf (by simp) (qp qy)))
 refine ⟨_, rfl, ?_⟩
 intro a A
 refine sdo A (ze Tryz.underlying94 rfl) λa A↦?_
 refine sdm A λa A↦?_
 refine qa (hK4 _ _ (wp_block (ja (fun m_ a w1 => ∃ (i : Nat), m_ = 1 + ((chC t).length - i) ∧ (i ≤ (chC t).length) ∧ Sl a 26 [(0, .int .i64 t), (2, .int .i64 0), (3, .int .i64 ((((chC t).take i).map fun x => (kat x).own).sum)), (8, .int .i64 t), (9, .slice so5 ((chC t).length) ca6), (10, .int .i64 ((((chC t).length : Nat) : Int))), (11, .int .i64 (((i : Nat) : Int)))] ∧ Mg w w1 (.row 3 1 (.slice so5 ((chC t).length) ca6) ((chC t).length) (inC (chC t)) :: [])) _ ⟨0, rfl, Nat.zero_le _, A.keep _ (by repeat' constructor), M⟩ ?_)))
 clear M A
 rintro m_ a w9 ⟨i, rfl, hinv11, A, M⟩ K10 hK10
 have hi0 := hinv11
 refine wsk fun K12 hK12 => wrl ?_
 rcases tf (decide (((i : Nat) : Int) < (((chC t).length : Nat) : Int))) with hb13 | hb13
 ·
  have hb13' := of_decide_eq_true hb13
  refine sdc A zl hb13 λa A↦?_
  refine qa (hK12 _ _ (wsk fun K14 hK14 => wp_cond_true (A.ev rfl) ?_))
  refine wp_skip (hK14 _ _ (wsk fun K15 hK15 => wp_block (wsk fun K16 hK16 => wrl ?_)))
  obtain ⟨bi17, oi18, zi19, hs20, hc21, hi22, hm23⟩ := ri_at (xq (M.has 0 rfl)) (i := i) (by omega)
  refine sdo (v := .pointer (some ⟨bi17, oi18 + i, none⟩)) A (jl (k := i) Tryz.underlying94 (by kernel_rfl) rfl rfl (by first | rfl | omega) hs20 (by omega)) λa A↦?_
  refine sdo A (qij hc21 KcA_is1_3 rfl) λa A↦?_
  refine sda A λa A↦?_
  refine qa (hK16 _ _ (wsk fun K24 hK24 => wrl (sdm A λa A↦?_)))
  refine gcl A M (ef rfl rfl) (kq (chC_mem ht hm23)) fun w25 hbk M a A => ?_
  refine sdm A λa A↦?_
  iterate 2 refine sdo A (ql (vs := [.agg (kat zi19).c.toArray, .int .i64 0]) rfl rfl) λa A↦?_
  refine zg (vs := ji.c) (t := 61) A M rfl rfl rfl pg (qk (z := .agg ji.c.toArray) (by kernel_rfl) rfl) (by decide) ?_
  intro g26 w27 M a A
  refine qw (us := (kat zi19).c) (L' := (.obj g26 (.cells (kat zi19).c.toArray 61) :: .row 3 1 (.slice so5 ((chC t).length) ca6) ((chC t).length) (inC (chC t)) :: [])) A M rfl rfl (qj rfl rfl rfl (by kernel_rfl) M 0 rfl rfl rfl) 0 rfl rfl rfl ?_
  intro w28 M
  refine sda A λa A↦?_
  refine qa (hK24 _ _ (wrl (sdm A λa A↦?_)))
  refine sdo (v := .pointer (some ⟨g26, 2, none⟩)) A (qb KcA_fld_61_2 rfl rfl) λa A↦?_
  refine sdo A (qi M KcA_is1_3 rfl 0 rfl rfl) λa A↦?_
  have hsn := sum_snoc (fun x => (kat x).own) hi22
  have hsr := sum_rng (l := (chC t).take i)
  have hown := own_rng zi19
  have hlt9 : ((chC t).take i).length ≤ 20 := by rw [List.length_take]; omega
  refine sdo (v := .int .i64 ((((chC t).take (i + 1)).map fun x => (kat x).own).sum)) A (qg rfl rfl (ar_add ((in_i64 (by omega) (by omega)).trans (by omega)))) λa A↦?_
  refine sda A λa A↦?_
  refine qa (hK15 _ _ (wrl (sdo (v := .int .i64 (((i + 1 : Nat) : Int))) A (qg rfl rfl (fun w => (jk (xj (by omega) (by omega)) w).trans (by rw [show (((i : Nat) : Int) + 1 : Int) = ((i + 1 : Nat) : Int) from by omega]))) λa A↦?_)))
  refine sdm A λa A↦?_
  refine qa ?_
  replace M : Mg w w28 (.row 3 1 (.slice so5 ((chC t).length) ca6) ((chC t).length) (inC (chC t)) :: []) := by
   have h9 := M.sub (cn (cc (.refl _)))
   exact h9
  refine hK10 _ _ _ (by omega) ⟨i + 1, rfl, by omega, A.keep _ (by repeat' constructor), M⟩
 ·
  have hb13' := of_decide_eq_false hb13
  refine sdc A zl hb13 λa A↦?_
  refine qa (hK12 _ _ (wsk fun K29 hK29 => wp_cond_false (A.ev rfl) ?_))
  refine wp_exit (hK3 _ _ (wsk fun K30 hK30 => wrl (sdm A λa A↦?_)))
  refine sda A λa A↦?_
  refine qa (hK30 _ _ (wp_ret (hret _ _ (en1 A rfl (qe rfl) ?_))))
  exact ⟨by unfold yb; rw [List.take_of_length_le (by omega)], M.bel⟩
theorem KcB_is1_3 : Is1 Tryz.prog 3 := ⟨⟨_, Tryz.underlying3, rfl⟩, by kernel_rfl⟩
theorem KcB_is1_39 : Is1 Tryz.prog 39 := ⟨⟨_, Tryz.underlying39, rfl⟩, by kernel_rfl⟩
theorem KcB_fld_41_0 : FieldAt Tryz.prog 41 0 0 := ⟨_, _, Tryz.underlying41, rfl, rfl, by kernel_rfl⟩
theorem KcB_fld_41_1 : FieldAt Tryz.prog 41 1 1 := ⟨_, _, Tryz.underlying41, rfl, rfl, by kernel_rfl⟩
theorem KcB_isS_41 : IsS Tryz.prog 41 2 := ⟨⟨_, Tryz.underlying41⟩, by kernel_rfl⟩
theorem KcB_isS_53 : IsS Tryz.prog 53 11 := ⟨⟨_, Tryz.underlying53⟩, by kernel_rfl⟩
theorem jm {w : World} {t : Dt} (ht : t.rd w) (hT : Tabs8 w) : Calls Tryz.prog 37 #[.agg (t.d.cells t.ts.length).toArray] w fun e w' => e = .returned (.bool (!qz qh t.tr)) ∧ Below w.heap.size w w' := by
 have M : Mg w w ([]) := Mg.start w
 refine qr (l := [(0, .agg (t.d.cells t.ts.length).toArray)]) Tryz.func37 rfl Tryz.ntmps37 rfl rfl ?_
 intro Q hret hnorm hP a A
 refine wsk fun K1 hK1 => wrl (zg (vs := (t.d.cells t.ts.length)) (t := 53) A M rfl rfl rfl pg (zd rfl rfl) (by decide) ?_)
 intro g2 w3 M a A
 refine sda A λa A↦?_
 refine qa (hK1 _ _ (wsk fun K4 hK4 => wrl (sdo A (za M KcB_isS_53 rfl 0 rfl (cs := (t.d.cells t.ts.length)) rfl rfl) λa A↦?_)))
 rcases tf (qz qh t.tr) with hb5 | hb5
 ·
  refine gcl A M (ef rfl rfl) ((hb5 ▸ sound_any (t := t) (Dt.keep M.bel _ ht) (hT.below M.bel))) fun w7 hb6 M a A => ?_
  refine sdo (v := .bool false) A (zb rfl zn) λa A↦?_
  refine sda A λa A↦?_
  refine qa (hK4 _ _ (wp_ret (hret _ _ (en1 A rfl (qe rfl) ?_))))
  exact ⟨by simp_all, M.bel⟩
 ·
  refine gcl A M (ef rfl rfl) ((hb5 ▸ sound_any (t := t) (Dt.keep M.bel _ ht) (hT.below M.bel))) fun w9 hb8 M a A => ?_
  refine sdo (v := .bool true) A (zb rfl zn) λa A↦?_
  refine sda A λa A↦?_
  refine qa (hK4 _ _ (wp_ret (hret _ _ (en1 A rfl (qe rfl) ?_))))
  exact ⟨by simp_all, M.bel⟩
theorem asks_un {w : World} {ts : List Dt} (hD : ∀ t ∈ ts, t.rd w) (hT : Tabs8 w) : Asks Tryz.prog 37 [] w ts (fun t => !qz qh t.tr) := ⟨fun us w => by kernel_rfl, fun t w1 ht hb => jm (Dt.keep hb _ (hD t ht)) (hT.below hb)⟩
theorem any_all (vs : List Dt) : (vs.any fun t => !qz qh t.tr) = !(vs.map Dt.tr).all (qz qh) := by
 induction vs with
 | nil => rfl
 | cons t ts ih => rw [List.any_cons, List.map_cons, List.all_cons, ih, Bool.not_and]
theorem qaj {w : World} {so : Option Addr} {ca : Nat} {vs : List Dt} (hR : Rt w so vs) (hD : ∀ t ∈ vs, t.rd w) (hl : vs.length ≤ 1000000000) (hT : Tabs8 w) {b : Bool} (h : (vs.map Dt.tr).all (qz qh) = b) : Calls Tryz.prog 58 #[.slice so vs.length ca, .func (.func 37) #[] #[]] w fun e w' => e = .returned (.bool (!b)) ∧ Below w.heap.size w w' := by
 have := uf (ca := ca) (cs := []) hR hD hl (asks_un hD hT)
 rw [any_all, h] at this
 exact this
theorem qga {w : World} {p : Sp} (hp : SpR w p) (hT : Tabs8 w) (hl : p.vs.length ≤ 1000000000) : Calls Tryz.prog 33 #[.agg p.c.toArray] w fun e w' => e = .returned (.int .i64 (ckP p.k)) ∧ Below w.heap.size w w' := by
 have M : Mg w w ([]) := Mg.start w
 refine qr (l := [(0, .agg p.c.toArray)]) Tryz.func33 rfl Tryz.ntmps33 rfl rfl ?_
 intro Q hret hnorm hP a A
 refine wsk fun K1 hK1 => wrl (zg (vs := p.c) (t := 41) A M rfl rfl rfl pg (zd rfl rfl) (by decide) ?_)
 intro g2 w3 M a A
 refine sda A λa A↦?_
 refine qa (hK1 _ _ (wsk fun K4 hK4 => wp_block (wsk fun K5 hK5 => wrl (sdo (v := .pointer (some ⟨g2, 0, none⟩)) A (qb KcB_fld_41_0 rfl rfl) λa A↦?_))))
 refine sdo A (qi M KcB_is1_3 rfl 0 rfl rfl) λa A↦?_
 rcases tf (okT 20 p.ty) with hb6 | hb6
 ·
  refine gcl A M (ef rfl rfl) ((hb6 ▸ js)) fun w8 hb7 M a A => ?_
  refine sdo (v := .bool false) A (zb rfl zn) λa A↦?_
  refine sda A λa A↦?_
  refine qa (hK5 _ _ (wp_cond_false (A.ev rfl) ?_))
  refine wsk fun K9 hK9 => xh (S := fun w1 => Mg w w1 (.obj g2 (.cells p.c.toArray 41) :: [])) (by kernel_rfl) ?_
  replace M := M.drew
  refine qm (v := .pointer (some ⟨g2, 1, none⟩)) A 0 rfl rfl rfl rfl hP (M.sub (cc (List.nil_sublist _))) (fun w1 M => qb KcB_fld_41_1 rfl rfl) λa A↦?_
  refine qm A 1 rfl rfl rfl rfl hP (M.sub (cc (List.nil_sublist _))) (fun w1 M => qi M KcB_is1_39 rfl 0 rfl rfl) λa A↦?_
  refine qm (v := .int .i64 (((p.vs.length : Nat) : Int))) A 2 rfl rfl rfl rfl hP (M.sub (cc (List.nil_sublist _))) (fun w1 M => ze Tryz.underlying39 rfl) λa A↦?_
  refine qm (v := .pointer (some ⟨g2, 0, none⟩)) A 3 rfl rfl rfl rfl hP (M.sub (cc (List.nil_sublist _))) (fun w1 M => qb KcB_fld_41_0 rfl rfl) λa A↦?_
  refine qm A 4 rfl rfl rfl rfl hP (M.sub (cc (List.nil_sublist _))) (fun w1 M => qi M KcB_is1_3 rfl 0 rfl rfl) λa A↦?_
  refine zy (by kernel_rfl) (jj A 5 rfl rfl rfl rfl (zf rfl rfl (fun w => by kernel_rfl)) (qef hb6) ?_)
  rintro _ w11 ⟨rfl, hb10⟩
  replace M := M.call hb10
  refine ⟨_, rfl, (M.sub (cc (List.nil_sublist _))), ?_⟩
  intro a A
  rcases tf ((((p.vs.length : Nat) : Int) != yb p.ty)) with hb12 | hb12
  ·
   have hb12' := bne_iff_ne.1 hb12
   refine qm (v := .bool true) A 6 rfl rfl rfl rfl hP (M.sub (cc (List.nil_sublist _))) (fun w1 M => qg rfl rfl (fun w => (zm w).trans (by rw [hb12]))) λa A↦?_
   refine qm A 7 rfl rfl rfl rfl hP (M.sub (cc (List.nil_sublist _))) (fun w1 M => zq rfl) λa A↦?_
   refine jo (by kernel_rfl) ?_
   refine hK9 _ _ (wp_cond_true (A.ev rfl) ?_)
   refine wsk fun K13 hK13 => wrl (sda A λa A↦?_)
   refine qa (hK13 _ _ (wp_ret (hret _ _ (en1 A rfl (qe rfl) ?_))))
   exact ⟨by rw [ckP_cnt hb6 hb12'], M.bel⟩
  ·
   have hb12' := bne_eq_false_iff_eq.1 hb12
   refine qm (v := .bool false) A 6 rfl rfl rfl rfl hP (M.sub (cc (List.nil_sublist _))) (fun w1 M => qg rfl rfl (fun w => (zm w).trans (by rw [hb12]))) λa A↦?_
   refine qm A 7 rfl rfl rfl rfl hP (M.sub (cc (List.nil_sublist _))) (fun w1 M => zq rfl) λa A↦?_
   refine jo (by kernel_rfl) ?_
   refine hK9 _ _ (wp_cond_false (A.ev rfl) ?_)
   refine wsk fun K14 hK14 => wrl (sdo (v := .pointer (some ⟨g2, 1, none⟩)) A (qb KcB_fld_41_1 rfl rfl) λa A↦?_)
   refine sdo A (qi M KcB_is1_39 rfl 0 rfl rfl) λa A↦?_
   rcases tf ((p.vs.map Dt.tr).all (qz qh)) with hb15 | hb15
   ·
    refine gcl A M (ef rfl rfl) (qaj (hp.v.below M.bel) (fun t ht => Dt.keep M.bel _ (hp.d t ht)) hl (hT.below M.bel) hb15) fun w17 hb16 M a A => ?_
    refine sda A λa A↦?_
    refine qa (hK14 _ _ (wp_cond_false (A.ev rfl) ?_))
    refine wp_skip (hK4 _ _ (wsk fun K18 hK18 => wrl (sda A λa A↦?_)))
    refine qa (hK18 _ _ (wp_ret (hret _ _ (en1 A rfl (qe rfl) ?_))))
    exact ⟨by rw [ckP_snd hb6 hb12' hb15] <;> rfl, M.bel⟩
   ·
    refine gcl A M (ef rfl rfl) (qaj (hp.v.below M.bel) (fun t ht => Dt.keep M.bel _ (hp.d t ht)) hl (hT.below M.bel) hb15) fun w20 hb19 M a A => ?_
    refine sda A λa A↦?_
    refine qa (hK14 _ _ (wp_cond_true (A.ev rfl) ?_))
    refine wsk fun K21 hK21 => wrl (sda A λa A↦?_)
    refine qa (hK21 _ _ (wp_ret (hret _ _ (en1 A rfl (qe rfl) ?_))))
    exact ⟨by rw [ckP_snd hb6 hb12' hb15] <;> rfl, M.bel⟩
 ·
  refine gcl A M (ef rfl rfl) ((hb6 ▸ js)) fun w23 hb22 M a A => ?_
  refine sdo (v := .bool true) A (zb rfl zn) λa A↦?_
  refine sda A λa A↦?_
  refine qa (hK5 _ _ (wp_cond_true (A.ev rfl) ?_))
  refine wsk fun K24 hK24 => wrl (sda A λa A↦?_)
  refine qa (hK24 _ _ (wp_ret (hret _ _ (en1 A rfl (qe rfl) ?_))))
  exact ⟨by rw [ckP_type hb6], M.bel⟩
theorem qac {w : World} {so : Option Addr} {ca : Nat} {ps : List Sp} (hPs : PR w so ps) (hB : PB ps) (hl : ps.length ≤ 1000000000) (hT : Tabs8 w) : Calls Tryz.prog 20 #[.slice so ps.length ca] w fun e w' => e = .returned (.int .i64 (ckC (ps.map Sp.k))) ∧ Below w.heap.size w w' := by
 have M : Mg w w ([]) := Mg.start w
 refine qr (l := [(0, .slice so ps.length ca)]) Tryz.func20 rfl Tryz.ntmps20 rfl rfl ?_
 intro Q hret hnorm hP a A
 refine wsk fun K1 hK1 => wrl (sda A λa A↦?_)
 refine qa (hK1 _ _ (wsk fun K2 hK2 => wsk fun K3 hK3 => wrl (sdm A λa A↦?_)))
 refine sdo A (ze Tryz.underlying34 rfl) λa A↦?_
 rcases tf (decide (16 < ((ps.length : Nat) : Int))) with hb4 | hb4
 ·
  have hb4' := of_decide_eq_true hb4
  refine sdc A xy hb4 λa A↦?_
  refine qa (hK3 _ _ (wp_cond_true (A.ev rfl) ?_))
  refine wsk fun K5 hK5 => wrl (sda A λa A↦?_)
  refine qa (hK5 _ _ (wp_ret (hret _ _ (en1 A rfl (qe rfl) ?_))))
  exact ⟨by rw [qhb (by rw [List.length_map]; omega)], M.bel⟩
 ·
  have hb4' := of_decide_eq_false hb4
  refine sdc A xy hb4 λa A↦?_
  refine qa (hK3 _ _ (wp_cond_false (A.ev rfl) ?_))
  refine wp_skip (hK2 _ _ (wsk fun K6 hK6 => wsk fun K7 hK7 => wrl (sdm A λa A↦?_)))
  refine sdo A (ze Tryz.underlying34 rfl) λa A↦?_
  refine sdm A λa A↦?_
  refine qa (hK7 _ _ (wp_block (ja (fun m_ a w1 => ∃ (i : Nat), m_ = 1 + (ps.length - i) ∧ (i ≤ ps.length ∧ ckA ((ps.map Sp.k).drop i) = ckA (ps.map Sp.k)) ∧ Sl a 21 [(0, .slice so ps.length ca), (6, .slice so ps.length ca), (7, .int .i64 (((ps.length : Nat) : Int))), (8, .bool false), (9, .slice so ps.length ca), (10, .int .i64 (((ps.length : Nat) : Int))), (11, .int .i64 (((i : Nat) : Int)))] ∧ Mg w w1 ([])) _ ⟨0, rfl, ⟨Nat.zero_le _, rfl⟩, A.keep _ (by repeat' constructor), M⟩ ?_)))
  clear M A
  rintro m_ a w8 ⟨i, rfl, hinv10, A, M⟩ K9 hK9
  obtain ⟨hi0, hin9⟩ := hinv10
  refine wsk fun K11 hK11 => wrl ?_
  rcases tf (decide (((i : Nat) : Int) < ((ps.length : Nat) : Int))) with hb12 | hb12
  ·
   have hb12' := of_decide_eq_true hb12
   refine sdc A zl hb12 λa A↦?_
   refine qa (hK11 _ _ (wsk fun K13 hK13 => wp_cond_true (A.ev rfl) ?_))
   refine wp_skip (hK13 _ _ (wsk fun K14 hK14 => wp_block (wsk fun K15 hK15 => wrl ?_)))
   obtain ⟨sp16, bs17, os18, is19, ms20, rs21, ls22, Hs23⟩ := hPs.at_ (i := i) (by omega)
   refine sdo (v := .pointer (some ⟨bs17, os18 + i * 2, none⟩)) A (zp (k := i) Tryz.underlying34 (by kernel_rfl) rfl rfl (by first | rfl | omega) ls22 (by omega)) λa A↦?_
   refine sdo (v := .agg sp16.c.toArray) A (jp M Hs23 KcB_isS_41 rfl rfl) λa A↦?_
   refine zg (vs := zk.c) (t := 41) A M rfl rfl rfl pg (qk (z := .agg zk.c.toArray) (by kernel_rfl) rfl) (by decide) ?_
   intro g24 w25 M a A
   refine qw (us := sp16.c) (L' := (.obj g24 (.cells sp16.c.toArray 41) :: [])) A M rfl rfl (qj rfl rfl rfl (by kernel_rfl) M 0 rfl rfl rfl) 0 rfl rfl rfl ?_
   intro w26 M
   refine qa (hK15 _ _ (wsk fun K27 hK27 => wrl (sdo A (za M KcB_isS_41 rfl 0 rfl (cs := sp16.c) rfl rfl) λa A↦?_)))
   refine gcl A M (ef rfl rfl) (qga (rs21.below M.bel) (hT.below M.bel) (by have := hB.len ms20; omega)) fun w29 hb28 M a A => ?_
   refine sda A λa A↦?_
   refine qa (hK27 _ _ (wsk fun K30 hK30 => wrl (sdm A λa A↦?_)))
   rcases tf ((ckP sp16.k != 0)) with hb31 | hb31
   ·
    have hb31' := bne_iff_ne.1 hb31
    refine sdc A zm hb31 λa A↦?_
    refine qa (hK30 _ _ (wp_cond_true (A.ev rfl) ?_))
    refine wsk fun K32 hK32 => wrl (sdm A λa A↦?_)
    refine sda A λa A↦?_
    refine qa (hK32 _ _ (wp_ret (hret _ _ (en1 A rfl (qe rfl) ?_))))
    exact ⟨by rw [qhc (by rw [List.length_map]; omega), ← hin9, ckA_step (yj is19), if_neg hb31'], M.bel⟩
   ·
    have hb31' := bne_eq_false_iff_eq.1 hb31
    refine sdc A zm hb31 λa A↦?_
    refine qa (hK30 _ _ (wp_cond_false (A.ev rfl) ?_))
    refine wp_skip (hK14 _ _ (wrl (sdo (v := .int .i64 (((i + 1 : Nat) : Int))) A (qg rfl rfl (fun w => (jk (xj (by omega) (by omega)) w).trans (by rw [show (((i : Nat) : Int) + 1 : Int) = ((i + 1 : Nat) : Int) from by omega]))) λa A↦?_)))
    refine sdm A λa A↦?_
    refine qa ?_
    replace M : Mg w w29 ([]) := by
     have h9 := M.sub (cn (.refl _))
     exact h9
    refine hK9 _ _ _ (by omega) ⟨i + 1, rfl, ⟨by omega, by rw [← hin9, ckA_step (i := i) (yj is19), if_pos hb31']⟩, A.keep _ (by repeat' constructor), M⟩
  ·
   have hb12' := of_decide_eq_false hb12
   refine sdc A zl hb12 λa A↦?_
   refine qa (hK11 _ _ (wsk fun K33 hK33 => wp_cond_false (A.ev rfl) ?_))
   refine wp_exit (hK6 _ _ (wsk fun K34 hK34 => wrl (sda A λa A↦?_)))
   refine qa (hK34 _ _ (wp_ret (hret _ _ (en1 A rfl (qe rfl) ?_))))
   exact ⟨by rw [qhc (by rw [List.length_map]; omega), ← hin9, List.drop_of_length_le (by rw [List.length_map]; omega)] <;> rfl, M.bel⟩
end Go.Proofs.YtdpakekdbkpdfaaGreatDoor.G
