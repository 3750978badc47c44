/- A number as it lies in a row of cells. Data as trees: as they lie in memory, and as they are. Steps over data: what is read of a node, and of a list of them. How much a datum holds. The order of data, told on trees: it is one, and 0 for the same trees alone. Where data lie, and rows of data. Steps over rows of any kind, and steps that tell what they keep. Rows of words and of bytes that are new. Walks of the size of data. The library's contracts, as theorems of this program. Walks of what makes a node sound. Walks of sound data. The library's contracts, as theorems of this program. Walks of copies of lists and numbers. Walks of copies of data. Lists of data as they are: linked, taken apart, found. Walks of what is found in a slice of data, and of lists that are taken apart. Sorting that keeps what is alike in its order: the merge of two rows, and what exchanges do to a row. What exchanges do to a row: one place moved, two stretches exchanged, two neighbours rotated, one put into what is in order, stretches sorted. Sorting by exchanges: one put into what is in order, two neighbours merged by places, stretches sorted. A function value that compares two data, and what ka in a row. Walks of slices.SortStableFunc and what it calls. -/
import Derived.Test.YtipikhcmieboaaaGreatDoorPlistso10c
import Derived.Test.YtipikhcmieboaaaGreatDoorPlistso10d
import Derived.Test.YtipikhcmieboaaaGreatDoorPlistso10e
import Derived.Lib.ValidU
import Derived.Lib.Bytealg
import Derived.Test.YtipikhcmieboaaaGreatDoorProg
import Derived.Shelf.Small.Utf8
import Derived.Shelf.Small.Bits
import Derived.Shelf.Small.Strs
import Derived.Shelf.Small.Wraps
import Derived.Shelf.LaysM
import Derived.Shelf.Strconv.Clone
import Derived.Ground.Names2Prog
import Derived.Shelf.Slices.SearchI
import Derived.Ground.SlgnProg
import Derived.Shelf.SlicesE.Clone
import Derived.Shelf.Unicode.ValidAny
namespace Go.Proofs.YtipikhcmieboaaaGreatDoor.G
open Go.RowKit
set_option linter.unusedVariables false
set_option linter.unusedSimpArgs false

/-- A number as it lies in a row of cells. -/
structure Nu where
  q : Q6
  o1 : Option Addr
  c1 : Nat
  o2 : Option Addr
  c2 : Nat
  o3 : Option Addr
  c3 : Nat
  o4 : Option Addr
  c4 : Nat
def Nu.nm (w : World) (y : Nu) : Prop := Nm w y.q y.o1 y.c1 y.o2 y.c2 y.o3 y.c3 y.o4 y.c4
theorem Nu.below {w w' : World} {y : Nu} (h : y.nm w) (hb : Below w.heap.size w w') : y.nm w' := ⟨h.s1.below hb, h.s2.below hb, h.s3.below hb, h.s4.below hb⟩
def Nu.val (y : Nu) : Value := qce y.q y.o1 y.c1 y.o2 y.c2 y.o3 y.c3 y.o4 y.c4
theorem vk {P : Program} {w : World} {l : List (Nat × Value)} {dst : Option Tmp} {ty : TypeId} {pos : String} {after : Array Edge} {guard : Option (Nat × Bool)} {x : Operand} {a : Addr} (hx : ev l x = some (.pointer (some a))) : Does P l ⟨dst, .nilCheck x, ty, pos, after, guard⟩ w (.pointer (some a)) w := fun ρ h => by
  simp only [execOp, h x _ hx, Sem.run_pure]
/-- A node, but for what is below it. -/
structure Nd where
  k : Int
  n : Int
  y : Nu
  s : ByteArray
  ro : Option Addr
  rc : Nat
  rl : List UInt8
  lo : Option Addr
  lc : Nat
/-- A datum as it lies in memory. -/
inductive Dt where
  | mk (d : Nd) (ts : List Dt)
def Dt.d : Dt → Nd
  | .mk d _ => d
def Dt.ts : Dt → List Dt
  | .mk _ ts => ts
def Nd.cells (d : Nd) (m : Nat) : List Value := [.int .i64 d.k, .int .i64 d.n, .bool d.y.q.b1, .slice d.y.o1 d.y.q.t1.length d.y.c1, .slice d.y.o2 d.y.q.q1.length d.y.c2, .bool d.y.q.b2, .slice d.y.o3 d.y.q.t2.length d.y.c3, .slice d.y.o4 d.y.q.q2.length d.y.c4, .string d.s, .slice d.ro d.rl.length d.rc, .slice d.lo m d.lc]
def Dt.cells (t : Dt) : List Value := t.d.cells t.ts.length
/-- A datum as it is. -/
inductive Tr where
  | mk (k n : Int) (q : Q6) (s : ByteArray) (rl : List UInt8) (ts : List Tr)
def Tr.k : Tr → Int
  | .mk k _ _ _ _ _ => k
def Tr.n : Tr → Int
  | .mk _ n _ _ _ _ => n
def Tr.q : Tr → Q6
  | .mk _ _ q _ _ _ => q
def Tr.s : Tr → ByteArray
  | .mk _ _ _ s _ _ => s
def Tr.rl : Tr → List UInt8
  | .mk _ _ _ _ r _ => r
def Tr.ts : Tr → List Tr
  | .mk _ _ _ _ _ ts => ts
mutual
def Dt.tr : Dt → Tr
  | .mk d ts => .mk d.k d.n d.y.q d.s d.rl (Dt.trs ts)
def Dt.trs : List Dt → List Tr
  | [] => []
  | t :: ts => t.tr :: Dt.trs ts
end
theorem Dt.trs_map : ∀ ts : List Dt, Dt.trs ts = ts.map Dt.tr
  | [] => by simp [Dt.trs]
  | t :: ts => by simp [Dt.trs, Dt.trs_map ts]
mutual
theorem Dt.indT {P : Dt → Prop} (h : ∀ d ts, (∀ t ∈ ts, P t) → P (.mk d ts)) : ∀ t, P t
  | .mk d ts => h d ts (Dt.indL h ts)
theorem Dt.indL {P : Dt → Prop} (h : ∀ d ts, (∀ t ∈ ts, P t) → P (.mk d ts)) : ∀ ts : List Dt, ∀ t ∈ ts, P t
  | [], t, ht => by cases ht
  | u :: us, t, ht => by
    rcases List.mem_cons.1 ht with e | e
    · rw [e]; exact Dt.indT h u
    · exact Dt.indL h us t e
end
mutual
theorem Tr.indT {P : Tr → Prop} (h : ∀ k n q s rl ts, (∀ t ∈ ts, P t) → P (.mk k n q s rl ts)) : ∀ t, P t
  | .mk k n q s rl ts => h k n q s rl ts (Tr.indL h ts)
theorem Tr.indL {P : Tr → Prop} (h : ∀ k n q s rl ts, (∀ t ∈ ts, P t) → P (.mk k n q s rl ts)) : ∀ ts : List Tr, ∀ t ∈ ts, P t
  | [], t, ht => by cases ht
  | u :: us, t, ht => by
    rcases List.mem_cons.1 ht with e | e
    · rw [e]; exact Tr.indT h u
    · exact Tr.indL h us t e
end
/-- These cells stand there. -/
def Here (w : World) (b o : Nat) (cs : List Value) : Prop := b < w.heap.size ∧ ∀ j v, cs[j]? = some v → w.cell? ⟨b, o + j, none⟩ = some v
theorem Here.below {w w' : World} {b o : Nat} {cs : List Value} (h : Here w b o cs) (hb : Below w.heap.size w w') : Here w' b o cs := ⟨Nat.lt_of_lt_of_le h.1 hb.size, fun j v hj => (hb.cell h.1).trans (h.2 j v hj)⟩
/-- A slice reads as these data, one behind the other. -/
def Rt (w : World) (lo : Option Addr) (ts : List Dt) : Prop := ts ≠ [] → ∃ b o, lo = some ⟨b, o, none⟩ ∧ ∀ i t, ts[i]? = some t → Here w b (o + i * 11) t.cells
theorem Rt.below {w w' : World} {lo : Option Addr} {ts : List Dt} (h : Rt w lo ts) (hb : Below w.heap.size w w') : Rt w' lo ts := fun hne => by
  obtain ⟨b, o, e, h2⟩ := h hne
  exact ⟨b, o, e, fun i t hi => (h2 i t hi).below hb⟩
structure NdOk (w : World) (d : Nd) : Prop where
  num : d.y.nm w
  len : LenQ d.y.q
  raw : Rb w d.ro d.rl
  rcap : d.rl.length ≤ d.rc
  rmax : d.rc ≤ 9223372036854775807
  k0 : -9223372036854775808 ≤ d.k
  k1 : d.k ≤ 9223372036854775807
  n0 : -9223372036854775808 ≤ d.n
  n1 : d.n ≤ 9223372036854775807
  smax : d.s.size ≤ 9223372036854775807
theorem NdOk.below {w w' : World} {d : Nd} (h : NdOk w d) (hb : Below w.heap.size w w') : NdOk w' d := { h with num := Nu.below h.num hb, raw := h.raw.below hb }
mutual
/-- A datum reads so. -/
def Dt.rd (w : World) : Dt → Prop
  | .mk d ts => NdOk w d ∧ ts.length ≤ d.lc ∧ d.lc ≤ 9223372036854775807 ∧ Rt w d.lo ts ∧ Dt.rds w ts
def Dt.rds (w : World) : List Dt → Prop
  | [] => True
  | t :: ts => t.rd w ∧ Dt.rds w ts
end
theorem Dt.rds_iff {w : World} : ∀ {ts : List Dt}, Dt.rds w ts ↔ ∀ t ∈ ts, t.rd w
  | [] => by simp [Dt.rds]
  | t :: ts => by simp [Dt.rds, Dt.rds_iff (ts := ts)]
theorem Dt.rd_iff {w : World} {d : Nd} {ts : List Dt} : (Dt.mk d ts).rd w ↔ NdOk w d ∧ ts.length ≤ d.lc ∧ d.lc ≤ 9223372036854775807 ∧ Rt w d.lo ts ∧ ∀ t ∈ ts, t.rd w := by
  rw [← Dt.rds_iff]; unfold Dt.rd; exact Iff.rfl
theorem Dt.keep {w w' : World} (hb : Below w.heap.size w w') : ∀ t : Dt, t.rd w → t.rd w' :=
  Dt.indT fun d ts ih h => by
    rw [Dt.rd_iff] at h ⊢
    exact ⟨h.1.below hb, h.2.1, h.2.2.1, h.2.2.2.1.below hb, fun t ht => ih t ht (h.2.2.2.2 t ht)⟩
theorem Dt.tr_mk (d : Nd) (ts : List Dt) : (Dt.mk d ts).tr = .mk d.k d.n d.y.q d.s d.rl (ts.map Dt.tr) := by rw [Dt.tr, Dt.trs_map]
/-! ### Sound data -/
mutual
/-- How many nodes are left, and whether it was within the limits. -/
def jt (dp left : Int) : Tr → Bool × Int
  | .mk k _ _ _ _ ts => if left - 1 < 0 ∨ 200 < dp then (false, left - 1) else yq dp (decide (k = 8)) 0 (left - 1) ts
def yq (dp : Int) (pr : Bool) (i : Nat) (left : Int) : List Tr → Bool × Int
  | [] => (true, left)
  | t :: ts => if (jt (if pr = true ∧ i = 1 then dp else dp + 1) left t).1 = true then yq dp pr (i + 1) (jt (if pr = true ∧ i = 1 then dp else dp + 1) left t).2 ts else (false, (jt (if pr = true ∧ i = 1 then dp else dp + 1) left t).2)
end
mutual
/-- Is each node so? -/
def xv (p : Tr → Bool) : Tr → Bool
  | .mk k n q s rl ts => p (.mk k n q s rl ts) && uy p ts
def uy (p : Tr → Bool) : List Tr → Bool
  | [] => true
  | t :: ts => xv p t && uy p ts
end
theorem qhf : ∀ t : Tr, ∀ dp left : Int, (jt dp left t).1 = true → 0 ≤ (jt dp left t).2 := by
  refine Tr.indT fun k n q s rl ts ih dp left h => ?_
  rw [jt] at h ⊢
  by_cases hc : left - 1 < 0 ∨ 200 < dp
  · rw [if_pos hc] at h; cases h
  · rw [if_neg hc] at h ⊢
    have hl : 0 ≤ left - 1 := by omega
    generalize left - 1 = m at h hl ⊢
    generalize decide (k = 8) = pr at h ⊢
    have key : ∀ (us : List Tr), (∀ t ∈ us, ∀ dp left : Int, (jt dp left t).1 = true → 0 ≤ (jt dp left t).2) → ∀ (i : Nat) (m : Int), 0 ≤ m → (yq dp pr i m us).1 = true → 0 ≤ (yq dp pr i m us).2 := by
      intro us
      induction us with
      | nil => intro _ i m hm _; exact hm
      | cons t us ih2 =>
        intro hu i m hm h
        rw [yq] at h ⊢
        by_cases ht : (jt (if pr = true ∧ i = 1 then dp else dp + 1) m t).1 = true
        · rw [if_pos ht] at h ⊢
          exact ih2 (fun x hx => hu x (List.mem_cons_of_mem _ hx)) _ _ (hu t List.mem_cons_self _ _ ht) h
        · rw [if_neg ht] at h; cases h
    exact key ts ih 0 m hl h
/-- Within the limits, and sound at each node. -/
def zd (p : Tr → Bool) (t : Tr) : Bool := (jt 1 20000 t).1 && xv p t
section
variable {P : Program} {w0 w : World} {L : List Ck} {l : List (Nat × Value)} {dst : Option Tmp} {ty : TypeId} {pos : String} {after : Array Edge} {guard : Option (Nat × Bool)} {v : Value}
theorem qbb (hM : Mg w0 w L) {b o o' j : Nat} {cs : List Value} (hH : Here w0 b o cs) {t : TypeId} (ht : Is1 P t) {x : Operand} (hx : ev l x = some (.pointer (some ⟨b, o', none⟩))) (ho : o' = o + j) (hv : cs[j]? = some v) : Does P l ⟨dst, .load t x, ty, pos, after, guard⟩ w v w := by
  subst ho
  exact jq hx (xz ht ((hM.bel.cell hH.1).trans (hH.2 j v hv)))
theorem jd (hM : Mg w0 w L) {b o n : Nat} {cs : List Value} (hH : Here w0 b o cs) {t : TypeId} (ht : IsS P t n) {x : Operand} (hx : ev l x = some (.pointer (some ⟨b, o, none⟩))) (hl : cs.length = n) : Does P l ⟨dst, .load t x, ty, pos, after, guard⟩ w (.agg cs.toArray) w :=
  jq hx (xm ht cs hl (fun j v hj => (hM.bel.cell hH.1).trans (hH.2 j v hj)))
theorem zl {t e : TypeId} {sz : Nat} (hu : P.underlying t = some (.slice e)) (he : (P.info? e).map (·.size) = some sz) {x i : Operand} {so : Option Addr} {g off n c k : Nat} {z : Int} (hx : ev l x = some (.slice so n c)) (hi : ev l i = some (.int .i64 z)) (hz : z = (k : Nat)) (hso : so = some ⟨g, off, none⟩) (hk : k < n) :
    Does P l ⟨dst, .indexAddr t x i, ty, pos, after, guard⟩ w (.pointer (some ⟨g, off + k * sz, none⟩)) w := by
  subst hz hso
  exact jy (l := l) (dst := dst) (ty := ty) (pos := pos) (after := after) (guard := guard) (w := w) hx hi (qje hu he hk)
end
/-- A child of a node. -/
theorem kid {w : World} {d : Nd} {ts : List Dt} (h : (Dt.mk d ts).rd w) {i : Nat} (hi : i < ts.length) : ∃ t b o, ts[i]? = some t ∧ t ∈ ts ∧ t.rd w ∧ d.lo = some ⟨b, o, none⟩ ∧ Here w b (o + i * 11) t.cells := by
  rw [Dt.rd_iff] at h
  have hne : ts ≠ [] := fun e => by subst e; simp at hi
  obtain ⟨b, o, e, h2⟩ := h.2.2.2.1 hne
  have ht := List.getElem?_eq_getElem hi
  exact ⟨ts[i], b, o, ht, List.getElem_mem hi, h.2.2.2.2 _ (List.getElem_mem hi), e, h2 i _ ht⟩
theorem kx {ts : List Dt} {i : Nat} {t : Dt} (h : ts[i]? = some t) : (ts.map Dt.tr).drop i = t.tr :: (ts.map Dt.tr).drop (i + 1) := by
  obtain ⟨hi, rfl⟩ := List.getElem?_eq_some_iff.1 h
  rw [List.drop_eq_getElem_cons (by simpa using hi)]
  simp
theorem qbc {ts : List Dt} {i : Nat} (h : ¬ i < ts.length) : (ts.map Dt.tr).drop i = [] := List.drop_of_length_le (by simp; omega)
theorem qxg : ∀ t : Tr, ∀ dp left : Int, (jt dp left t).2 ≤ left := by
  refine Tr.indT fun k n q s rl ts ih dp left => ?_
  rw [jt]
  split
  · show left - 1 ≤ left; omega
  · have key : ∀ (us : List Tr), (∀ t ∈ us, ∀ dp left : Int, (jt dp left t).2 ≤ left) → ∀ (i : Nat) (m : Int), (yq dp (decide (k = 8)) i m us).2 ≤ m := by
      intro us
      induction us with
      | nil => intro _ i m; exact Int.le_refl _
      | cons t us ih2 =>
        intro hu i m
        rw [yq]
        generalize (if decide (k = 8) = true ∧ i = 1 then dp else dp + 1) = D
        have h1 := hu t List.mem_cons_self D m
        split
        · exact Int.le_trans (ih2 (fun x hx => hu x (List.mem_cons_of_mem _ hx)) _ _) h1
        · exact h1
    have := key ts ih 0 (left - 1)
    omega
theorem qpc {dp m D : Int} {pr : Bool} {i : Nat} {ts : List Dt} {t : Dt} (hi : ts[i]? = some t) (hD : (if pr = true ∧ i = 1 then dp else dp + 1) = D) (h : (jt D m t.tr).1 = true) : yq dp pr i m ((ts.map Dt.tr).drop i) = yq dp pr (i + 1) (jt D m t.tr).2 ((ts.map Dt.tr).drop (i + 1)) := by
  rw [kx hi, yq, hD, if_pos h]
theorem qff {dp m D : Int} {pr : Bool} {i : Nat} {ts : List Dt} {t : Dt} (hi : ts[i]? = some t) (hD : (if pr = true ∧ i = 1 then dp else dp + 1) = D) (h : (jt D m t.tr).1 = false) : yq dp pr i m ((ts.map Dt.tr).drop i) = (false, (jt D m t.tr).2) := by
  rw [kx hi, yq, hD, if_neg (by rw [h]; decide)]
theorem qhg {dp left : Int} {d : Nd} {ts : List Dt} (h1 : ¬ left - 1 < 0) (h2 : ¬ 200 < dp) : jt dp left (Dt.mk d ts).tr = yq dp (decide (d.k = 8)) 0 (left - 1) ((ts.map Dt.tr).drop 0) := by
  rw [Dt.tr_mk, jt, if_neg (by omega), List.drop_zero]
theorem zai {dp left : Int} {d : Nd} {ts : List Dt} (h : left - 1 < 0 ∨ 200 < dp) : jt dp left (Dt.mk d ts).tr = (false, left - 1) := by
  rw [Dt.tr_mk, jt, if_pos h]
theorem qhh {p : Tr → Bool} {d : Nd} {ts : List Dt} : xv p (Dt.mk d ts).tr = (p (Dt.mk d ts).tr && uy p ((ts.map Dt.tr).drop 0)) := by
  rw [Dt.tr_mk, xv, List.drop_zero]
theorem zaj {p : Tr → Bool} {i : Nat} {ts : List Dt} {t : Dt} (hi : ts[i]? = some t) : uy p ((ts.map Dt.tr).drop i) = (xv p t.tr && uy p ((ts.map Dt.tr).drop (i + 1))) := by
  rw [kx hi, uy]
/-- A fraction without words. -/
def qfg (b : Bool) (m m' : Nat) : Bool := !b && (decide (m = 0) && decide (m' = 0))
/-- Nothing beside the kind. -/
def va (n : Int) (b1 : Bool) (m1 m2 : Nat) (b2 : Bool) (m3 m4 : Nat) (s : ByteArray) (mr ml : Nat) : Bool := decide (n = 0) && (qfg b1 m1 m2 && (qfg b2 m3 m4 && (decide (s = ⟨#[]⟩) && (decide (mr = 0) && decide (ml = 0)))))
def qmc (n : Int) : Bool := decide (0 ≤ n ∧ n ≤ 1114111 ∧ (n < 55296 ∨ 57343 < n))
/-- A text of characters. -/
def okS (s : ByteArray) : Bool := Lib.validD s.data.toList
/-- Sound by its kind. -/
def jo (k n : Int) (q : Q6) (s : ByteArray) (mr ml : Nat) : Bool :=
  if k = 1 ∨ k = 10 then va n q.b1 q.t1.length q.q1.length q.b2 q.t2.length q.q2.length s mr ml
  else if k = 2 then decide (n = 0 ∨ n = 1) && va 0 q.b1 q.t1.length q.q1.length q.b2 q.t2.length q.q2.length s mr ml
  else if k = 3 then xq q && va n false 0 0 false 0 0 s mr ml
  else if k = 4 then qmc n && va 0 q.b1 q.t1.length q.q1.length q.b2 q.t2.length q.q2.length s mr ml
  else if k = 5 ∨ k = 6 ∨ k = 11 then okS s && va n q.b1 q.t1.length q.q1.length q.b2 q.t2.length q.q2.length ⟨#[]⟩ mr ml
  else if k = 7 then va n q.b1 q.t1.length q.q1.length q.b2 q.t2.length q.q2.length s 0 ml
  else if k = 8 then decide (ml = 2) && va n q.b1 q.t1.length q.q1.length q.b2 q.t2.length q.q2.length s mr 0
  else if k = 9 then va n q.b1 q.t1.length q.q1.length q.b2 q.t2.length q.q2.length s mr 0
  else false
def qn : Tr → Bool
  | .mk k n q s rl ts => jo k n q s rl.length ts.length
theorem qbd {d : Nd} {ts : List Dt} : qn (Dt.mk d ts).tr = jo d.k d.n d.y.q d.s d.rl.length ts.length := by
  rw [Dt.tr_mk, qn, List.length_map]
mutual
/-- How much a datum holds. -/
def Tr.bulk : Tr → Nat
  | .mk _ _ q s rl ts => s.size + rl.length + (q.t1.length + q.q1.length + (q.t2.length + q.q2.length)) + 1 + Tr.bulks ts
def Tr.bulks : List Tr → Nat
  | [] => 0
  | t :: ts => t.bulk + Tr.bulks ts
end
theorem vu {k n : Int} {q : Q6} {s : ByteArray} {rl : List UInt8} {ts : List Tr} : (Tr.mk k n q s rl ts).bulk = s.size + rl.length + (q.t1.length + q.q1.length + (q.t2.length + q.q2.length)) + 1 + Tr.bulks ts := by rw [Tr.bulk]
theorem qfh : ∀ {ts : List Tr} {t : Tr}, t ∈ ts → t.bulk ≤ Tr.bulks ts
  | u :: us, t, h => by
    rw [Tr.bulks]
    rcases List.mem_cons.1 h with e | e
    · subst e; omega
    · have := qfh e; omega
theorem zie {d : Nd} {ts : List Dt} {t : Dt} (h : t ∈ ts) : t.tr.bulk + d.s.size + 1 ≤ (Dt.mk d ts).tr.bulk := by
  rw [Dt.tr_mk, vu]
  have := qfh (List.mem_map_of_mem (f := Dt.tr) h)
  omega
open Go.RowKit Go.Lib
def vi (a b : Int) : Int := if a < b then -1 else if b < a then 1 else 0
/-- The first that is not 0. -/
def lex (x y : Int) : Int := if x = 0 then y else x
def zpd (p q : Q6) : Int := lex (xw (reQ p) (reQ q)) (xw (imQ p) (imQ q))
/-- Of two nodes of one kind, but for their lists. -/
def qjh (k n m : Int) (p q : Q6) (s t : ByteArray) (rl rm : List UInt8) : Int := if k = 3 then zpd p q else if k = 5 ∨ k = 6 ∨ k = 11 then compareBytes s.data.toList t.data.toList else if k = 7 then compareBytes rl rm else vi n m
mutual
def xy : Tr → Tr → Int
  | .mk k n q s rl ts, u => lex (vi k u.k) (if k = 8 ∨ k = 9 then lex (vi (ts.length : Int) (u.ts.length : Int)) (vr ts u.ts) else qjh k n u.n q u.q s u.s rl u.rl)
def vr : List Tr → List Tr → Int
  | [], _ => 0
  | _ :: _, [] => 0
  | t :: ts, u :: us => lex (xy t u) (vr ts us)
end
/-- What goes through a third one. -/
def J3 (x y z : Int) : Prop := (x ≤ 0 → y ≤ 0 → z ≤ 0) ∧ (x < 0 → y ≤ 0 → z < 0) ∧ (x ≤ 0 → y < 0 → z < 0) ∧ (x = 0 → y = 0 → z = 0)
theorem J3.lex {x1 y1 z1 x2 y2 z2 : Int} (h : J3 x1 y1 z1) (k : x1 = 0 → y1 = 0 → J3 x2 y2 z2) : J3 (lex x1 x2) (lex y1 y2) (lex z1 z2) := by
  unfold G.lex
  obtain ⟨a, b, c, d⟩ := h
  by_cases hx : x1 = 0
  · by_cases hy : y1 = 0
    · have hz := d hx hy
      rw [if_pos hx, if_pos hy, if_pos hz]
      exact k hx hy
    · rw [if_pos hx, if_neg hy]
      by_cases hz : z1 = 0
      · have h1 : 0 < y1 := by
          apply Classical.byContradiction
          intro h
          have := c (by omega) (by omega)
          omega
        exact ⟨fun _ _ => by omega, fun _ _ => by omega, fun _ _ => by omega, fun _ _ => by omega⟩
      · rw [if_neg hz]
        exact ⟨fun _ _ => a (by omega) (by omega), fun _ _ => c (by omega) (by omega), fun _ _ => c (by omega) (by omega), fun _ _ => by omega⟩
  · rw [if_neg hx]
    by_cases hy : y1 = 0
    · rw [if_pos hy]
      by_cases hz : z1 = 0
      · have h1 : 0 < x1 := by
          apply Classical.byContradiction
          intro h
          have := b (by omega) (by omega)
          omega
        exact ⟨fun _ _ => by omega, fun _ _ => by omega, fun _ _ => by omega, fun _ _ => by omega⟩
      · rw [if_neg hz]
        exact ⟨fun _ _ => a (by omega) (by omega), fun _ _ => b (by omega) (by omega), fun _ _ => b (by omega) (by omega), fun _ _ => by omega⟩
    · rw [if_neg hy]
      by_cases hz : z1 = 0
      · rw [if_pos hz]
        exact ⟨fun _ _ => by have := b (by omega) (by omega); omega, fun _ _ => by have := b (by omega) (by omega); omega, fun _ _ => by have := b (by omega) (by omega); omega, fun _ _ => by omega⟩
      · rw [if_neg hz]; exact ⟨a, b, c, fun _ _ => by omega⟩
theorem J3_int (a b c : Int) : J3 (vi a b) (vi b c) (vi a c) := by
  unfold vi J3
  refine ⟨?_, ?_, ?_, ?_⟩ <;> repeat' split <;> omega
theorem qbg (a b : Int) : vi b a = -vi a b := by unfold vi; repeat' split <;> omega
theorem vv {a b : Int} (h : vi a b = 0) : a = b := by
  unfold vi at h
  split at h
  · exact absurd h (by decide)
  · split at h
    · exact absurd h (by decide)
    · omega
theorem qec {x y x' y' : Int} (h : x' = -x) (k : y' = -y) : lex x' y' = -lex x y := by
  unfold lex
  subst h k
  by_cases hx : x = 0
  · rw [if_pos hx, if_pos (by omega)]
  · rw [if_neg hx, if_neg (by omega)]
theorem qmj {x y : Rat} (h : xw x y = 0) : x = y := by
  unfold xw at h
  split at h
  · exact absurd h (by decide)
  · split at h
    · assumption
    · exact absurd h (by decide)
theorem qpf {x y : Rat} : xw x y ≤ 0 ↔ x ≤ y := by
  unfold xw
  by_cases h1 : x < y
  · rw [if_pos h1]; exact ⟨fun _ => Rat.le_of_lt h1, fun _ => by decide⟩
  · rw [if_neg h1]
    by_cases h2 : x = y
    · rw [if_pos h2]; exact ⟨fun _ => by rw [h2]; exact Rat.le_refl, fun _ => by decide⟩
    · rw [if_neg h2]
      refine ⟨fun h => absurd h (by decide), fun h => ?_⟩
      exact absurd (Rat.lt_of_le_of_ne h h2) h1
theorem qsh {x y : Rat} : xw x y < 0 ↔ x < y := ⟨zja, zpc⟩
theorem J3_rat (a b c : Rat) : J3 (xw a b) (xw b c) (xw a c) := by
  refine ⟨fun h k => ?_, fun h k => ?_, fun h k => ?_, fun h k => ?_⟩
  · rw [qpf] at *; exact Rat.le_trans h k
  · rw [qsh] at *; rw [qpf] at k; grind
  · rw [qsh] at *; rw [qpf] at h; grind
  · have e1 := qmj h
    have e2 := qmj k
    subst e1 e2
    exact h
theorem qna (a b : Rat) : xw b a = -xw a b := zeg b a
theorem J3_bytes : ∀ a b c : List UInt8, J3 (compareBytes a b) (compareBytes b c) (compareBytes a c)
  | [], [], [] => by simp [compareBytes, J3]
  | [], [], _ :: _ => by simp [compareBytes, J3]
  | [], _ :: _, [] => by simp [compareBytes, J3]
  | [], _ :: _, _ :: _ => by simp [compareBytes, J3]
  | _ :: _, [], [] => by simp [compareBytes, J3]
  | _ :: _, [], _ :: _ => by simp [compareBytes, J3]
  | _ :: _, _ :: _, [] => by
    simp only [compareBytes, J3]
    refine ⟨fun _ k => by omega, fun _ k => by omega, fun _ k => by omega, fun _ k => by omega⟩
  | x :: a, y :: b, z :: c => by
    have e : ∀ (x y : UInt8) (a b : List UInt8), compareBytes (x :: a) (y :: b) = lex (vi x.toNat y.toNat) (compareBytes a b) := by
      intro x y a b
      show (if x < y then (-1 : Int) else if y < x then 1 else compareBytes a b) = _
      unfold lex vi
      simp only [UInt8.lt_iff_toNat_lt]
      by_cases h1 : x.toNat < y.toNat
      · rw [if_pos h1, if_pos (by omega : (x.toNat : Int) < y.toNat)]; rfl
      · rw [if_neg h1, if_neg (by omega : ¬ (x.toNat : Int) < y.toNat)]
        by_cases h2 : y.toNat < x.toNat
        · rw [if_pos h2, if_pos (by omega : (y.toNat : Int) < x.toNat)]; rfl
        · rw [if_neg h2, if_neg (by omega : ¬ (y.toNat : Int) < x.toNat)]; rfl
    rw [e, e, e]
    exact (J3_int _ _ _).lex fun _ _ => J3_bytes a b c
theorem qcg : ∀ a b : List UInt8, compareBytes b a = -compareBytes a b
  | [], [] => rfl
  | [], _ :: _ => rfl
  | _ :: _, [] => rfl
  | x :: a, y :: b => by
    show (if y < x then (-1 : Int) else if x < y then 1 else compareBytes b a) = -(if x < y then (-1 : Int) else if y < x then 1 else compareBytes a b)
    have ih := qcg a b
    simp only [UInt8.lt_iff_toNat_lt]
    by_cases h1 : x.toNat < y.toNat
    · rw [if_pos h1, if_neg (by omega), if_pos h1]; rfl
    · by_cases h2 : y.toNat < x.toNat
      · rw [if_pos h2, if_neg h1, if_pos h2]
      · rw [if_neg h2, if_neg h1, if_neg h1, if_neg h2, ih]
theorem zeh (k n m : Int) (p q : Q6) (s t : ByteArray) (rl rm : List UInt8) : qjh k m n q p t s rm rl = -qjh k n m p q s t rl rm := by
  unfold qjh
  split
  · exact qec (qna _ _) (qna _ _)
  · split
    · exact qcg _ _
    · split
      · exact qcg _ _
      · exact qbg _ _
theorem J3_K (k n1 n2 n3 : Int) (q1 q2 q3 : Q6) (s1 s2 s3 : ByteArray) (r1 r2 r3 : List UInt8) : J3 (qjh k n1 n2 q1 q2 s1 s2 r1 r2) (qjh k n2 n3 q2 q3 s2 s3 r2 r3) (qjh k n1 n3 q1 q3 s1 s3 r1 r3) := by
  unfold qjh
  split
  · exact (J3_rat _ _ _).lex fun _ _ => J3_rat _ _ _
  · split
    · exact J3_bytes _ _ _
    · split
      · exact J3_bytes _ _ _
      · exact J3_int _ _ _
/-! ### The order of trees -/
theorem ug (k n : Int) (q : Q6) (s : ByteArray) (rl : List UInt8) (ts : List Tr) (k' n' : Int) (q' : Q6) (s' : ByteArray) (rl' : List UInt8) (ts' : List Tr) :
    xy (.mk k n q s rl ts) (.mk k' n' q' s' rl' ts') = lex (vi k k') (if k = 8 ∨ k = 9 then lex (vi (ts.length : Int) (ts'.length : Int)) (vr ts ts') else qjh k n n' q q' s s' rl rl') := by
  rw [xy]; rfl
theorem zei {ts : List Tr} (h : ∀ t ∈ ts, ∀ u, xy u t = -xy t u) : ∀ us, vr us ts = -vr ts us := by
  induction ts with
  | nil => intro us; cases us <;> simp [vr]
  | cons t ts ih =>
    intro us
    cases us with
    | nil => simp [vr]
    | cons u us =>
      rw [vr, vr]
      exact qec (h t List.mem_cons_self u) (ih (fun x hx => h x (List.mem_cons_of_mem _ hx)) us)
theorem yw : ∀ t u : Tr, xy u t = -xy t u := by
  refine Tr.indT fun k n q s rl ts ih u => ?_
  obtain ⟨k', n', q', s', rl', ts'⟩ := u
  rw [ug, ug]
  by_cases hk : k = k'
  · subst hk
    refine qec (qbg _ _) ?_
    split
    · exact qec (qbg _ _) (zei ih ts')
    · exact zeh _ _ _ _ _ _ _ _ _
  · have h1 := qbg k k'
    have h2 : vi k k' ≠ 0 := fun e => hk (vv e)
    unfold lex
    rw [if_neg h2, if_neg (by omega), h1]
theorem J3_L {ts : List Tr} (h : ∀ t ∈ ts, ∀ u v, J3 (xy t u) (xy u v) (xy t v)) : ∀ us vs : List Tr, ts.length = us.length → us.length = vs.length → J3 (vr ts us) (vr us vs) (vr ts vs) := by
  induction ts with
  | nil =>
    intro us vs h1 h2
    cases us with
    | nil => simp [vr, J3]
    | cons u us => simp at h1
  | cons t ts ih =>
    intro us vs h1 h2
    cases us with
    | nil => simp at h1
    | cons u us =>
      cases vs with
      | nil => simp at h2
      | cons v vs =>
        rw [vr, vr, vr]
        exact (h t List.mem_cons_self u v).lex fun _ _ => ih (fun x hx => h x (List.mem_cons_of_mem _ hx)) us vs (by simpa using h1) (by simpa using h2)
theorem J3_T : ∀ t u v : Tr, J3 (xy t u) (xy u v) (xy t v) := by
  refine Tr.indT fun k n q s rl ts ih u v => ?_
  obtain ⟨k1, n1, q1, s1, rl1, ts1⟩ := u
  obtain ⟨k2, n2, q2, s2, rl2, ts2⟩ := v
  rw [ug, ug, ug]
  refine (J3_int k k1 k2).lex fun h1 h2 => ?_
  have e1 := vv h1
  have e2 := vv h2
  subst e1 e2
  by_cases hk : k = 8 ∨ k = 9
  · simp only [if_pos hk]
    refine (J3_int _ _ _).lex fun h3 h4 => ?_
    have e3 := vv h3
    have e4 := vv h4
    exact J3_L ih ts1 ts2 (by omega) (by omega)
  · simp only [if_neg hk]
    exact J3_K _ _ _ _ _ _ _ _ _ _ _ _ _
/-! ### The same trees -/
def Q6.none : Q6 := ⟨false, [], [], false, [], []⟩
def zjc (q : Q6) : Prop := ∃ u v, q = Q6.rat u v ∧ xg u ∧ xg v
theorem qsi {b : Bool} {t u : List Nat} (h : qfg b t.length u.length = true) : b = false ∧ t = [] ∧ u = [] := by
  unfold qfg at h
  cases b <;> simp at h
  exact ⟨rfl, h.1, h.2⟩
theorem vl {n : Int} {q : Q6} {s : ByteArray} {mr ml : Nat} (h : va n q.b1 q.t1.length q.q1.length q.b2 q.t2.length q.q2.length s mr ml = true) : n = 0 ∧ q = Q6.none ∧ s = ⟨#[]⟩ ∧ mr = 0 ∧ ml = 0 := by
  unfold va at h
  simp only [Bool.and_eq_true, decide_eq_true_eq] at h
  obtain ⟨h1, h2, h3, h4, h5, h6⟩ := h
  obtain ⟨a1, a2, a3⟩ := qsi h2
  obtain ⟨b1, b2, b3⟩ := qsi h3
  refine ⟨h1, ?_, h4, h5, h6⟩
  cases q
  simp only at a1 a2 a3 b1 b2 b3
  subst a1 a2 a3 b1 b2 b3
  rfl
/-- What is not named by the kind is nothing. -/
structure Bare (k n : Int) (q : Q6) (s : ByteArray) (mr ml : Nat) : Prop where
  hn : k ≠ 2 → k ≠ 4 → n = 0
  hq : k ≠ 3 → q = Q6.none
  hs : k ≠ 5 → k ≠ 6 → k ≠ 11 → s = ⟨#[]⟩
  hr : k ≠ 7 → mr = 0
  hl : k ≠ 8 → k ≠ 9 → ml = 0
  h8 : k = 8 → ml = 2
  h3 : k = 3 → xq q = true
  h0 : 1 ≤ k
  h1 : k ≤ 11
  h2 : k = 2 → n = 0 ∨ n = 1
  h4 : k = 4 → qmc n = true
  h5 : k = 5 ∨ k = 6 ∨ k = 11 → okS s = true
theorem qxi {k n : Int} {q : Q6} {s : ByteArray} {mr ml : Nat} (h : jo k n q s mr ml = true) : Bare k n q s mr ml := by
  unfold jo at h
  split at h
  · rename_i hk
    obtain ⟨a, b, c, d, e⟩ := vl h
    exact ⟨fun _ _ => a, fun _ => b, fun _ _ _ => c, fun _ => d, fun _ _ => e, fun _ => by omega, fun _ => by omega, by omega, by omega, fun _ => by omega, fun _ => by omega, fun _ => by omega⟩
  · split at h
    · rename_i hk
      simp only [Bool.and_eq_true, decide_eq_true_eq] at h
      obtain ⟨a, b, c, d, e⟩ := vl h.2
      exact ⟨fun _ _ => by omega, fun _ => b, fun _ _ _ => c, fun _ => d, fun _ _ => e, fun _ => by omega, fun _ => by omega, by omega, by omega, fun _ => h.1, fun _ => by omega, fun _ => by omega⟩
    · split at h
      · rename_i hk
        simp only [Bool.and_eq_true] at h
        obtain ⟨a, b, c, d, e⟩ := vl (q := Q6.none) h.2
        exact ⟨fun _ _ => a, fun _ => by omega, fun _ _ _ => c, fun _ => d, fun _ _ => e, fun _ => by omega, fun _ => h.1, by omega, by omega, fun _ => by omega, fun _ => by omega, fun _ => by omega⟩
      · split at h
        · rename_i hk
          simp only [Bool.and_eq_true] at h
          obtain ⟨a, b, c, d, e⟩ := vl h.2
          exact ⟨fun _ _ => by omega, fun _ => b, fun _ _ _ => c, fun _ => d, fun _ _ => e, fun _ => by omega, fun _ => by omega, by omega, by omega, fun _ => by omega, fun _ => h.1, fun _ => by omega⟩
        · split at h
          · rename_i hk
            simp only [Bool.and_eq_true] at h
            obtain ⟨a, b, c, d, e⟩ := vl h.2
            exact ⟨fun _ _ => a, fun _ => b, fun _ _ _ => by omega, fun _ => d, fun _ _ => e, fun _ => by omega, fun _ => by omega, by omega, by omega, fun _ => by omega, fun _ => by omega, fun _ => h.1⟩
          · split at h
            · rename_i hk
              obtain ⟨a, b, c, d, e⟩ := vl h
              exact ⟨fun _ _ => a, fun _ => b, fun _ _ _ => c, fun _ => by omega, fun _ _ => e, fun _ => by omega, fun _ => by omega, by omega, by omega, fun _ => by omega, fun _ => by omega, fun _ => by omega⟩
            · split at h
              · rename_i hk
                simp only [Bool.and_eq_true, decide_eq_true_eq] at h
                obtain ⟨a, b, c, d, e⟩ := vl h.2
                exact ⟨fun _ _ => a, fun _ => b, fun _ _ _ => c, fun _ => d, fun _ _ => by omega, fun _ => h.1, fun _ => by omega, by omega, by omega, fun _ => by omega, fun _ => by omega, fun _ => by omega⟩
              · split at h
                · rename_i hk
                  obtain ⟨a, b, c, d, e⟩ := vl h
                  exact ⟨fun _ _ => a, fun _ => b, fun _ _ _ => c, fun _ => d, fun _ _ => by omega, fun _ => by omega, fun _ => by omega, by omega, by omega, fun _ => by omega, fun _ => by omega, fun _ => by omega⟩
                · cases h
mutual
/-- Sound at each node, and its numbers are fractions in lowest terms. -/
def Tr.good : Tr → Prop
  | .mk k n q s rl ts => Bare k n q s rl.length ts.length ∧ (k = 3 → zjc q) ∧ Tr.goods ts
def Tr.goods : List Tr → Prop
  | [] => True
  | t :: ts => t.good ∧ Tr.goods ts
end
theorem qnb : ∀ {ts : List Tr}, Tr.goods ts ↔ ∀ t ∈ ts, t.good
  | [] => by simp [Tr.goods]
  | t :: ts => by simp [Tr.goods, qnb (ts := ts)]
theorem zbd {k n : Int} {q : Q6} {s : ByteArray} {rl : List UInt8} {ts : List Tr} : (Tr.mk k n q s rl ts).good ↔ Bare k n q s rl.length ts.length ∧ (k = 3 → zjc q) ∧ ∀ t ∈ ts, t.good := by
  rw [← qnb]; unfold Tr.good; exact Iff.rfl
theorem qsj {p : Tr → Bool} : ∀ {ts : List Tr}, uy p ts = true → ∀ t ∈ ts, xv p t = true
  | [], _, t, ht => by cases ht
  | u :: us, h, t, ht => by
    rw [uy, Bool.and_eq_true] at h
    rcases List.mem_cons.1 ht with e | e
    · subst e; exact h.1
    · exact qsj h.2 t e
theorem Dt.good {w : World} : ∀ t : Dt, t.rd w → xv qn t.tr = true → t.tr.good := by
  refine Dt.indT fun d ts ih hrd ha => ?_
  rw [qhh, qbd, Bool.and_eq_true] at ha
  have hok := Dt.rd_iff.1 hrd
  rw [Dt.tr_mk, zbd]
  have hb := qxi ha.1
  refine ⟨by rw [List.length_map]; exact hb, fun hk => ?_, fun t ht => ?_⟩
  · rcases qsg hok.1.num with h | h
    · rw [hb.h3 hk] at h; cases h
    · exact h
  · obtain ⟨u, hu, rfl⟩ := List.mem_map.1 ht
    refine ih u hu (hok.2.2.2.2 u hu) ?_
    exact qsj (ts := ts.map Dt.tr) (by simpa using ha.2) _ ht
/-! ### Trees as they lie in memory -/
theorem Dt.eta (t : Dt) : Dt.mk t.d t.ts = t := by cases t; rfl
theorem Dt.tr_eta (t : Dt) : t.tr = .mk t.d.k t.d.n t.d.y.q t.d.s t.d.rl (t.ts.map Dt.tr) := by rw [← Dt.tr_mk, Dt.eta]
theorem qhd {w : World} {t : Dt} (h : t.rd w) {i : Nat} (hi : i < t.ts.length) : ∃ t1 b o, t.ts[i]? = some t1 ∧ t1 ∈ t.ts ∧ t1.rd w ∧ t.d.lo = some ⟨b, o, none⟩ ∧ Here w b (o + i * 11) (t1.d.cells t1.ts.length) := kid (d := t.d) (by rw [Dt.eta]; exact h) hi
theorem Dt.okT {w : World} {t : Dt} (h : t.rd w) : NdOk w t.d ∧ t.ts.length ≤ 9223372036854775807 := by
  rw [← Dt.eta t, Dt.rd_iff] at h
  exact ⟨h.1, Nat.le_trans h.2.1 h.2.2.1⟩
theorem vf {t : Dt} (h : t.tr.good) : Bare t.d.k t.d.n t.d.y.q t.d.s t.d.rl.length t.ts.length ∧ (t.d.k = 3 → zjc t.d.y.q) ∧ ∀ c ∈ t.ts, c.tr.good := by
  rw [Dt.tr_eta, zbd, List.length_map] at h
  exact ⟨h.1, h.2.1, fun c hc => h.2.2 _ (List.mem_map_of_mem hc)⟩
theorem qgg {t c : Dt} (h : c ∈ t.ts) : c.tr.bulk + t.d.s.size + 1 ≤ t.tr.bulk := by
  have := zie (d := t.d) h
  rwa [Dt.eta] at this
theorem zjd {α : Type} {l : List α} (h : l.length = 2) {a b : α} (h0 : l[0]? = some a) (h1 : l[1]? = some b) : l = [a, b] := by
  match l, h with
  | [x, y], _ => simp at h0 h1; rw [h0, h1]
theorem qta {p r : Dt} (h : p.d.k ≠ r.d.k) : xy p.tr r.tr = vi p.d.k r.d.k := by
  rw [Dt.tr_eta p, Dt.tr_eta r, ug]
  unfold lex
  rw [if_neg (fun e => h (vv e))]
theorem qfj (a : Int) : vi a a = 0 := by unfold vi; rw [if_neg (by omega), if_neg (by omega)]
theorem qtb {p r : Dt} (h : p.d.k = r.d.k) : xy p.tr r.tr = if p.d.k = 8 ∨ p.d.k = 9 then lex (vi (p.ts.length : Int) (r.ts.length : Int)) (vr (p.ts.map Dt.tr) (r.ts.map Dt.tr)) else qjh p.d.k p.d.n r.d.n p.d.y.q r.d.y.q p.d.s r.d.s p.d.rl r.d.rl := by
  rw [Dt.tr_eta p, Dt.tr_eta r, ug, ← h, qfj, List.length_map, List.length_map]
  rfl
theorem zje {p r p0 p1 r0 r1 : Dt} (h1 : p.d.k = 8) (h2 : r.d.k = 8) (l1 : p.ts.length = 2) (l2 : r.ts.length = 2) (a0 : p.ts[0]? = some p0) (a1 : p.ts[1]? = some p1) (b0 : r.ts[0]? = some r0) (b1 : r.ts[1]? = some r1) : xy p.tr r.tr = lex (xy p0.tr r0.tr) (xy p1.tr r1.tr) := by
  rw [qtb (by omega), if_pos (.inl h1), l1, l2, zjd l1 a0 a1, zjd l2 b0 b1]
  simp only [List.map_cons, List.map_nil, vr, qfj]
  show lex _ (lex _ 0) = _
  generalize xy p1.tr r1.tr = z
  have : lex z 0 = z := by unfold lex; split <;> omega
  rw [this]
theorem zjf (y : Int) : lex 0 y = y := rfl
theorem zjg {x y : Int} (h : x ≠ 0) : lex x y = x := if_neg h
theorem zbe {ts us : List Dt} {i : Nat} {t u : Dt} (hi : ts[i]? = some t) (hj : us[i]? = some u) : vr ((ts.map Dt.tr).drop i) ((us.map Dt.tr).drop i) = lex (xy t.tr u.tr) (vr ((ts.map Dt.tr).drop (i + 1)) ((us.map Dt.tr).drop (i + 1))) := by
  rw [kx hi, kx hj, vr]
theorem zjh {ts us : List Dt} {i : Nat} (h : ¬ i < ts.length) : vr ((ts.map Dt.tr).drop i) ((us.map Dt.tr).drop i) = 0 := by
  rw [qbc h, vr]
/-- What the program's order of two nodes of one kind that are no pairs comes to. -/
theorem kn {p r : Dt} (hp : p.tr.good) (hr : r.tr.good) (h : p.d.k = r.d.k) (h8 : p.d.k ≠ 8) : xy p.tr r.tr = if p.d.k = 2 ∨ p.d.k = 4 then vi p.d.n r.d.n else if p.d.k = 3 then zpd p.d.y.q r.d.y.q else if p.d.k = 5 ∨ p.d.k = 6 ∨ p.d.k = 11 then compareBytes p.d.s.data.toList r.d.s.data.toList else if p.d.k = 7 then compareBytes p.d.rl r.d.rl else if p.d.k = 9 then lex (vi (p.ts.length : Int) (r.ts.length : Int)) (vr (p.ts.map Dt.tr) (r.ts.map Dt.tr)) else 0 := by
  rw [qtb h]
  by_cases h9 : p.d.k = 9
  · rw [if_pos (.inr h9), if_neg (by omega), if_neg (by omega), if_neg (by omega), if_neg (by omega), if_pos h9]
  · rw [if_neg (by omega)]
    unfold qjh
    by_cases h3 : p.d.k = 3
    · rw [if_pos h3, if_neg (by omega), if_pos h3]
    · rw [if_neg h3]
      by_cases h5 : p.d.k = 5 ∨ p.d.k = 6 ∨ p.d.k = 11
      · rw [if_pos h5, if_neg (by omega), if_neg h3, if_pos h5]
      · rw [if_neg h5]
        by_cases h7 : p.d.k = 7
        · rw [if_pos h7, if_neg (by omega), if_neg h3, if_neg h5, if_pos h7]
        · rw [if_neg h7]
          by_cases h2 : p.d.k = 2 ∨ p.d.k = 4
          · rw [if_pos h2]
          · rw [if_neg h2, if_neg h3, if_neg h5, if_neg h7, if_neg h9, (vf hp).1.hn (by omega) (by omega), (vf hr).1.hn (by omega) (by omega)]
            rfl
/-! ### The law -/
/-- What Cmp answers. -/
def qtc (t u : Tr) : Int := if zd qn t = true ∧ zd qn u = true then xy t u else 0
def ur (t u : Tr) : Bool := (zd qn t && zd qn u) && decide (xy t u = 0)
theorem zbf {t u : Tr} (h1 : zd qn t = true) (h2 : zd qn u = true) : qtc t u = xy t u := if_pos ⟨h1, h2⟩
/-! ### The hash -/
theorem qia {w : World} {t : Dt} (ht : t.rd w) (h : zd qn t.tr = true) : t.tr.good := by
  unfold zd at h
  rw [Bool.and_eq_true] at h
  exact Dt.good t ht h.2
theorem zpe {a b : Bool} (h : (a && b) = false) : ¬ (a = true ∧ b = true) := by cases a <;> cases b <;> simp_all
theorem qed {a b : Bool} (h : (a && b) = true) : a = true ∧ b = true := by cases a <;> cases b <;> simp_all
/-- A slice that has something lies in a block of p. -/
def In {α : Type} (p : Nat → Prop) (so : Option Addr) (l : List α) : Prop := l ≠ [] → ∀ b o, so = some ⟨b, o, none⟩ → p b
theorem In.mono {α : Type} {p q : Nat → Prop} {so : Option Addr} {l : List α} (h : In p so l) (hp : ∀ b, p b → q b) : In q so l := fun hne b o e => hp b (h hne b o e)
structure Nd.at_ (p : Nat → Prop) (d : Nd) : Prop where
  i1 : In p d.y.o1 d.y.q.t1
  i2 : In p d.y.o2 d.y.q.q1
  i3 : In p d.y.o3 d.y.q.t2
  i4 : In p d.y.o4 d.y.q.q2
  i5 : In p d.ro d.rl
mutual
/-- All memory of a datum lies in blocks of p. -/
def Dt.at_ (p : Nat → Prop) : Dt → Prop
  | .mk d ts => d.at_ p ∧ In p d.lo ts ∧ Dt.ats p ts
def Dt.ats (p : Nat → Prop) : List Dt → Prop
  | [] => True
  | t :: ts => t.at_ p ∧ Dt.ats p ts
end
theorem Dt.ats_iff {p : Nat → Prop} : ∀ {ts : List Dt}, Dt.ats p ts ↔ ∀ t ∈ ts, t.at_ p
  | [] => by simp [Dt.ats]
  | t :: ts => by simp [Dt.ats, Dt.ats_iff (ts := ts)]
theorem Dt.at_iff {p : Nat → Prop} {d : Nd} {ts : List Dt} : (Dt.mk d ts).at_ p ↔ d.at_ p ∧ In p d.lo ts ∧ ∀ t ∈ ts, t.at_ p := by
  rw [← Dt.ats_iff]; unfold Dt.at_; exact Iff.rfl
theorem Nd.at_mono {p q : Nat → Prop} {d : Nd} (h : d.at_ p) (hp : ∀ b, p b → q b) : d.at_ q := ⟨h.i1.mono hp, h.i2.mono hp, h.i3.mono hp, h.i4.mono hp, h.i5.mono hp⟩
theorem Dt.at_mono {p q : Nat → Prop} (hp : ∀ b, p b → q b) : ∀ t : Dt, t.at_ p → t.at_ q :=
  Dt.indT fun d ts ih h => by
    rw [Dt.at_iff] at h ⊢
    exact ⟨Nd.at_mono h.1 hp, h.2.1.mono hp, fun t ht => ih t ht (h.2.2 t ht)⟩
/-- The cells of these blocks are kept. -/
def Kept (p : Nat → Prop) (w w' : World) : Prop := w.heap.size ≤ w'.heap.size ∧ ∀ b i v, p b → w.cell? ⟨b, i, none⟩ = some v → w'.cell? ⟨b, i, none⟩ = some v
theorem zpf {p : Nat → Prop} {w w' : World} {so : Option Addr} {l : List Nat} (h : Rd w so l) (hi : In p so l) (hk : Kept p w w') : Rd w' so l := by
  refine ⟨h.dig, fun hne => ?_⟩
  obtain ⟨b, off, h1, h2, h3⟩ := h.pos hne
  exact ⟨b, off, h1, Nat.lt_of_lt_of_le h2 hk.1, fun j hj => hk.2 _ _ _ (hi hne _ _ h1) (h3 j hj)⟩
theorem zbg {p : Nat → Prop} {w w' : World} {so : Option Addr} {l : List UInt8} (h : Rb w so l) (hi : In p so l) (hk : Kept p w w') : Rb w' so l := by
  refine ⟨fun hne => ?_⟩
  obtain ⟨b, off, h1, h2, h3⟩ := h.pos hne
  exact ⟨b, off, h1, Nat.lt_of_lt_of_le h2 hk.1, fun j hj => hk.2 _ _ _ (hi hne _ _ h1) (h3 j hj)⟩
theorem vz {p : Nat → Prop} {w w' : World} {so : Option Addr} {c : Nat} {l : List Nat} (h : Sc w so c l) (hi : In p so l) (hk : Kept p w w') : Sc w' so c l := ⟨zpf h.rd hi hk, h.nil, h.cap⟩
theorem NdOk.kept {p : Nat → Prop} {w w' : World} {d : Nd} (h : NdOk w d) (hi : d.at_ p) (hk : Kept p w w') : NdOk w' d := { h with num := ⟨vz h.num.s1 hi.i1 hk, vz h.num.s2 hi.i2 hk, vz h.num.s3 hi.i3 hk, vz h.num.s4 hi.i4 hk⟩, raw := zbg h.raw hi.i5 hk }
theorem Rt.kept {p : Nat → Prop} {w w' : World} {lo : Option Addr} {ts : List Dt} (h : Rt w lo ts) (hi : In p lo ts) (hk : Kept p w w') : Rt w' lo ts := fun hne => by
  obtain ⟨b, o, e, h2⟩ := h hne
  exact ⟨b, o, e, fun i t hi' => ⟨Nat.lt_of_lt_of_le (h2 i t hi').1 hk.1, fun j v hj => hk.2 _ _ _ (hi hne _ _ e) ((h2 i t hi').2 j v hj)⟩⟩
/-- Where all its memory is kept, a datum ka. -/
theorem Dt.kept {p : Nat → Prop} {w w' : World} (hk : Kept p w w') : ∀ t : Dt, t.rd w → t.at_ p → t.rd w' :=
  Dt.indT fun d ts ih h hi => by
    rw [Dt.rd_iff] at h ⊢
    rw [Dt.at_iff] at hi
    exact ⟨h.1.kept hi.1 hk, h.2.1, h.2.2.1, h.2.2.2.1.kept hi.2.1 hk, fun t ht => ih t ht (h.2.2.2.2 t ht) (hi.2.2 t ht)⟩
theorem qbh {w : World} {so : Option Addr} {l : List Nat} (h : Rd w so l) : In (· < w.heap.size) so l := fun hne b o e => by
  obtain ⟨b', off, h1, h2, _⟩ := h.pos hne
  rw [h1] at e; cases e; exact h2
theorem qxj {w : World} {so : Option Addr} {l : List UInt8} (h : Rb w so l) : In (· < w.heap.size) so l := fun hne b o e => by
  obtain ⟨b', off, h1, h2, _⟩ := h.pos hne
  rw [h1] at e; cases e; exact h2
theorem zej {w : World} {lo : Option Addr} {ts : List Dt} (h : Rt w lo ts) : In (· < w.heap.size) lo ts := fun hne b o e => by
  obtain ⟨b', o', h1, h2⟩ := h hne
  rw [h1] at e; cases e
  cases ts with
  | nil => exact absurd rfl hne
  | cons t ts => exact (h2 0 t rfl).1
/-- What is there lies in what there is. -/
theorem Dt.at_lt {w : World} : ∀ t : Dt, t.rd w → t.at_ (· < w.heap.size) :=
  Dt.indT fun d ts ih h => by
    rw [Dt.rd_iff] at h
    rw [Dt.at_iff]
    exact ⟨⟨qbh h.1.num.s1.rd, qbh h.1.num.s2.rd, qbh h.1.num.s3.rd, qbh h.1.num.s4.rd, qxj h.1.raw⟩, zej h.2.2.2.1, fun t ht => ih t ht (h.2.2.2.2 t ht)⟩
theorem Kept.trans {p : Nat → Prop} {w w' w'' : World} (h : Kept p w w') (k : Kept p w' w'') : Kept p w w'' := ⟨Nat.le_trans h.1 k.1, fun b i v hb hc => k.2 b i v hb (h.2 b i v hb hc)⟩
theorem Kept.mono {p q : Nat → Prop} {w w' : World} (h : Kept p w w') (hq : ∀ b, q b → p b) : Kept q w w' := ⟨h.1, fun b i v hb hc => h.2 b i v (hq b hb) hc⟩
theorem yx (w : World) (g o : Nat) (cs : List Value) : Kept (· ≠ g) w (w.setCells g o cs) := by
  induction cs generalizing w o with
  | nil => exact ⟨Nat.le_refl _, fun _ _ _ _ h => h⟩
  | cons c cs ih =>
    refine Kept.trans ⟨by simp, fun b i v hb hc => ?_⟩ (ih (w.setCell ⟨g, o, none⟩ c) (o + 1))
    have : (w.setCell ⟨g, o, none⟩ c).cell? ⟨b, i, none⟩ = w.cell? ⟨b, i, none⟩ := by
      unfold World.cell?
      rw [Below.heap_setCell w ⟨g, o, none⟩ c b hb]
    rw [this]; exact hc
/-! ### Rows of data -/
def cellsOf (ts : List Dt) : List Value := ts.flatMap Dt.cells
theorem vw (t : Dt) : t.cells.length = 11 := rfl
theorem ke : ∀ ts : List Dt, (cellsOf ts).length = ts.length * 11
  | [] => rfl
  | t :: ts => by
    have := ke ts
    unfold cellsOf at this ⊢
    rw [List.flatMap_cons, List.length_append, vw, this, List.length_cons]; omega
theorem ky (a b : List Dt) : cellsOf (a ++ b) = cellsOf a ++ cellsOf b := List.flatMap_append
theorem qtd (t : Dt) : cellsOf [t] = t.cells := by unfold cellsOf; rw [List.flatMap_singleton]
theorem uh : ∀ (ts : List Dt) (i : Nat), (cellsOf ts).drop (i * 11) = cellsOf (ts.drop i)
  | ts, 0 => by rw [Nat.zero_mul]; rfl
  | [], i + 1 => by simp [cellsOf]
  | t :: ts, i + 1 => by
    have := uh ts i
    rw [List.drop_succ_cons, ← this]
    unfold cellsOf
    rw [List.flatMap_cons, show (i + 1) * 11 = t.cells.length + i * 11 by rw [vw]; omega, List.drop_append, List.drop_of_length_le (by omega), Nat.add_sub_cancel_left, List.nil_append]
theorem qee : ∀ (ts : List Dt) (i : Nat), (cellsOf ts).take (i * 11) = cellsOf (ts.take i)
  | ts, 0 => by rw [Nat.zero_mul]; rfl
  | [], i + 1 => by simp [cellsOf]
  | t :: ts, i + 1 => by
    have := qee ts i
    rw [List.take_succ_cons]
    unfold cellsOf at this ⊢
    rw [List.flatMap_cons, List.flatMap_cons, show (i + 1) * 11 = t.cells.length + i * 11 by rw [vw]; omega, List.take_length_add_append, this]
theorem zh {ts : List Dt} {i : Nat} {t : Dt} (h : ts[i]? = some t) : ((cellsOf ts).drop (i * 11)).take 11 = t.cells := by
  obtain ⟨hi, rfl⟩ := List.getElem?_eq_some_iff.1 h
  rw [uh, List.drop_eq_getElem_cons hi]
  unfold cellsOf
  rw [List.flatMap_cons, show 11 = (ts[i]).cells.length from rfl, List.take_left]
theorem qef {ts : List Dt} {i j : Nat} {t : Dt} {v : Value} (h : ts[i]? = some t) (hj : t.cells[j]? = some v) : (cellsOf ts)[i * 11 + j]? = some v := by
  have hlt : j < 11 := by have := (List.getElem?_eq_some_iff.1 hj).1; rwa [vw] at this
  rw [← zh h, List.getElem?_take, if_pos hlt, List.getElem?_drop] at hj
  exact hj
theorem qte {ts : List Dt} {i : Nat} (t : Dt) (h : i < ts.length) : over (cellsOf ts) (i * 11) t.cells = cellsOf (ts.set i t) := by
  rw [zoi (by rw [ke, vw]; omega), vw, show i * 11 + 11 = (i + 1) * 11 by omega, uh, qee, List.set_eq_take_append_cons_drop, if_pos h, ky]
  rw [show t :: ts.drop (i + 1) = [t] ++ ts.drop (i + 1) from rfl, ky, qtd, List.append_assoc]
theorem qab {w : World} {B : Nat} {e : TypeId} {so : Option Addr} {n cap : Nat} {ts : List Dt} (h : w.ownsRow B e 11 (.slice so n cap) n (cellsOf ts)) : Rt w so ts ∧ n = ts.length ∧ n ≤ cap ∧ cap ≤ 9223372036854775807 := by
  have hn : n = ts.length := by have := h.1; rw [ke] at this; omega
  refine ⟨fun hne => ?_, hn, ?_⟩
  · rcases h.2 with ⟨e1, e2⟩ | ⟨g, cap', cur, e1, hg, hc, h1, h2, h3, h4⟩
    · subst e2; exact absurd (List.length_eq_zero_iff.1 hn.symm) hne
    · cases e1
      refine ⟨g, 0, rfl, fun i t hi => ⟨(Array.getElem?_eq_some_iff.1 hc).1, fun j v hj => ?_⟩⟩
      have hlt : j < 11 := by have := (List.getElem?_eq_some_iff.1 hj).1; rwa [vw] at this
      have hil := (List.getElem?_eq_some_iff.1 hi).1
      have h5 := qef hi hj
      rw [← h4, List.getElem?_take, if_pos (by omega)] at h5
      rw [show (⟨g, 0 + i * 11 + j, none⟩ : Addr) = ⟨g, i * 11 + j, none⟩ by rw [Nat.zero_add], cell_of_row w g _ cur e (0, 0) hc]
      simpa using h5
  · rcases h.2 with ⟨e1, e2⟩ | ⟨g, cap', cur, e1, hg, hc, h1, h2, h3, h4⟩
    · cases e1; exact ⟨Nat.le_refl _, by omega⟩
    · cases e1; refine ⟨h1, Nat.le_trans h2 ?_⟩; decide
section
variable {P : Program} {w0 w : World} {L : List Ck} {l : List (Nat × Value)} {dst : Option Tmp} {ty : TypeId} {pos : String} {after : Array Edge} {guard : Option (Nat × Bool)} {v : Value}
/-- A slice reads as these cells, so many elements. -/
def Rc (w : World) (so : Option Addr) (cs : List Value) : Prop := cs ≠ [] → ∃ b off, so = some ⟨b, off, none⟩ ∧ ∀ p u, cs[p]? = some u → w.cell? ⟨b, off + p, none⟩ = some u
theorem Rc.below {w w' : World} {so : Option Addr} {cs : List Value} (h : Rc w so cs) (hb : Below w.heap.size w w') : Rc w' so cs := fun hne => by
  obtain ⟨b, off, e, h2⟩ := h hne
  exact ⟨b, off, e, fun p u hp => (hb.cell (cell_lt (h2 p u hp))).trans (h2 p u hp)⟩
theorem zuc {w : World} {so : Option Addr} {ts : List Dt} (h : Rt w so ts) : Rc w so (cellsOf ts) := fun hne => by
  obtain ⟨b, o, e, h2⟩ := h (fun k => hne (by rw [k]; rfl))
  refine ⟨b, o, e, fun p u hp => ?_⟩
  have hlt : p < ts.length * 11 := by have := (List.getElem?_eq_some_iff.1 hp).1; rwa [ke] at this
  have hi : p / 11 < ts.length := by omega
  have ht := List.getElem?_eq_getElem hi
  have hp2 : p = p / 11 * 11 + p % 11 := by omega
  have h3 := (h2 (p / 11) _ ht).2 (p % 11) u (by
    have h4 := zh ht
    rw [← h4, List.getElem?_take, if_pos (by omega), List.getElem?_drop, ← hp2]; exact hp)
  rw [show o + p = o + p / 11 * 11 + p % 11 by omega]; exact h3
theorem zsh {w : World} {B : Nat} {e : TypeId} {sz n cap : Nat} {so : Option Addr} {xs : List Value} (h : w.ownsRow B e sz (.slice so n cap) n xs) : Rc w so xs := fun hne => by
  rcases h.2 with ⟨e1, e2⟩ | ⟨g, cap', cur, e1, hg, hc, h1, h2, h3, h4⟩
  · subst e2; exact absurd (List.length_eq_zero_iff.1 (by rw [h.1]; simp)) hne
  · cases e1
    exact ⟨g, 0, rfl, fun p u hp => by rw [Nat.zero_add, World.ownsRow.cellAt h p (by have := (List.getElem?_eq_some_iff.1 hp).1; rw [h.1] at this; exact this)]; exact hp⟩
theorem qpg {e t : TypeId} {sz by_ : Nat} {z : Value} {x y : Operand} (ht : P.underlying t = some (.slice e)) (hinfo : (P.info? e).map (fun i => (i.zero, i.size, i.bytes)) = some (some z, sz, by_)) (hzc : z.cells.size = sz) (hsz : Nat.ble 1 sz = true) (hby : Nat.ble by_ 1000 = true) (hM : Mg w0 w L) (k : Nat) {q : Nat} {xs : List Value} (hk : L[k]? = some (.row e sz v q xs)) (hx : ev l x = some v) {so : Option Addr} {m c2 : Nat} {news : List Value} (hy : ev l y = some (.slice so m c2)) (hnl : news.length = m * sz) (hr : Rc w so news) (h1 : ∀ u ∈ news, u.oneCell' = true) (hlen : q + m ≤ 1000000000) :
    ∃ v' w', Does P l ⟨dst, .call ⟨.builtin .append, #[x, y], #[t, t]⟩, ty, pos, after, guard⟩ w v' w' ∧ Mg w0 w' (L.set k (.row e sz v' (q + m) (xs ++ news))) := by
  obtain ⟨i, hi, hzz⟩ := Option.map_eq_some_iff.1 hinfo
  simp only [Prod.mk.injEq] at hzz
  obtain ⟨hz, hs, hb⟩ := hzz
  have hrow := hM.has k hk
  by_cases hm : m = 0
  · subst hm
    have h0 : news = [] := List.length_eq_zero_iff.1 (by rw [hnl]; simp)
    subst h0
    obtain ⟨so1, cap, hle, rfl⟩ : ∃ so1 cap, q ≤ cap ∧ v = .slice so1 q cap := by
      rcases hrow.2 with ⟨rfl, rfl⟩ | ⟨g, cap, cur, rfl, _, _, h, _⟩
      · exact ⟨none, 0, Nat.le_refl _, rfl⟩
      · exact ⟨_, cap, h, rfl⟩
    have h2 : (sizeOf e).run P w = .ok sz w := by simp [sizeOf, typeInfo, hi, hs]
    refine ⟨.slice so1 q cap, w, ?_, ?_⟩
    · intro ρ h
      cases so <;> cases so1 <;> simp [execOp, resolve, invoke, builtin, h x _ hx, h y _ hy, Builtin.append_, run_underlying ht, h2, Builtin.lenOf, Builtin.firstCells, loadCells, loadCellsFrom, storeCells, hle]
    · rw [show L.set k (.row e sz (.slice so1 q cap) (q + 0) (xs ++ [])) = L from by rw [List.append_nil]; exact qsb hk]
      exact hM
  · have hne : news ≠ [] := fun e0 => by
      rw [e0] at hnl
      have h5 := Nat.le_of_ble_eq_true hsz
      have : 0 < m * sz := Nat.mul_pos (by omega) h5
      simp at hnl; omega
    obtain ⟨b, off, rfl, hcell⟩ := hr hne
    have hbig : (q + m) * by_ ≤ 140737488355328 := Nat.le_trans (Nat.mul_le_mul hlen (Nat.le_of_ble_eq_true hby)) (by decide)
    obtain ⟨g, cap, w', hr, hown, hgr, hat, hlt⟩ := run_append_lies (P := P) w t ty w0.heap.size e i z sz by_ ht hi hz hs hb hzc (Nat.le_of_ble_eq_true hsz) v q xs hrow ⟨b, off, none⟩ m c2 news hnl (fun p u hp => by
        rw [xt]
        exact hcell p u hp) h1 (by omega) (by unfold maxLen; omega) hbig hM.bel.size w.heap.size rfl
    refine ⟨.slice (some ⟨g, 0, none⟩) (q + m) cap, w', fun ρ h => ?_, hM.turn k hk (by simp) hgr hown (fun d hd ha => ?_)⟩
    · simp [execOp, resolve, invoke, builtin, h x _ hx, h y _ hy, hr]
    · have hl := Ck.lt (hM.all d hd)
      have key : ∀ z, d.at_ = some z → v.ownBlock ≠ some z → g ≠ z := fun z hz hne e => by
        subst e
        rcases hat with h | h
        · exact hne h
        · have := (hl g hz).2; omega
      cases d with
      | obj g' o' => exact fun e => key g' rfl ha (by simpa [Value.ownBlock] using e)
      | row e' sz' v' n' xs' =>
        right
        intro e
        have e2 : v'.ownBlock = some g := e.symm
        rcases ha with ha | ha
        · exact key g e2 (by rw [ha]; simp) rfl
        · exact key g e2 (fun h => ha (h.trans e2.symm)) rfl
      | bld b' bs' => exact ⟨ha.1, fun e => key b' rfl ha.2 (by simpa [Value.ownBlock] using e)⟩
/-- A row of nothing. -/
theorem Mg.nilRow (h : Mg w0 w L) (hb : qeb L) (e : TypeId) (sz : Nat) : Mg w0 w (.row e sz (.slice none 0 0) 0 [] :: L) := by
  refine h.add (Below.refl _ _) ⟨by simp, .inl ⟨rfl, rfl⟩⟩ (fun k hk => by cases hk) (.inr (.inl ⟨_, _, _, _, _, rfl, .inr hb⟩))
theorem qya {w : World} {B : Nat} {e : TypeId} {sz n cap : Nat} {so : Option Addr} {xs : List Value} (h : w.ownsRow B e sz (.slice so n cap) n xs) {α : Type} (l : List α) : In (B ≤ ·) so l := fun _ b o e1 => by
  rcases h.2 with ⟨e2, _⟩ | ⟨g, cap', cur, e2, hg, _⟩
  · cases e2; cases e1
  · cases e2; cases e1; exact hg
theorem qnc (t : Dt) : ∀ u ∈ t.cells, u.oneCell' = true := by
  intro u hu
  unfold Dt.cells Nd.cells at hu
  simp only [List.mem_cons, List.not_mem_nil, or_false] at hu
  rcases hu with h | h | h | h | h | h | h | h | h | h | h <;> subst h <;> rfl
theorem qeg (ts : List Dt) : ∀ u ∈ cellsOf ts, u.oneCell' = true := by
  intro u hu
  unfold cellsOf at hu
  obtain ⟨t, _, ht⟩ := List.mem_flatMap.1 hu
  exact qnc t u ht
section
variable {ops : List Oper} {Q : Exit → Act → World → Prop} {a : Act} {n : Nat} {o : Oper} {rest : List Oper} {d : Nat}
/-- A new block: all that was there is kept. -/
theorem qyb (hA : Sl a n l) (hM : Mg w0 w L) (hg : zq l ops o = true) (hdst : o.dst = some d) (hd : Nat.blt d n = true) {vs : List Value} {t : TypeId} (val : Nat → Value) (he : Does P l o w (val w.heap.size) (w.alloc (.cells vs.toArray t))) (ht : t ≠ BY)
    (hk : ∀ g w', Mg w0 w' (.obj g (.cells vs.toArray t) :: L) → w.heap.size ≤ g → Below w.heap.size w w' → ∀ a', Sl a' n ((d, val g) :: l) → wpList P ops.toArray Q rest a' w') : wpList P ops.toArray Q (o :: rest) a w :=
  ki hA hg hdst hd he (hk _ _ (hM.addObj _ (yj ht)) (Nat.le_refl _) ((Below.refl _ w).alloc (Nat.le_refl _) _))
/-- A store into a block: the others are kept. -/
theorem vq (hA : Sl a n l) (hM : Mg w0 w L) (hg : zq l ops o = true) (hdst : o.dst = none) {g q : Nat} {cs vs us : List Value} {e : TypeId} (he : Sets P l o w (w.setCells g q cs)) (k : Nat) (hk0 : L[k]? = some (.obj g (.cells vs.toArray e))) (hus : over vs q cs = us) {L' : List Ck} (hL : L.set k (.obj g (.cells us.toArray e)) = L')
    (hk : ∀ w', Mg w0 w' L' → Kept (· ≠ g) w w' → wpList P ops.toArray Q rest a w') : wpList P ops.toArray Q (o :: rest) a w :=
  qdi hA hg hdst he (hk _ (by subst hus hL; exact Mg.puts cs w L vs q hM k hk0) (yx _ _ _ _))
/-- .. into a row. -/
theorem zfa (hA : Sl a n l) (hM : Mg w0 w L) (hg : zq l ops o = true) (hdst : o.dst = none) {g q m cap : Nat} {cs xs us : List Value} {e : TypeId} {sz : Nat} (he : Sets P l o w (w.setCells g q cs)) (k : Nat) (hk0 : L[k]? = some (.row e sz (.slice (some ⟨g, 0, none⟩) m cap) m xs)) (hus : over xs q cs = us) {L' : List Ck} (hL : L.set k (.row e sz (.slice (some ⟨g, 0, none⟩) m cap) m us) = L')
    (hk : ∀ w', Mg w0 w' L' → Kept (· ≠ g) w w' → wpList P ops.toArray Q rest a w') : wpList P ops.toArray Q (o :: rest) a w :=
  qdi hA hg hdst he (hk _ (by subst hus hL; exact Mg.rowPuts cs w L xs q hM k hk0) (yx _ _ _ _))
end
section
variable {ops : List Oper} {Q : Exit → Act → World → Prop} {a : Act} {n : Nat} {o : Oper} {S : World → Prop} {md : Region.Mode} {fuel : Nat} {listed : Array Bool}
theorem qtf (hA : Sl a n l) (hM : Mg w0 w L) (i : Nat) (hi : ops[i]? = some o) (hg : zq l ops o = true) (hdst : o.dst = none) {g q : Nat} {cs vs us : List Value} {e : TypeId} (he : Sets P l o w (w.setCells g q cs)) (k : Nat) (hk0 : L[k]? = some (.obj g (.cells vs.toArray e))) (hus : over vs q cs = us) {L' : List Ck} (hL : L.set k (.obj g (.cells us.toArray e)) = L')
    (hk : ∀ w', Mg w0 w' L' → Kept (· ≠ g) w w' → S w' ∧ wpAnyH P md ops.toArray Q S fuel (listed.setIfInBounds i true) a w') : wpOp P ops.toArray Q i (fun a' w' => S w' ∧ wpAnyH P md ops.toArray Q S fuel (listed.setIfInBounds i true) a' w') a w := by
  have h := hk _ (by subst hus hL; exact Mg.puts cs w L vs q hM k hk0) (yx _ _ _ _)
  exact qja hA i hi hg hdst he h.1 h.2
theorem jf (hA : Sl a n l) (hM : Mg w0 w L) (i : Nat) (hi : ops[i]? = some o) (hg : zq l ops o = true) (hdst : o.dst = none) {g q m cap : Nat} {cs xs us : List Value} {e : TypeId} {sz : Nat} (he : Sets P l o w (w.setCells g q cs)) (k : Nat) (hk0 : L[k]? = some (.row e sz (.slice (some ⟨g, 0, none⟩) m cap) m xs)) (hus : over xs q cs = us) {L' : List Ck} (hL : L.set k (.row e sz (.slice (some ⟨g, 0, none⟩) m cap) m us) = L')
    (hk : ∀ w', Mg w0 w' L' → S w' ∧ wpAnyH P md ops.toArray Q S fuel (listed.setIfInBounds i true) a w') : wpOp P ops.toArray Q i (fun a' w' => S w' ∧ wpAnyH P md ops.toArray Q S fuel (listed.setIfInBounds i true) a' w') a w := by
  have h := hk _ (by subst hus hL; exact Mg.rowPuts cs w L xs q hM k hk0)
  exact qja hA i hi hg hdst he h.1 h.2
end
end
def xh (l : List Nat) : List Value := l.map fun n => .int .u32 ((n : Nat) : Int)
theorem zbh (l : List Nat) : (xh l).length = l.length * 1 := by unfold xh; simp
theorem vj (l : List Nat) : ∀ u ∈ xh l, u.oneCell' = true := by
  intro u hu
  unfold xh at hu
  obtain ⟨n, _, rfl⟩ := List.mem_map.1 hu
  rfl
theorem zbi (l : List UInt8) : (Lib.byteCells l).length = l.length * 1 := by unfold Lib.byteCells; simp
theorem zfb (l : List UInt8) : ∀ u ∈ Lib.byteCells l, u.oneCell' = true := by
  intro u hu
  unfold Lib.byteCells at hu
  obtain ⟨n, _, rfl⟩ := List.mem_map.1 hu
  rfl
theorem zji {w : World} {so : Option Addr} {l : List UInt8} (h : Rb w so l) : Rc w so (Lib.byteCells l) := fun hne => by
  obtain ⟨b, off, h1, h2, h3⟩ := h.pos (fun k => hne (by rw [k]; rfl))
  refine ⟨b, off, h1, fun p u hp => ?_⟩
  have hlt : p < l.length := by have := (List.getElem?_eq_some_iff.1 hp).1; rw [zbi] at this; omega
  rw [h3 p hlt, ← hp]
  simp [Lib.byteCells, List.getD_eq_getElem?_getD, hlt]
theorem zjj {w : World} {so : Option Addr} {l : List Nat} (h : Rd w so l) : Rc w so (xh l) := fun hne => by
  obtain ⟨b, off, h1, h2, h3⟩ := h.pos (fun k => hne (by rw [k]; rfl))
  refine ⟨b, off, h1, fun p u hp => ?_⟩
  have hlt : p < l.length := by have := (List.getElem?_eq_some_iff.1 hp).1; rw [zbh] at this; omega
  rw [h3 p hlt, ← hp]
  simp [xh, List.getD_eq_getElem?_getD, hlt]
theorem zbj {w : World} {B : Nat} {e : TypeId} {sz n cap : Nat} {so : Option Addr} {xs : List Value} (h : w.ownsRow B e sz (.slice so n cap) n xs) : n ≤ cap := by
  rcases h.2 with ⟨e1, e2⟩ | ⟨g, cap', cur, e1, hg, hc, h1, _⟩
  · cases e1; exact Nat.le_refl _
  · cases e1; exact h1
theorem zpg {w : World} {B : Nat} {e : TypeId} {sz n cap : Nat} {so : Option Addr} {xs : List Value} (h : w.ownsRow B e sz (.slice so n cap) n xs) : cap ≤ 9223372036854775807 := by
  rcases h.2 with ⟨e1, e2⟩ | ⟨g, cap', cur, e1, hg, hc, h1, h2, _⟩
  · cases e1; decide
  · cases e1; refine Nat.le_trans h2 ?_; decide
theorem zsi {w : World} {B : Nat} {e : TypeId} {cap : Nat} {so : Option Addr} {l : List Nat} (hd : Dig l) (h : w.ownsRow B e 1 (.slice so l.length cap) l.length (xh l)) : Sc w so cap l := by
  refine ⟨⟨hd, fun hne => ?_⟩, fun e0 => ?_, zbj h⟩
  · rcases h.2 with ⟨e1, e2⟩ | ⟨g, cap', cur, e1, hg, hc, h1, _⟩
    · exact absurd (List.length_eq_zero_iff.1 e2) hne
    · cases e1
      refine ⟨g, 0, rfl, (Array.getElem?_eq_some_iff.1 hc).1, fun j hj => ?_⟩
      rw [Nat.zero_add, World.ownsRow.cellAt h j (by omega)]
      simp [xh, List.getD_eq_getElem?_getD, hj]
  · rcases h.2 with ⟨e1, e2⟩ | ⟨g, cap', cur, e1, _⟩
    · simp only [Value.slice.injEq] at e1; exact e1.2.2
    · cases e1; cases e0
theorem qeh {w : World} {B : Nat} {e : TypeId} {sz : Nat} {v : Value} {n : Nat} {xs : List Value} (h : w.ownsRow B e sz v n xs) : ∃ so cap, v = .slice so n cap := by
  rcases h.2 with ⟨rfl, rfl⟩ | ⟨g, cap, cur, rfl, _⟩
  · exact ⟨none, 0, rfl⟩
  · exact ⟨_, cap, rfl⟩
theorem qji {w : World} {B : Nat} {e : TypeId} {sz : Nat} {v : Value} {n : Nat} {xs : List Value} (h : w.ownsRow B e sz v n xs) (hn : n ≠ 0) : ∃ g cap, v = .slice (some ⟨g, 0, none⟩) n cap := by
  rcases h.2 with ⟨rfl, rfl⟩ | ⟨g, cap, cur, rfl, _⟩
  · exact absurd rfl hn
  · exact ⟨g, cap, rfl⟩
/-- New data, apart from a block. -/
def CsOk (B : Nat) (g : Nat) (w : World) (cs : List Dt) : Prop := ∀ t ∈ cs, t.rd w ∧ t.at_ (fun b => B ≤ b ∧ b ≠ g)
theorem zka {B g : Nat} {w : World} : CsOk B g w [] := fun t h => by cases h
theorem CsOk.below {B g : Nat} {w w' : World} {cs : List Dt} (h : CsOk B g w cs) (hb : Below w.heap.size w w') : CsOk B g w' cs := fun t ht => ⟨Dt.keep hb _ (h t ht).1, (h t ht).2⟩
theorem CsOk.new {B g g' : Nat} {w w' w'' : World} {cs : List Dt} (h : CsOk B g w cs) (hg : w.heap.size ≤ g') (hb : Below w.heap.size w w') (hk : Kept (· ≠ g') w' w'') : CsOk B g w'' cs := fun t ht => ⟨Dt.kept hk _ (Dt.keep hb _ (h t ht).1) (Dt.at_mono (fun b hb' => by intro e; omega) _ (Dt.at_lt _ (h t ht).1)), (h t ht).2⟩
theorem CsOk.snoc {B g : Nat} {w w' : World} {cs : List Dt} {t : Dt} (h : CsOk B g w cs) (hr : t.rd w) (ha : t.at_ (fun b => B ≤ b ∧ b ≠ g)) (hk : Kept (· ≠ g) w w') : CsOk B g w' (cs ++ [t]) := fun u hu => by
  rcases List.mem_append.1 hu with h1 | h1
  · exact ⟨Dt.kept hk _ (h u h1).1 (Dt.at_mono (fun b hb => hb.2) _ (h u h1).2), (h u h1).2⟩
  · rw [List.mem_singleton.1 h1]
    exact ⟨Dt.kept hk _ hr (Dt.at_mono (fun b hb => hb.2) _ ha), ha⟩
theorem zsj {ts cs : List Dt} {i : Nat} (hl : cs.length = i) (hi : i < ts.length) : ∃ t, ts[i]? = some t ∧ t ∈ ts ∧ (cs ++ ts.drop i)[i]? = some t := by
  have ht := List.getElem?_eq_getElem hi
  refine ⟨ts[i], ht, List.getElem_mem hi, ?_⟩
  rw [List.getElem?_append_right (by omega), List.getElem?_drop, hl, Nat.sub_self, Nat.add_zero, ht]
theorem zph {ts cs : List Dt} {i : Nat} (t : Dt) (hl : cs.length = i) (hi : i < ts.length) : (cs ++ ts.drop i).set i t = (cs ++ [t]) ++ ts.drop (i + 1) := by
  rw [List.set_append_right _ _ (by omega), hl, Nat.sub_self, List.drop_eq_getElem_cons hi, List.set_cons_zero, List.append_assoc]
  rfl
theorem zpi {ts cs : List Dt} {i : Nat} {t u : Dt} (h : cs.map Dt.tr = (ts.take i).map Dt.tr) (hi : ts[i]? = some t) (hu : u.tr = t.tr) : (cs ++ [u]).map Dt.tr = (ts.take (i + 1)).map Dt.tr := by
  obtain ⟨hl, rfl⟩ := List.getElem?_eq_some_iff.1 hi
  rw [List.map_append, h, List.take_succ_eq_append_getElem hl, List.map_append, List.map_singleton, List.map_singleton, hu]
theorem qib {ts : List Dt} {t : Dt} (h : t ∈ ts) : t.tr.bulk ≤ Tr.bulks (ts.map Dt.tr) := qfh (List.mem_map_of_mem h)
theorem vx : ∀ ts : List Dt, ts.length ≤ Tr.bulks (ts.map Dt.tr)
  | [] => Nat.le_refl _
  | t :: ts => by
    have := vx ts
    have h2 : 1 ≤ t.tr.bulk := by cases t; rw [Dt.tr_mk, vu]; omega
    rw [List.map_cons, Tr.bulks, List.length_cons]; omega
theorem qyc {d : Nd} {ts : List Dt} : (Dt.mk d ts).tr.bulk = d.s.size + d.rl.length + (d.y.q.t1.length + d.y.q.q1.length + (d.y.q.t2.length + d.y.q.q2.length)) + 1 + Tr.bulks (ts.map Dt.tr) := by rw [Dt.tr_mk, vu]
theorem jb (t : Dt) : t.cells.all Value.oneCell' = true := List.all_eq_true.2 (qnc t)
theorem ji {ts : List Dt} {i : Nat} {t : Dt} {us : List Dt} (h : i < ts.length) (he : ts.set i t = us) : over (cellsOf ts) (i * 11) (t.d.cells t.ts.length) = cellsOf us := he ▸ qte t h
set_option maxRecDepth 100000
theorem TrA_is1_22 : Is1 Tryz.prog 22 := ⟨⟨_, Tryz.underlying22, rfl⟩, by kernel_rfl⟩
theorem TrA_is1_3 : Is1 Tryz.prog 3 := ⟨⟨_, Tryz.underlying3, rfl⟩, by kernel_rfl⟩
theorem TrA_fld_30_0 : FieldAt Tryz.prog 30 0 0 := ⟨_, _, Tryz.underlying30, rfl, rfl, by kernel_rfl⟩
theorem TrA_fld_30_5 : FieldAt Tryz.prog 30 5 10 := ⟨_, _, Tryz.underlying30, rfl, rfl, by kernel_rfl⟩
/-- The walk of the size of a datum. -/
def FitsAt (t : Dt) : Prop := ∀ {w0 w : World} {b o gl : Nat} {left dp : Int} {T : List Ck}, t.rd w0 → Here w0 b o t.cells → Mg w0 w (.obj gl (.cells #[.int .i64 left] 3) :: T) → 0 ≤ left → left ≤ 20000 → 0 ≤ dp → dp ≤ 201 → Calls Tryz.prog 96 #[.pointer (some ⟨b, o, none⟩), .int .i64 dp, .pointer (some ⟨gl, 0, none⟩)] w fun e w' => e = .returned (.bool (jt dp left t.tr).1) ∧ Mg w0 w' (.obj gl (.cells #[.int .i64 (jt dp left t.tr).2] 3) :: T)
theorem qyd : ∀ t : Dt, FitsAt t := Dt.indT fun d ts ih => by
 intro w0 w b o gl left dp T hrd hH hM0 hl0 hl1 hd0 hd1
 replace hH : Here w0 b o (d.cells ts.length) := hH
 have hok := (Dt.rd_iff.1 hrd)
 have hk0 := hok.1.k0
 have hk1 := hok.1.k1
 have hlen : ts.length ≤ 9223372036854775807 := Nat.le_trans hok.2.1 hok.2.2.1
 have M : Mg w0 w (.obj gl (.cells #[.int .i64 left] 3) :: T) := hM0
 refine qm (l := [(0, .pointer (some ⟨b, o, none⟩)), (1, .int .i64 dp), (2, .pointer (some ⟨gl, 0, none⟩))]) Tryz.func96 rfl Tryz.ntmps96 rfl rfl ?_
 intro Q hret hnorm hP a A
 refine wsk fun K1 hK1 => wrl (sda A λa A↦?_)
 refine qa (hK1 _ _ (wsk fun K2 hK2 => wrl (sdm A λa A↦?_)))
 refine sdo A (vk rfl) λa A↦?_
 refine sdo A (ql M TrA_is1_3 rfl 0 rfl rfl) λa A↦?_
 refine sdo (v := .int .i64 (left - 1)) A (qf rfl rfl (zof (kd (by omega) (by omega)))) λa A↦?_
 refine sdo A (vk rfl) λa A↦?_
 refine zu (us := [.int .i64 (left - 1)]) (L' := (.obj gl (.cells #[.int .i64 (left - 1)] 3) :: T)) A M rfl rfl (ze rfl rfl rfl (by kernel_rfl) M 0 rfl rfl rfl) 0 rfl rfl rfl ?_
 intro w3 M
 refine qa (hK2 _ _ (wsk fun K4 hK4 => wsk fun K5 hK5 => wrl (sdm A λa A↦?_)))
 refine sdo A (vk rfl) λa A↦?_
 refine sdo A (ql M TrA_is1_3 rfl 0 rfl rfl) λa A↦?_
 rcases tf (decide (left - 1 < 0)) with hb6 | hb6
 ·
  have hb6' := of_decide_eq_true hb6
  refine sdc A qz hb6 λa A↦?_
  refine sdm A λa A↦?_
  iterate 2 refine qx A rfl rfl rfl λa A↦?_
  refine sdk (v := .bool true) A λa A↦?_
  refine qa (hK5 _ _ (wp_cond_true (A.ev rfl) ?_))
  refine wsk fun K7 hK7 => wrl (sda A λa A↦?_)
  refine qa (hK7 _ _ (wp_ret (hret _ _ (en1 A rfl (qh rfl) ?_))))
  rw [zai (by omega)]
  exact ⟨rfl, M⟩
 ·
  have hb6' := of_decide_eq_false hb6
  refine sdc A qz hb6 λa A↦?_
  iterate 2 refine sdm A λa A↦?_
  rcases tf (decide (200 < dp)) with hb8 | hb8
  ·
   have hb8' := of_decide_eq_true hb8
   refine sdc A js hb8 λa A↦?_
   refine sdk (v := .bool true) A λa A↦?_
   refine qa (hK5 _ _ (wp_cond_true (A.ev rfl) ?_))
   refine wsk fun K9 hK9 => wrl (sda A λa A↦?_)
   refine qa (hK9 _ _ (wp_ret (hret _ _ (en1 A rfl (qh rfl) ?_))))
   rw [zai (by omega)]
   exact ⟨rfl, M⟩
  ·
   have hb8' := of_decide_eq_false hb8
   refine sdc A js hb8 λa A↦?_
   refine sdk (v := .bool false) A λa A↦?_
   refine qa (hK5 _ _ (wp_cond_false (A.ev rfl) ?_))
   refine wp_skip (hK4 _ _ (wsk fun K10 hK10 => wsk fun K11 hK11 => wrl (sdm A λa A↦?_)))
   refine sdo A (vk rfl) λa A↦?_
   refine sdo (v := .pointer (some ⟨b, o + 10, none⟩)) A (qb TrA_fld_30_5 rfl rfl) λa A↦?_
   refine sdo A (qbb (j := 10) M hH TrA_is1_22 rfl rfl rfl) λa A↦?_
   refine sdo A (zf Tryz.underlying22 rfl) λa A↦?_
   refine sdm A λa A↦?_
   refine qa (hK11 _ _ (wp_block (zw (fun m_ a w1 => ∃ (i : Nat) (m : Int), m_ = 1 + (ts.length - i) ∧ (i ≤ ts.length ∧ yq dp (decide (d.k = 8)) 0 (left - 1) ((ts.map Dt.tr).drop 0) = yq dp (decide (d.k = 8)) i m ((ts.map Dt.tr).drop i) ∧ 0 ≤ m ∧ m ≤ 20000) ∧ Sl a 53 [(0, .pointer (some ⟨b, o, none⟩)), (1, .int .i64 dp), (2, .pointer (some ⟨gl, 0, none⟩)), (9, .pointer (some ⟨gl, 0, none⟩)), (10, .pointer (some ⟨gl, 0, none⟩)), (11, .int .i64 left), (12, .int .i64 (left - 1)), (13, .pointer (some ⟨gl, 0, none⟩)), (14, .pointer (some ⟨gl, 0, none⟩)), (15, .pointer (some ⟨gl, 0, none⟩)), (16, .int .i64 (left - 1)), (17, .bool false), (18, .bool false), (19, .int .i64 dp), (20, .bool false), (21, .bool false), (22, .pointer (some ⟨b, o, none⟩)), (23, .pointer (some ⟨b, o, none⟩)), (24, .pointer (some ⟨b, o + 10, none⟩)), (25, .slice d.lo ts.length d.lc), (26, .int .i64 (((ts.length : Nat) : Int))), (27, .int .i64 (((i : Nat) : Int)))] ∧ Mg w0 w1 (.obj gl (.cells #[.int .i64 m] 3) :: T)) _ ⟨0, left - 1, rfl, ⟨Nat.zero_le _, rfl, by omega, by omega⟩, A.keep _ (by repeat' constructor), M⟩ ?_)))
   clear M A
   rintro m_ a w12 ⟨i, m, rfl, hinv14, A, M⟩ K13 hK13
   obtain ⟨hi0, hin9, hm0, hm1⟩ := hinv14
   refine wsk fun K15 hK15 => wrl ?_
   rcases tf (decide (((i : Nat) : Int) < ((ts.length : Nat) : Int))) with hb16 | hb16
   ·
    have hb16' := of_decide_eq_true hb16
    refine sdc A qz hb16 λa A↦?_
    refine qa (hK15 _ _ (wsk fun K17 hK17 => wp_cond_true (A.ev rfl) ?_))
    refine wp_skip (hK17 _ _ (wsk fun K18 hK18 => wp_block (wsk fun K19 hK19 => wrl (sdm A λa A↦?_))))
    refine sda A λa A↦?_
    refine qa (hK19 _ _ (wsk fun K20 hK20 => wrl (sdm A λa A↦?_)))
    refine sdo (v := .int .i64 (dp + 1)) A (qf rfl rfl (xb (kd (by omega) (by omega)))) λa A↦?_
    refine sda A λa A↦?_
    refine qa (hK20 _ _ (wsk fun K21 hK21 => wsk fun K22 hK22 => wrl (sdm A λa A↦?_)))
    refine sdo A (vk rfl) λa A↦?_
    refine sdo (v := .pointer (some ⟨b, o, none⟩)) A (qb TrA_fld_30_0 rfl rfl) λa A↦?_
    refine sdo A (qbb (j := 0) M hH TrA_is1_3 rfl rfl rfl) λa A↦?_
    rcases tf ((d.k == 8)) with hb23 | hb23
    ·
     have hb23' := eq_of_beq hb23
     refine sdc A qp hb23 λa A↦?_
     iterate 2 refine sdm A λa A↦?_
     rcases tf ((((i : Nat) : Int) == 1)) with hb24 | hb24
     ·
      have hb24' := eq_of_beq hb24
      refine sdc A qp hb24 λa A↦?_
      refine sdk (v := .bool true) A λa A↦?_
      refine qa (hK22 _ _ (wp_cond_true (A.ev rfl) ?_))
      refine wrl (sdm A λa A↦?_)
      refine sda A λa A↦?_
      refine qa (hK21 _ _ (wsk fun K25 hK25 => ?_))
      obtain ⟨t1, b1, o1, hi1, hm1, hr1, hl1, hH1⟩ := kid hrd (i := i) (by omega)
      have hD : (if decide (d.k = 8) = true ∧ i = 1 then dp else dp + 1) = dp := if_pos ⟨decide_eq_true hb23', by omega⟩
      refine wrl (sdm A λa A↦?_)
      refine sdo A (vk rfl) λa A↦?_
      refine sdo (v := .pointer (some ⟨b, o + 10, none⟩)) A (qb TrA_fld_30_5 rfl rfl) λa A↦?_
      refine sdo A (qbb (j := 10) M hH TrA_is1_22 rfl rfl rfl) λa A↦?_
      refine sdm A λa A↦?_
      refine sdo (v := .pointer (some ⟨b1, o1 + i * 11, none⟩)) A (zl (k := i) Tryz.underlying22 (by kernel_rfl) rfl rfl rfl hl1 (by omega)) λa A↦?_
      iterate 2 refine sdm A λa A↦?_
      refine sct A (ef rfl rfl) (ih t1 hm1 hr1 hH1 M (by omega) (by omega) (by omega) (by omega)) ?_
      rintro _ w27 ⟨rfl, hM26⟩
      replace M : Mg w0 w27 (.obj gl (.cells #[.int .i64 ((jt (dp) m t1.tr).2)] 3) :: T) := hM26
      refine ⟨_, rfl, ?_⟩
      intro a A
      refine sdo (v := .bool (!((jt (dp) m t1.tr).1))) A (zk rfl zx) λa A↦?_
      refine qa (hK25 _ _ ?_)
      refine wp_cond_split (t := !((jt (dp) m t1.tr).1)) (A.ev rfl) (fun hc28 => ?_) (fun hc28 => ?_)
      ·
       refine wsk fun K29 hK29 => wrl (sda A λa A↦?_)
       refine qa (hK29 _ _ (wp_ret (hret _ _ (en1 A rfl (qh rfl) ?_))))
       have hr9 : (jt (dp) m t1.tr).1 = false := by simpa using hc28
       have e9 : jt dp left (Dt.mk d ts).tr = (false, (jt (dp) m t1.tr).2) := by rw [qhg (by omega) (by omega), hin9, qff hi1 hD hr9]
       rw [e9]
       exact ⟨rfl, M⟩
      ·
       refine wp_skip (hK18 _ _ (wrl (sdo (v := .int .i64 (((i + 1 : Nat) : Int))) A (qf rfl rfl (fun w => (xb (kd (by omega) (by omega)) w).trans (by rw [show (((i : Nat) : Int) + 1 : Int) = ((i + 1 : Nat) : Int) from by omega]))) λa A↦?_)))
       refine sdm A λa A↦?_
       refine qa ?_
       have hr9 : (jt (dp) m t1.tr).1 = true := by simpa using hc28
       have hp9 := qhf t1.tr _ _ hr9
       have hl9 := qxg t1.tr (dp) m
       refine hK13 _ _ _ (by omega) ⟨i + 1, (jt (dp) m t1.tr).2, rfl, ⟨by omega, by rw [hin9, qpc hi1 hD hr9], by omega, by omega⟩, A.keep _ (by repeat' constructor), M⟩
     ·
      have hb24' := ne_of_beq_false hb24
      refine sdc A qp hb24 λa A↦?_
      refine sdk (v := .bool false) A λa A↦?_
      refine qa (hK22 _ _ (wp_cond_false (A.ev rfl) ?_))
      refine wp_skip (hK21 _ _ (wsk fun K30 hK30 => ?_))
      obtain ⟨t1, b1, o1, hi1, hm1, hr1, hl1, hH1⟩ := kid hrd (i := i) (by omega)
      have hD : (if decide (d.k = 8) = true ∧ i = 1 then dp else dp + 1) = dp + 1 := if_neg (fun e => by omega)
      refine wrl (sdm A λa A↦?_)
      refine sdo A (vk rfl) λa A↦?_
      refine sdo (v := .pointer (some ⟨b, o + 10, none⟩)) A (qb TrA_fld_30_5 rfl rfl) λa A↦?_
      refine sdo A (qbb (j := 10) M hH TrA_is1_22 rfl rfl rfl) λa A↦?_
      refine sdm A λa A↦?_
      refine sdo (v := .pointer (some ⟨b1, o1 + i * 11, none⟩)) A (zl (k := i) Tryz.underlying22 (by kernel_rfl) rfl rfl rfl hl1 (by omega)) λa A↦?_
      iterate 2 refine sdm A λa A↦?_
      refine sct A (ef rfl rfl) (ih t1 hm1 hr1 hH1 M (by omega) (by omega) (by omega) (by omega)) ?_
      rintro _ w32 ⟨rfl, hM31⟩
      replace M : Mg w0 w32 (.obj gl (.cells #[.int .i64 ((jt (dp + 1) m t1.tr).2)] 3) :: T) := hM31
      refine ⟨_, rfl, ?_⟩
      intro a A
      refine sdo (v := .bool (!((jt (dp + 1) m t1.tr).1))) A (zk rfl zx) λa A↦?_
      refine qa (hK30 _ _ ?_)
      refine wp_cond_split (t := !((jt (dp + 1) m t1.tr).1)) (A.ev rfl) (fun hc33 => ?_) (fun hc33 => ?_)
      ·
       refine wsk fun K34 hK34 => wrl (sda A λa A↦?_)
       refine qa (hK34 _ _ (wp_ret (hret _ _ (en1 A rfl (qh rfl) ?_))))
       have hr9 : (jt (dp + 1) m t1.tr).1 = false := by simpa using hc33
       have e9 : jt dp left (Dt.mk d ts).tr = (false, (jt (dp + 1) m t1.tr).2) := by rw [qhg (by omega) (by omega), hin9, qff hi1 hD hr9]
       rw [e9]
       exact ⟨rfl, M⟩
      ·
       refine wp_skip (hK18 _ _ (wrl (sdo (v := .int .i64 (((i + 1 : Nat) : Int))) A (qf rfl rfl (fun w => (xb (kd (by omega) (by omega)) w).trans (by rw [show (((i : Nat) : Int) + 1 : Int) = ((i + 1 : Nat) : Int) from by omega]))) λa A↦?_)))
       refine sdm A λa A↦?_
       refine qa ?_
       have hr9 : (jt (dp + 1) m t1.tr).1 = true := by simpa using hc33
       have hp9 := qhf t1.tr _ _ hr9
       have hl9 := qxg t1.tr (dp + 1) m
       refine hK13 _ _ _ (by omega) ⟨i + 1, (jt (dp + 1) m t1.tr).2, rfl, ⟨by omega, by rw [hin9, qpc hi1 hD hr9], by omega, by omega⟩, A.keep _ (by repeat' constructor), M⟩
    ·
     have hb23' := ne_of_beq_false hb23
     refine sdc A qp hb23 λa A↦?_
     refine sdm A λa A↦?_
     iterate 2 refine qx A rfl rfl rfl λa A↦?_
     refine sdk (v := .bool false) A λa A↦?_
     refine qa (hK22 _ _ (wp_cond_false (A.ev rfl) ?_))
     refine wp_skip (hK21 _ _ (wsk fun K35 hK35 => ?_))
     obtain ⟨t1, b1, o1, hi1, hm1, hr1, hl1, hH1⟩ := kid hrd (i := i) (by omega)
     have hD : (if decide (d.k = 8) = true ∧ i = 1 then dp else dp + 1) = dp + 1 := if_neg (fun e => hb23' (of_decide_eq_true e.1))
     refine wrl (sdm A λa A↦?_)
     refine sdo A (vk rfl) λa A↦?_
     refine sdo (v := .pointer (some ⟨b, o + 10, none⟩)) A (qb TrA_fld_30_5 rfl rfl) λa A↦?_
     refine sdo A (qbb (j := 10) M hH TrA_is1_22 rfl rfl rfl) λa A↦?_
     refine sdm A λa A↦?_
     refine sdo (v := .pointer (some ⟨b1, o1 + i * 11, none⟩)) A (zl (k := i) Tryz.underlying22 (by kernel_rfl) rfl rfl rfl hl1 (by omega)) λa A↦?_
     iterate 2 refine sdm A λa A↦?_
     refine sct A (ef rfl rfl) (ih t1 hm1 hr1 hH1 M (by omega) (by omega) (by omega) (by omega)) ?_
     rintro _ w37 ⟨rfl, hM36⟩
     replace M : Mg w0 w37 (.obj gl (.cells #[.int .i64 ((jt (dp + 1) m t1.tr).2)] 3) :: T) := hM36
     refine ⟨_, rfl, ?_⟩
     intro a A
     refine sdo (v := .bool (!((jt (dp + 1) m t1.tr).1))) A (zk rfl zx) λa A↦?_
     refine qa (hK35 _ _ ?_)
     refine wp_cond_split (t := !((jt (dp + 1) m t1.tr).1)) (A.ev rfl) (fun hc38 => ?_) (fun hc38 => ?_)
     ·
      refine wsk fun K39 hK39 => wrl (sda A λa A↦?_)
      refine qa (hK39 _ _ (wp_ret (hret _ _ (en1 A rfl (qh rfl) ?_))))
      have hr9 : (jt (dp + 1) m t1.tr).1 = false := by simpa using hc38
      have e9 : jt dp left (Dt.mk d ts).tr = (false, (jt (dp + 1) m t1.tr).2) := by rw [qhg (by omega) (by omega), hin9, qff hi1 hD hr9]
      rw [e9]
      exact ⟨rfl, M⟩
     ·
      refine wp_skip (hK18 _ _ (wrl (sdo (v := .int .i64 (((i + 1 : Nat) : Int))) A (qf rfl rfl (fun w => (xb (kd (by omega) (by omega)) w).trans (by rw [show (((i : Nat) : Int) + 1 : Int) = ((i + 1 : Nat) : Int) from by omega]))) λa A↦?_)))
      refine sdm A λa A↦?_
      refine qa ?_
      have hr9 : (jt (dp + 1) m t1.tr).1 = true := by simpa using hc38
      have hp9 := qhf t1.tr _ _ hr9
      have hl9 := qxg t1.tr (dp + 1) m
      refine hK13 _ _ _ (by omega) ⟨i + 1, (jt (dp + 1) m t1.tr).2, rfl, ⟨by omega, by rw [hin9, qpc hi1 hD hr9], by omega, by omega⟩, A.keep _ (by repeat' constructor), M⟩
   ·
    have hb16' := of_decide_eq_false hb16
    refine sdc A qz hb16 λa A↦?_
    refine qa (hK15 _ _ (wsk fun K40 hK40 => wp_cond_false (A.ev rfl) ?_))
    refine wp_exit (hK10 _ _ (wsk fun K41 hK41 => wrl (sda A λa A↦?_)))
    refine qa (hK41 _ _ (wp_ret (hret _ _ (en1 A rfl (qh rfl) ?_))))
    have e9 : jt dp left (Dt.mk d ts).tr = (true, m) := by rw [qhg (by omega) (by omega), hin9, qbc (by omega), yq]
    rw [e9]
    exact ⟨rfl, M⟩
end Go.Proofs.YtipikhcmieboaaaGreatDoor.G
namespace Go.Proofs
open Go.Shelf
def Tryz.lays119_ren : Go.Shelf.Ren := ⟨fun | 119 => 128 | n => n, fun | 21 => 21 | 4 => 4 | n => n, fun | n => n⟩
theorem Tryz.lays119 : Go.Proofs.Lays.n119 Tryz.prog Tryz.lays119_ren := {
  mixed := by kernel_rfl
  f119 := Tryz.func128.trans (congrArg some (by kernel_rfl))
  t4 := Tryz.underlying4
  a4 := Tryz.isAgg4
  z4 := Tryz.sizeOf4
  v4 := Tryz.zeroValue4
  t21 := Tryz.underlying21
  a21 := Tryz.isAgg21
  z21 := Tryz.sizeOf21
  v21 := Tryz.zeroValue21 }
theorem Tryz.utf8_ValidRune (r : Int) (w : World) :
    Calls Tryz.prog 128 #[.int .i32 r] w fun e w' => e = .returned (.bool (Lib.validRune r)) ∧ w' = w := Any.utf8_ValidRune Tryz.lays119 r w
def Tryz.laysValid_ren : Go.Shelf.Ren := ⟨fun | 196 => 113 | 259 => 129 | n => n, fun | 9 => 9 | 4 => 4 | 3 => 3 | 5 => 5 | 12 => 12 | 119 => 129 | 0 => 0 | 46 => 113 | 139 => 132 | 138 => 131 | 53 => 70 | n => n, fun | 3 => 1 | 4 => 2 | n => n⟩
theorem Tryz.laysValid : Go.Proofs.Lays.n196 Tryz.prog Tryz.laysValid_ren := {
  mixed := by kernel_rfl
  f196 := Tryz.func113.trans (congrArg some (by kernel_rfl))
  f259 := Tryz.func129.trans (congrArg some (by kernel_rfl))
  t0 := Tryz.underlying0
  a0 := Tryz.isAgg0
  z0 := Tryz.sizeOf0
  v0 := Tryz.zeroValue0
  t3 := Tryz.underlying3
  a3 := Tryz.isAgg3
  z3 := Tryz.sizeOf3
  v3 := Tryz.zeroValue3
  t4 := Tryz.underlying4
  a4 := Tryz.isAgg4
  z4 := Tryz.sizeOf4
  v4 := Tryz.zeroValue4
  t5 := Tryz.underlying5
  a5 := Tryz.isAgg5
  z5 := Tryz.sizeOf5
  v5 := Tryz.zeroValue5
  t9 := Tryz.underlying9
  a9 := Tryz.isAgg9
  z9 := Tryz.sizeOf9
  v9 := Tryz.zeroValue9
  t12 := Tryz.underlying12
  a12 := Tryz.isAgg12
  z12 := Tryz.sizeOf12
  v12 := Tryz.zeroValue12
  t46 := Tryz.underlying113
  a46 := Tryz.isAgg113
  z46 := Tryz.sizeOf113
  v46 := Tryz.zeroValue113
  t53 := Tryz.underlying70
  a53 := Tryz.isAgg70
  z53 := Tryz.sizeOf70
  v53 := Tryz.zeroValue70
  t119 := Tryz.underlying129
  a119 := Tryz.isAgg129
  z119 := Tryz.sizeOf129
  t138 := Tryz.underlying131
  a138 := Tryz.isAgg131
  z138 := Tryz.sizeOf131
  v138 := Tryz.zeroValue131
  t139 := Tryz.underlying132
  a139 := Tryz.isAgg132
  z139 := Tryz.sizeOf132
  v139 := Tryz.zeroValue132
  g3 := by kernel_rfl
  g4 := by kernel_rfl }
end Go.Proofs
namespace Go.Proofs.YtipikhcmieboaaaGreatDoor.G
open Go.RowKit
set_option linter.unusedVariables false
set_option linter.unusedSimpArgs false
set_option maxRecDepth 100000
theorem TrB_is1_22 : Is1 Tryz.prog 22 := ⟨⟨_, Tryz.underlying22, rfl⟩, by kernel_rfl⟩
theorem TrB_is1_23 : Is1 Tryz.prog 23 := ⟨⟨_, Tryz.underlying23, rfl⟩, by kernel_rfl⟩
theorem TrB_is1_28 : Is1 Tryz.prog 28 := ⟨⟨_, Tryz.underlying28, rfl⟩, by kernel_rfl⟩
theorem TrB_is1_3 : Is1 Tryz.prog 3 := ⟨⟨_, Tryz.underlying3, rfl⟩, by kernel_rfl⟩
theorem TrB_is1_4 : Is1 Tryz.prog 4 := ⟨⟨_, Tryz.underlying4, rfl⟩, by kernel_rfl⟩
theorem TrB_is1_9 : Is1 Tryz.prog 9 := ⟨⟨_, Tryz.underlying9, rfl⟩, by kernel_rfl⟩
theorem TrB_fld_25_0 : FieldAt Tryz.prog 25 0 0 := ⟨_, _, Tryz.underlying25, rfl, rfl, by kernel_rfl⟩
theorem TrB_fld_25_1 : FieldAt Tryz.prog 25 1 1 := ⟨_, _, Tryz.underlying25, rfl, rfl, by kernel_rfl⟩
theorem TrB_fld_25_2 : FieldAt Tryz.prog 25 2 2 := ⟨_, _, Tryz.underlying25, rfl, rfl, by kernel_rfl⟩
theorem TrB_fld_27_0 : FieldAt Tryz.prog 27 0 0 := ⟨_, _, Tryz.underlying27, rfl, rfl, by kernel_rfl⟩
theorem TrB_fld_27_1 : FieldAt Tryz.prog 27 1 3 := ⟨_, _, Tryz.underlying27, rfl, rfl, by kernel_rfl⟩
theorem TrB_fld_30_0 : FieldAt Tryz.prog 30 0 0 := ⟨_, _, Tryz.underlying30, rfl, rfl, by kernel_rfl⟩
theorem TrB_fld_30_1 : FieldAt Tryz.prog 30 1 1 := ⟨_, _, Tryz.underlying30, rfl, rfl, by kernel_rfl⟩
theorem TrB_fld_30_2 : FieldAt Tryz.prog 30 2 2 := ⟨_, _, Tryz.underlying30, rfl, rfl, by kernel_rfl⟩
theorem TrB_fld_30_3 : FieldAt Tryz.prog 30 3 8 := ⟨_, _, Tryz.underlying30, rfl, rfl, by kernel_rfl⟩
theorem TrB_fld_30_4 : FieldAt Tryz.prog 30 4 9 := ⟨_, _, Tryz.underlying30, rfl, rfl, by kernel_rfl⟩
theorem TrB_fld_30_5 : FieldAt Tryz.prog 30 5 10 := ⟨_, _, Tryz.underlying30, rfl, rfl, by kernel_rfl⟩
theorem TrB_isS_25 : IsS Tryz.prog 25 3 := ⟨⟨_, Tryz.underlying25⟩, by kernel_rfl⟩
theorem TrB_isS_27 : IsS Tryz.prog 27 6 := ⟨⟨_, Tryz.underlying27⟩, by kernel_rfl⟩
theorem TrB_isS_30 : IsS Tryz.prog 30 11 := ⟨⟨_, Tryz.underlying30⟩, by kernel_rfl⟩
/-- The library's tables of characters are there. -/
def Tabs8 (w : World) : Prop := Lib.Utf8Tabs (Tryz.laysValid_ren.g 3) (Tryz.laysValid_ren.g 4) w
theorem Tabs8.below {w w' : World} (h : Tabs8 w) (hb : Below w.heap.size w w') : Tabs8 w' := Utf8Tabs_below h hb
theorem ku {w : World} {s : ByteArray} (hs : s.size ≤ 9223372036854775807) (hT : Tabs8 w) {b : Bool} (h : okS s = b) : Calls Tryz.prog 113 #[.string s] w fun e w' => e = .returned (.bool b) ∧ Below w.heap.size w w' := h ▸ Any.utf8_ValidString Tryz.laysValid s w hs hT
theorem zfc {w : World} {r : Int} : Calls Tryz.prog 128 #[.int .i32 r] w fun e w' => e = .returned (.bool (Lib.validRune r)) ∧ Below w.heap.size w w' := (Tryz.utf8_ValidRune r w).mono fun e w' ⟨h, e2⟩ => ⟨h, e2 ▸ Below.refl _ _⟩
theorem qph {P : Program} {s d : TypeId} (hs : P.underlying s = some (.int .i64)) (hd : P.underlying d = some (.int .i32)) {n : Int} (h0 : 0 ≤ n) (h1 : n ≤ 1114111) : ∀ w, (convert s d (.int .i64 n)).run P w = .ok (.int .i32 n) w := fun w => by
 simp [go_sem, run_underlying hs, run_underlying hd, convert]
 exact in_i32 (by omega) (by omega)
theorem qtg {w : World} {n : Int} : Calls Tryz.prog 112 #[.int .i64 n] w fun e w' => e = .returned (.bool (qmc n)) ∧ Below w.heap.size w w' := by
 have M : Mg w w ([]) := Mg.start w
 refine qm (l := [(0, .int .i64 n)]) Tryz.func112 rfl Tryz.ntmps112 rfl rfl ?_
 intro Q hret hnorm hP a A
 refine wsk fun K1 hK1 => wrl (sda A λa A↦?_)
 refine qa (hK1 _ _ (wsk fun K2 hK2 => wrl (sdm A λa A↦?_)))
 rcases tf (decide (0 ≤ n)) with hb3 | hb3
 ·
  have hb3' := of_decide_eq_true hb3
  refine sdc A yh hb3 λa A↦?_
  iterate 2 refine sdm A λa A↦?_
  rcases tf (decide (n ≤ 1114111)) with hb4 | hb4
  ·
   have hb4' := of_decide_eq_true hb4
   refine sdc A ue hb4 λa A↦?_
   refine sdk (v := .bool true) A λa A↦?_
   iterate 2 refine sdm A λa A↦?_
   refine sdo (v := .int .i32 n) A (jm rfl (qph Tryz.underlying3 Tryz.underlying21 (by omega) (by omega))) λa A↦?_
   refine gcl A M (ef rfl rfl) (zfc) fun w5 hbv M a A => ?_
   refine sdo (v := .bool (Lib.validRune n)) A (xn rfl rfl rfl rfl) λa A↦?_
   refine sda A λa A↦?_
   refine qa (hK2 _ _ (wp_ret (hret _ _ (en1 A rfl (qh rfl) ?_))))
   exact ⟨by rw [show qmc n = Lib.validRune n from by unfold qmc; unfold Lib.validRune; exact decide_eq_decide.2 (by omega)], M.bel⟩
  ·
   have hb4' := of_decide_eq_false hb4
   refine sdc A ue hb4 λa A↦?_
   refine sdk (v := .bool false) A λa A↦?_
   refine sdm A λa A↦?_
   iterate 3 refine qx A rfl rfl rfl λa A↦?_
   refine sdk (v := .bool false) A λa A↦?_
   refine sda A λa A↦?_
   refine qa (hK2 _ _ (wp_ret (hret _ _ (en1 A rfl (qh rfl) ?_))))
   exact ⟨by rw [show qmc n = false from by unfold qmc; apply decide_eq_false; omega], M.bel⟩
 ·
  have hb3' := of_decide_eq_false hb3
  refine sdc A yh hb3 λa A↦?_
  refine sdm A λa A↦?_
  iterate 2 refine qx A rfl rfl rfl λa A↦?_
  refine sdk (v := .bool false) A λa A↦?_
  refine sdm A λa A↦?_
  iterate 3 refine qx A rfl rfl rfl λa A↦?_
  refine sdk (v := .bool false) A λa A↦?_
  refine sda A λa A↦?_
  refine qa (hK2 _ _ (wp_ret (hret _ _ (en1 A rfl (qh rfl) ?_))))
  exact ⟨by rw [show qmc n = false from by unfold qmc; apply decide_eq_false; omega], M.bel⟩
theorem ko {w : World} {b : Bool} {o1 o2 : Option Addr} {m1 m2 c1 c2 : Nat} (h1 : m1 ≤ 9223372036854775807) (h2 : m2 ≤ 9223372036854775807) {r : Bool} (hr : qfg b m1 m2 = r) : Calls Tryz.prog 130 #[.agg #[.bool b, .slice o1 m1 c1, .slice o2 m2 c2]] w fun e w' => e = .returned (.bool r) ∧ Below w.heap.size w w' := by
 have M : Mg w w ([]) := Mg.start w
 refine qm (l := [(0, .agg #[.bool b, .slice o1 m1 c1, .slice o2 m2 c2])]) Tryz.func130 rfl Tryz.ntmps130 rfl rfl ?_
 intro Q hret hnorm hP a A
 refine wsk fun K1 hK1 => wrl (ja (vs := [.bool b, .slice o1 m1 c1, .slice o2 m2 c2]) (t := 25) A M rfl rfl rfl pg (qs rfl rfl) (by decide) ?_)
 intro g2 w3 M a A
 refine sda A λa A↦?_
 refine qa (hK1 _ _ (wsk fun K4 hK4 => wrl (sdo (v := .pointer (some ⟨g2, 0, none⟩)) A (qb TrB_fld_25_0 rfl rfl) λa A↦?_)))
 refine sdo A (ql M TrB_is1_4 rfl 0 rfl rfl) λa A↦?_
 rcases b with _ | _
 ·
  refine sdo (v := .bool true) A (zk rfl zx) λa A↦?_
  refine sdm A λa A↦?_
  refine sdo (v := .pointer (some ⟨g2, 1, none⟩)) A (qb TrB_fld_25_1 rfl rfl) λa A↦?_
  refine sdo A (ql M TrB_is1_23 rfl 0 rfl rfl) λa A↦?_
  refine sdo A (zf Tryz.underlying23 rfl) λa A↦?_
  rcases tf ((((m1 : Nat) : Int) == 0)) with hb5 | hb5
  ·
   have hb5' := eq_of_beq hb5
   refine sdc A qp hb5 λa A↦?_
   refine sdk (v := .bool true) A λa A↦?_
   refine sdm A λa A↦?_
   refine sdo (v := .pointer (some ⟨g2, 2, none⟩)) A (qb TrB_fld_25_2 rfl rfl) λa A↦?_
   refine sdo A (ql M TrB_is1_23 rfl 0 rfl rfl) λa A↦?_
   refine sdo A (zf Tryz.underlying23 rfl) λa A↦?_
   rcases tf ((((m2 : Nat) : Int) == 0)) with hb6 | hb6
   ·
    have hb6' := eq_of_beq hb6
    refine sdc A qp hb6 λa A↦?_
    refine sdk (v := .bool true) A λa A↦?_
    refine sda A λa A↦?_
    refine qa (hK4 _ _ (wp_ret (hret _ _ (en1 A rfl (qh rfl) ?_))))
    subst hr
    exact ⟨by unfold qfg; simp_all; try omega, M.bel⟩
   ·
    have hb6' := ne_of_beq_false hb6
    refine sdc A qp hb6 λa A↦?_
    refine sdk (v := .bool false) A λa A↦?_
    refine sda A λa A↦?_
    refine qa (hK4 _ _ (wp_ret (hret _ _ (en1 A rfl (qh rfl) ?_))))
    subst hr
    exact ⟨by unfold qfg; simp_all; try omega, M.bel⟩
  ·
   have hb5' := ne_of_beq_false hb5
   refine sdc A qp hb5 λa A↦?_
   refine sdk (v := .bool false) A λa A↦?_
   refine sdm A λa A↦?_
   iterate 4 refine qx A rfl rfl rfl λa A↦?_
   refine sdk (v := .bool false) A λa A↦?_
   refine sda A λa A↦?_
   refine qa (hK4 _ _ (wp_ret (hret _ _ (en1 A rfl (qh rfl) ?_))))
   subst hr
   exact ⟨by unfold qfg; simp_all; try omega, M.bel⟩
 ·
  refine sdo (v := .bool false) A (zk rfl zx) λa A↦?_
  refine sdm A λa A↦?_
  iterate 4 refine qx A rfl rfl rfl λa A↦?_
  refine sdk (v := .bool false) A λa A↦?_
  refine sdm A λa A↦?_
  iterate 4 refine qx A rfl rfl rfl λa A↦?_
  refine sdk (v := .bool false) A λa A↦?_
  refine sda A λa A↦?_
  refine qa (hK4 _ _ (wp_ret (hret _ _ (en1 A rfl (qh rfl) ?_))))
  subst hr
  exact ⟨by unfold qfg; simp_all; try omega, M.bel⟩
theorem zkb {w : World} {k n : Int} {b1 b2 : Bool} {o1 o2 o3 o4 ro lo : Option Addr} {m1 m2 m3 m4 mr ml c1 c2 c3 c4 rc lc : Nat} {s : ByteArray} (h1 : m1 ≤ 9223372036854775807) (h2 : m2 ≤ 9223372036854775807) (h3 : m3 ≤ 9223372036854775807) (h4 : m4 ≤ 9223372036854775807) {r : Bool} (hr : va n b1 m1 m2 b2 m3 m4 s mr ml = r) : Calls Tryz.prog 114 #[.agg #[.int .i64 k, .int .i64 n, .bool b1, .slice o1 m1 c1, .slice o2 m2 c2, .bool b2, .slice o3 m3 c3, .slice o4 m4 c4, .string s, .slice ro mr rc, .slice lo ml lc]] w fun e w' => e = .returned (.bool r) ∧ Below w.heap.size w w' := by
 have M : Mg w w ([]) := Mg.start w
 refine qm (l := [(0, .agg #[.int .i64 k, .int .i64 n, .bool b1, .slice o1 m1 c1, .slice o2 m2 c2, .bool b2, .slice o3 m3 c3, .slice o4 m4 c4, .string s, .slice ro mr rc, .slice lo ml lc])]) Tryz.func114 rfl Tryz.ntmps114 rfl rfl ?_
 intro Q hret hnorm hP a A
 refine wsk fun K1 hK1 => wrl (ja (vs := [.int .i64 k, .int .i64 n, .bool b1, .slice o1 m1 c1, .slice o2 m2 c2, .bool b2, .slice o3 m3 c3, .slice o4 m4 c4, .string s, .slice ro mr rc, .slice lo ml lc]) (t := 30) A M rfl rfl rfl pg (qs rfl rfl) (by decide) ?_)
 intro g2 w3 M a A
 refine sda A λa A↦?_
 refine qa (hK1 _ _ (wsk fun K4 hK4 => wrl (sdo (v := .pointer (some ⟨g2, 1, none⟩)) A (qb TrB_fld_30_1 rfl rfl) λa A↦?_)))
 refine sdo A (ql M TrB_is1_3 rfl 0 rfl rfl) λa A↦?_
 rcases tf ((n == 0)) with hb5 | hb5
 ·
  have hb5' := eq_of_beq hb5
  refine sdc A qp hb5 λa A↦?_
  refine sdm A λa A↦?_
  refine sdo (v := .pointer (some ⟨g2, 2, none⟩)) A (qb TrB_fld_30_2 rfl rfl) λa A↦?_
  refine sdo (v := .pointer (some ⟨g2, 2, none⟩)) A (qb TrB_fld_27_0 rfl rfl) λa A↦?_
  refine sdo A (zg M TrB_isS_25 rfl 0 rfl (cs := [.bool b1, .slice o1 m1 c1, .slice o2 m2 c2]) rfl rfl) λa A↦?_
  rcases tf (qfg b1 m1 m2) with hb6 | hb6
  ·
   refine gcl A M (ef rfl rfl) (ko h1 h2 hb6) fun w8 hb7 M a A => ?_
   refine sdk (v := .bool true) A λa A↦?_
   refine sdm A λa A↦?_
   refine sdo (v := .pointer (some ⟨g2, 2, none⟩)) A (qb TrB_fld_30_2 rfl rfl) λa A↦?_
   refine sdo (v := .pointer (some ⟨g2, 5, none⟩)) A (qb TrB_fld_27_1 rfl rfl) λa A↦?_
   refine sdo A (zg M TrB_isS_25 rfl 0 rfl (cs := [.bool b2, .slice o3 m3 c3, .slice o4 m4 c4]) rfl rfl) λa A↦?_
   rcases tf (qfg b2 m3 m4) with hb9 | hb9
   ·
    refine gcl A M (ef rfl rfl) (ko h3 h4 hb9) fun w11 hb10 M a A => ?_
    refine sdk (v := .bool true) A λa A↦?_
    refine sdm A λa A↦?_
    refine sdo (v := .pointer (some ⟨g2, 8, none⟩)) A (qb TrB_fld_30_3 rfl rfl) λa A↦?_
    refine sdo A (ql M TrB_is1_9 rfl 0 rfl rfl) λa A↦?_
    rcases tf (decide (s = ⟨#[]⟩)) with hb12 | hb12
    ·
     have hb12' := of_decide_eq_true hb12
     refine sdo (v := .bool true) A (qf rfl rfl (fun w => (qsd Tryz.underlying9 w).trans (by rw [hb12] <;> rfl))) λa A↦?_
     refine sdk (v := .bool true) A λa A↦?_
     refine sdm A λa A↦?_
     refine sdo (v := .pointer (some ⟨g2, 9, none⟩)) A (qb TrB_fld_30_4 rfl rfl) λa A↦?_
     refine sdo A (ql M TrB_is1_28 rfl 0 rfl rfl) λa A↦?_
     refine sdo A (zf Tryz.underlying28 rfl) λa A↦?_
     rcases tf ((((mr : Nat) : Int) == 0)) with hb13 | hb13
     ·
      have hb13' := eq_of_beq hb13
      refine sdc A qp hb13 λa A↦?_
      refine sdk (v := .bool true) A λa A↦?_
      refine sdm A λa A↦?_
      refine sdo (v := .pointer (some ⟨g2, 10, none⟩)) A (qb TrB_fld_30_5 rfl rfl) λa A↦?_
      refine sdo A (ql M TrB_is1_22 rfl 0 rfl rfl) λa A↦?_
      refine sdo A (zf Tryz.underlying22 rfl) λa A↦?_
      rcases tf ((((ml : Nat) : Int) == 0)) with hb14 | hb14
      ·
       have hb14' := eq_of_beq hb14
       refine sdc A qp hb14 λa A↦?_
       refine sdk (v := .bool true) A λa A↦?_
       refine sda A λa A↦?_
       refine qa (hK4 _ _ (wp_ret (hret _ _ (en1 A rfl (qh rfl) ?_))))
       subst hr
       exact ⟨by unfold va; simp_all, M.bel⟩
      ·
       have hb14' := ne_of_beq_false hb14
       refine sdc A qp hb14 λa A↦?_
       refine sdk (v := .bool false) A λa A↦?_
       refine sda A λa A↦?_
       refine qa (hK4 _ _ (wp_ret (hret _ _ (en1 A rfl (qh rfl) ?_))))
       subst hr
       exact ⟨by unfold va; simp_all, M.bel⟩
     ·
      have hb13' := ne_of_beq_false hb13
      refine sdc A qp hb13 λa A↦?_
      refine sdk (v := .bool false) A λa A↦?_
      refine sdm A λa A↦?_
      iterate 4 refine qx A rfl rfl rfl λa A↦?_
      refine sdk (v := .bool false) A λa A↦?_
      refine sda A λa A↦?_
      refine qa (hK4 _ _ (wp_ret (hret _ _ (en1 A rfl (qh rfl) ?_))))
      subst hr
      exact ⟨by unfold va; simp_all, M.bel⟩
    ·
     have hb12' := of_decide_eq_false hb12
     refine sdo (v := .bool false) A (qf rfl rfl (fun w => (qsd Tryz.underlying9 w).trans (by rw [hb12] <;> rfl))) λa A↦?_
     refine sdk (v := .bool false) A λa A↦?_
     refine sdm A λa A↦?_
     iterate 4 refine qx A rfl rfl rfl λa A↦?_
     refine sdk (v := .bool false) A λa A↦?_
     refine sdm A λa A↦?_
     iterate 4 refine qx A rfl rfl rfl λa A↦?_
     refine sdk (v := .bool false) A λa A↦?_
     refine sda A λa A↦?_
     refine qa (hK4 _ _ (wp_ret (hret _ _ (en1 A rfl (qh rfl) ?_))))
     subst hr
     exact ⟨by unfold va; simp_all, M.bel⟩
   ·
    refine gcl A M (ef rfl rfl) (ko h3 h4 hb9) fun w16 hb15 M a A => ?_
    refine sdk (v := .bool false) A λa A↦?_
    refine sdm A λa A↦?_
    iterate 3 refine qx A rfl rfl rfl λa A↦?_
    refine sdk (v := .bool false) A λa A↦?_
    refine sdm A λa A↦?_
    iterate 4 refine qx A rfl rfl rfl λa A↦?_
    refine sdk (v := .bool false) A λa A↦?_
    refine sdm A λa A↦?_
    iterate 4 refine qx A rfl rfl rfl λa A↦?_
    refine sdk (v := .bool false) A λa A↦?_
    refine sda A λa A↦?_
    refine qa (hK4 _ _ (wp_ret (hret _ _ (en1 A rfl (qh rfl) ?_))))
    subst hr
    exact ⟨by unfold va; simp_all, M.bel⟩
  ·
   refine gcl A M (ef rfl rfl) (ko h1 h2 hb6) fun w18 hb17 M a A => ?_
   refine sdk (v := .bool false) A λa A↦?_
   refine sdm A λa A↦?_
   iterate 4 refine qx A rfl rfl rfl λa A↦?_
   refine sdk (v := .bool false) A λa A↦?_
   refine sdm A λa A↦?_
   iterate 3 refine qx A rfl rfl rfl λa A↦?_
   refine sdk (v := .bool false) A λa A↦?_
   refine sdm A λa A↦?_
   iterate 4 refine qx A rfl rfl rfl λa A↦?_
   refine sdk (v := .bool false) A λa A↦?_
   refine sdm A λa A↦?_
   iterate 4 refine qx A rfl rfl rfl λa A↦?_
   refine sdk (v := .bool false) A λa A↦?_
   refine sda A λa A↦?_
   refine qa (hK4 _ _ (wp_ret (hret _ _ (en1 A rfl (qh rfl) ?_))))
   subst hr
   exact ⟨by unfold va; simp_all, M.bel⟩
 ·
  have hb5' := ne_of_beq_false hb5
  refine sdc A qp hb5 λa A↦?_
  refine sdm A λa A↦?_
  iterate 4 refine qx A rfl rfl rfl λa A↦?_
  refine sdk (v := .bool false) A λa A↦?_
  refine sdm A λa A↦?_
  iterate 4 refine qx A rfl rfl rfl λa A↦?_
  refine sdk (v := .bool false) A λa A↦?_
  refine sdm A λa A↦?_
  iterate 3 refine qx A rfl rfl rfl λa A↦?_
  refine sdk (v := .bool false) A λa A↦?_
  refine sdm A λa A↦?_
  iterate 4 refine qx A rfl rfl rfl λa A↦?_
  refine sdk (v := .bool false) A λa A↦?_
  refine sdm A λa A↦?_
  iterate 4 refine qx A rfl rfl rfl λa A↦?_
  refine sdk (v := .bool false) A λa A↦?_
  refine sda A λa A↦?_
  refine qa (hK4 _ _ (wp_ret (hret _ _ (en1 A rfl (qh rfl) ?_))))
  subst hr
  exact ⟨by unfold va; simp_all, M.bel⟩
theorem qjj {w : World} {d : Nd} {ts : List Dt} (hok : NdOk w d) (hT : Tabs8 w) : Calls Tryz.prog 97 #[.agg (d.cells ts.length).toArray] w fun e w' => e = .returned (.bool (jo d.k d.n d.y.q d.s d.rl.length ts.length)) ∧ Below w.heap.size w w' := by
 have hq1 := hok.len.l1
 have hq2 := hok.len.l2
 have hq3 := hok.len.l3
 have hq4 := hok.len.l4
 have M : Mg w w ([]) := Mg.start w
 refine qm (l := [(0, .agg (d.cells ts.length).toArray)]) Tryz.func97 rfl Tryz.ntmps97 rfl rfl ?_
 intro Q hret hnorm hP a A
 refine wsk fun K1 hK1 => wrl (ja (vs := [.int .i64 d.k, .int .i64 d.n, .bool d.y.q.b1, .slice d.y.o1 d.y.q.t1.length d.y.c1, .slice d.y.o2 d.y.q.q1.length d.y.c2, .bool d.y.q.b2, .slice d.y.o3 d.y.q.t2.length d.y.c3, .slice d.y.o4 d.y.q.q2.length d.y.c4, .string d.s, .slice d.ro d.rl.length d.rc, .slice d.lo ts.length d.lc]) (t := 30) A M rfl rfl rfl pg (qs rfl rfl) (by decide) ?_)
 intro g2 w3 M a A
 refine sda A λa A↦?_
 refine qa (hK1 _ _ (wsk fun K4 hK4 => wrl (sda A λa A↦?_)))
 refine qa (hK4 _ _ (wsk fun K5 hK5 => ?_))
 have hJ6 : ∀ a w1, (∃ (ok : Bool) (z1 : Int) (z2 : Bool) (y1 : Option Addr) (m1 : Nat) (e1 : Nat) (y2 : Option Addr) (m2 : Nat) (e2 : Nat) (z3 : Bool) (y3 : Option Addr) (m3 : Nat) (e3 : Nat) (y4 : Option Addr) (m4 : Nat) (e4 : Nat) (zs : ByteArray) (yr : Option Addr) (mr : Nat) (er : Nat) (yl : Option Addr) (ml : Nat) (el : Nat), (jo d.k d.n d.y.q d.s d.rl.length ts.length = (ok && va z1 z2 m1 m2 z3 m3 m4 zs mr ml) ∧ m1 ≤ 9223372036854775807 ∧ m2 ≤ 9223372036854775807 ∧ m3 ≤ 9223372036854775807 ∧ m4 ≤ 9223372036854775807) ∧ Sl a 59 [(0, .agg (d.cells ts.length).toArray), (1, .pointer (some ⟨g2, 0, none⟩)), (2, .bool false), (3, .bool ok)] ∧ Mg w w1 (.obj g2 (.cells #[.int .i64 d.k, .int .i64 z1, .bool z2, .slice y1 m1 e1, .slice y2 m2 e2, .bool z3, .slice y3 m3 e3, .slice y4 m4 e4, .string zs, .slice yr mr er, .slice yl ml el] 30) :: [])) → K5 a w1 := by
  clear A M
  rintro a w7 ⟨ok, z1, z2, y1, m1, e1, y2, m2, e2, z3, y3, m3, e3, y4, m4, e4, zs, yr, mr, er, yl, ml, el, hf8, A, M⟩
  obtain ⟨hsh, hq1, hq2, hq3, hq4⟩ := hf8
  refine hK5 _ _ (wsk fun K9 hK9 => wrl ?_)
  iterate 2 refine sdm A λa A↦?_
  rcases ok with _ | _
  ·
   iterate 2 refine qx A rfl rfl rfl λa A↦?_
   refine sdk (v := .bool false) A λa A↦?_
   refine sda A λa A↦?_
   refine qa (hK9 _ _ (wp_ret (hret _ _ (en1 A rfl (qh rfl) ?_))))
   exact ⟨by rw [hsh]; rfl, M.bel⟩
  ·
   refine sdo A (zg M TrB_isS_30 rfl 0 rfl (cs := [.int .i64 d.k, .int .i64 z1, .bool z2, .slice y1 m1 e1, .slice y2 m2 e2, .bool z3, .slice y3 m3 e3, .slice y4 m4 e4, .string zs, .slice yr mr er, .slice yl ml el]) rfl rfl) λa A↦?_
   refine gcl A M (ef rfl rfl) (zkb (by first | exact hq1 | omega) (by first | exact hq2 | omega) (by first | exact hq3 | omega) (by first | exact hq4 | omega) rfl) fun w11 hb10 M a A => ?_
   refine sdo (v := .bool (va z1 z2 m1 m2 z3 m3 m4 zs mr ml)) A (xn rfl rfl rfl rfl) λa A↦?_
   refine sda A λa A↦?_
   refine qa (hK9 _ _ (wp_ret (hret _ _ (en1 A rfl (qh rfl) ?_))))
   exact ⟨by rw [hsh]; rfl, M.bel⟩
 refine wsk fun K12 hK12 => wrl (sdo (v := .pointer (some ⟨g2, 0, none⟩)) A (qb TrB_fld_30_0 rfl rfl) λa A↦?_)
 refine sdo A (ql M TrB_is1_3 rfl 0 rfl rfl) λa A↦?_
 refine qa (hK12 _ _ (wp_block (wsk fun K13 hK13 => wsk fun K14 hK14 => wrl ?_)))
 rcases tf ((d.k == 1)) with hb15 | hb15
 ·
  have hb15' := eq_of_beq hb15
  refine sdc A qp hb15 λa A↦?_
  refine sda A λa A↦?_
  refine qa (hK14 _ _ (wp_cond_true (A.ev rfl) ?_))
  refine wp_skip (hK13 _ _ (wp_cond_true (A.ev rfl) ?_))
  refine wp_skip ?_
  exact hJ6 _ _ ⟨true, d.n, d.y.q.b1, d.y.o1, d.y.q.t1.length, d.y.c1, d.y.o2, d.y.q.q1.length, d.y.c2, d.y.q.b2, d.y.o3, d.y.q.t2.length, d.y.c3, d.y.o4, d.y.q.q2.length, d.y.c4, d.s, d.ro, d.rl.length, d.rc, d.lo, ts.length, d.lc, ⟨by
   unfold jo
   repeat (first | rw [if_pos (by omega)] | rw [if_neg (by omega)])
   first | rfl, by first | exact hq1 | decide, by first | exact hq2 | decide, by first | exact hq3 | decide, by first | exact hq4 | decide⟩, A.keep _ ⟨rfl, rfl, rfl, rfl, trivial⟩, M⟩
 ·
  have hb15' := ne_of_beq_false hb15
  refine sdc A qp hb15 λa A↦?_
  refine sda A λa A↦?_
  refine qa (hK14 _ _ (wp_cond_false (A.ev rfl) ?_))
  refine wrl ?_
  rcases tf ((d.k == 10)) with hb16 | hb16
  ·
   have hb16' := eq_of_beq hb16
   refine sdc A qp hb16 λa A↦?_
   refine sda A λa A↦?_
   refine qa (hK13 _ _ (wp_cond_true (A.ev rfl) ?_))
   refine wp_skip ?_
   exact hJ6 _ _ ⟨true, d.n, d.y.q.b1, d.y.o1, d.y.q.t1.length, d.y.c1, d.y.o2, d.y.q.q1.length, d.y.c2, d.y.q.b2, d.y.o3, d.y.q.t2.length, d.y.c3, d.y.o4, d.y.q.q2.length, d.y.c4, d.s, d.ro, d.rl.length, d.rc, d.lo, ts.length, d.lc, ⟨by
    unfold jo
    repeat (first | rw [if_pos (by omega)] | rw [if_neg (by omega)])
    first | rfl, by first | exact hq1 | decide, by first | exact hq2 | decide, by first | exact hq3 | decide, by first | exact hq4 | decide⟩, A.keep _ ⟨rfl, rfl, rfl, rfl, trivial⟩, M⟩
  ·
   have hb16' := ne_of_beq_false hb16
   refine sdc A qp hb16 λa A↦?_
   refine sda A λa A↦?_
   refine qa (hK13 _ _ (wp_cond_false (A.ev rfl) ?_))
   refine wsk fun K17 hK17 => wrl ?_
   rcases tf ((d.k == 2)) with hb18 | hb18
   ·
    have hb18' := eq_of_beq hb18
    refine sdc A qp hb18 λa A↦?_
    refine sda A λa A↦?_
    refine qa (hK17 _ _ (wp_cond_true (A.ev rfl) ?_))
    refine wrl (sdo (v := .pointer (some ⟨g2, 1, none⟩)) A (qb TrB_fld_30_1 rfl rfl) λa A↦?_)
    refine sdo A (ql M TrB_is1_3 rfl 0 rfl rfl) λa A↦?_
    rcases tf ((d.n == 0)) with hb19 | hb19
    ·
     have hb19' := eq_of_beq hb19
     refine sdc A qp hb19 λa A↦?_
     refine sdm A λa A↦?_
     iterate 3 refine qx A rfl rfl rfl λa A↦?_
     refine sdk (v := .bool true) A λa A↦?_
     refine sda A λa A↦?_
     refine sdo (v := .pointer (some ⟨g2, 1, none⟩)) A (qb TrB_fld_30_1 rfl rfl) λa A↦?_
     refine zu (us := [.int .i64 d.k, .int .i64 0, .bool d.y.q.b1, .slice d.y.o1 d.y.q.t1.length d.y.c1, .slice d.y.o2 d.y.q.q1.length d.y.c2, .bool d.y.q.b2, .slice d.y.o3 d.y.q.t2.length d.y.c3, .slice d.y.o4 d.y.q.q2.length d.y.c4, .string d.s, .slice d.ro d.rl.length d.rc, .slice d.lo ts.length d.lc]) (L' := (.obj g2 (.cells #[.int .i64 d.k, .int .i64 0, .bool d.y.q.b1, .slice d.y.o1 d.y.q.t1.length d.y.c1, .slice d.y.o2 d.y.q.q1.length d.y.c2, .bool d.y.q.b2, .slice d.y.o3 d.y.q.t2.length d.y.c3, .slice d.y.o4 d.y.q.q2.length d.y.c4, .string d.s, .slice d.ro d.rl.length d.rc, .slice d.lo ts.length d.lc] 30) :: [])) A M rfl rfl (ze rfl rfl rfl (by kernel_rfl) M 0 rfl rfl rfl) 0 rfl rfl rfl ?_
     intro w20 M
     refine qa ?_
     exact hJ6 _ _ ⟨true, 0, d.y.q.b1, d.y.o1, d.y.q.t1.length, d.y.c1, d.y.o2, d.y.q.q1.length, d.y.c2, d.y.q.b2, d.y.o3, d.y.q.t2.length, d.y.c3, d.y.o4, d.y.q.q2.length, d.y.c4, d.s, d.ro, d.rl.length, d.rc, d.lo, ts.length, d.lc, ⟨by
      unfold jo
      repeat (first | rw [if_pos (by omega)] | rw [if_neg (by omega)])
      first | rfl | (rw [decide_eq_true (show (d.n = 0 ∨ d.n = 1) by omega)]), by first | exact hq1 | decide, by first | exact hq2 | decide, by first | exact hq3 | decide, by first | exact hq4 | decide⟩, A.keep _ ⟨rfl, rfl, rfl, rfl, trivial⟩, M⟩
    ·
     have hb19' := ne_of_beq_false hb19
     refine sdc A qp hb19 λa A↦?_
     refine sdm A λa A↦?_
     refine sdo (v := .pointer (some ⟨g2, 1, none⟩)) A (qb TrB_fld_30_1 rfl rfl) λa A↦?_
     refine sdo A (ql M TrB_is1_3 rfl 0 rfl rfl) λa A↦?_
     rcases tf ((d.n == 1)) with hb21 | hb21
     ·
      have hb21' := eq_of_beq hb21
      refine sdc A qp hb21 λa A↦?_
      refine sdk (v := .bool true) A λa A↦?_
      refine sda A λa A↦?_
      refine sdo (v := .pointer (some ⟨g2, 1, none⟩)) A (qb TrB_fld_30_1 rfl rfl) λa A↦?_
      refine zu (us := [.int .i64 d.k, .int .i64 0, .bool d.y.q.b1, .slice d.y.o1 d.y.q.t1.length d.y.c1, .slice d.y.o2 d.y.q.q1.length d.y.c2, .bool d.y.q.b2, .slice d.y.o3 d.y.q.t2.length d.y.c3, .slice d.y.o4 d.y.q.q2.length d.y.c4, .string d.s, .slice d.ro d.rl.length d.rc, .slice d.lo ts.length d.lc]) (L' := (.obj g2 (.cells #[.int .i64 d.k, .int .i64 0, .bool d.y.q.b1, .slice d.y.o1 d.y.q.t1.length d.y.c1, .slice d.y.o2 d.y.q.q1.length d.y.c2, .bool d.y.q.b2, .slice d.y.o3 d.y.q.t2.length d.y.c3, .slice d.y.o4 d.y.q.q2.length d.y.c4, .string d.s, .slice d.ro d.rl.length d.rc, .slice d.lo ts.length d.lc] 30) :: [])) A M rfl rfl (ze rfl rfl rfl (by kernel_rfl) M 0 rfl rfl rfl) 0 rfl rfl rfl ?_
      intro w22 M
      refine qa ?_
      exact hJ6 _ _ ⟨true, 0, d.y.q.b1, d.y.o1, d.y.q.t1.length, d.y.c1, d.y.o2, d.y.q.q1.length, d.y.c2, d.y.q.b2, d.y.o3, d.y.q.t2.length, d.y.c3, d.y.o4, d.y.q.q2.length, d.y.c4, d.s, d.ro, d.rl.length, d.rc, d.lo, ts.length, d.lc, ⟨by
       unfold jo
       repeat (first | rw [if_pos (by omega)] | rw [if_neg (by omega)])
       first | rfl | (rw [decide_eq_true (show (d.n = 0 ∨ d.n = 1) by omega)]), by first | exact hq1 | decide, by first | exact hq2 | decide, by first | exact hq3 | decide, by first | exact hq4 | decide⟩, A.keep _ ⟨rfl, rfl, rfl, rfl, trivial⟩, M⟩
     ·
      have hb21' := ne_of_beq_false hb21
      refine sdc A qp hb21 λa A↦?_
      refine sdk (v := .bool false) A λa A↦?_
      refine sda A λa A↦?_
      refine sdo (v := .pointer (some ⟨g2, 1, none⟩)) A (qb TrB_fld_30_1 rfl rfl) λa A↦?_
      refine zu (us := [.int .i64 d.k, .int .i64 0, .bool d.y.q.b1, .slice d.y.o1 d.y.q.t1.length d.y.c1, .slice d.y.o2 d.y.q.q1.length d.y.c2, .bool d.y.q.b2, .slice d.y.o3 d.y.q.t2.length d.y.c3, .slice d.y.o4 d.y.q.q2.length d.y.c4, .string d.s, .slice d.ro d.rl.length d.rc, .slice d.lo ts.length d.lc]) (L' := (.obj g2 (.cells #[.int .i64 d.k, .int .i64 0, .bool d.y.q.b1, .slice d.y.o1 d.y.q.t1.length d.y.c1, .slice d.y.o2 d.y.q.q1.length d.y.c2, .bool d.y.q.b2, .slice d.y.o3 d.y.q.t2.length d.y.c3, .slice d.y.o4 d.y.q.q2.length d.y.c4, .string d.s, .slice d.ro d.rl.length d.rc, .slice d.lo ts.length d.lc] 30) :: [])) A M rfl rfl (ze rfl rfl rfl (by kernel_rfl) M 0 rfl rfl rfl) 0 rfl rfl rfl ?_
      intro w23 M
      refine qa ?_
      exact hJ6 _ _ ⟨false, 0, d.y.q.b1, d.y.o1, d.y.q.t1.length, d.y.c1, d.y.o2, d.y.q.q1.length, d.y.c2, d.y.q.b2, d.y.o3, d.y.q.t2.length, d.y.c3, d.y.o4, d.y.q.q2.length, d.y.c4, d.s, d.ro, d.rl.length, d.rc, d.lo, ts.length, d.lc, ⟨by
       unfold jo
       repeat (first | rw [if_pos (by omega)] | rw [if_neg (by omega)])
       first | rfl | (rw [decide_eq_false (show ¬ (d.n = 0 ∨ d.n = 1) by omega)]), by first | exact hq1 | decide, by first | exact hq2 | decide, by first | exact hq3 | decide, by first | exact hq4 | decide⟩, A.keep _ ⟨rfl, rfl, rfl, rfl, trivial⟩, M⟩
   ·
    have hb18' := ne_of_beq_false hb18
    refine sdc A qp hb18 λa A↦?_
    refine sda A λa A↦?_
    refine qa (hK17 _ _ (wp_cond_false (A.ev rfl) ?_))
    refine wsk fun K24 hK24 => wrl ?_
    rcases tf ((d.k == 3)) with hb25 | hb25
    ·
     have hb25' := eq_of_beq hb25
     refine sdc A qp hb25 λa A↦?_
     refine sda A λa A↦?_
     refine qa (hK24 _ _ (wp_cond_true (A.ev rfl) ?_))
     refine wrl (sdo (v := .pointer (some ⟨g2, 2, none⟩)) A (qb TrB_fld_30_2 rfl rfl) λa A↦?_)
     refine sdo A (zg M TrB_isS_27 rfl 0 rfl (cs := [.bool d.y.q.b1, .slice d.y.o1 d.y.q.t1.length d.y.c1, .slice d.y.o2 d.y.q.q1.length d.y.c2, .bool d.y.q.b2, .slice d.y.o3 d.y.q.t2.length d.y.c3, .slice d.y.o4 d.y.q.q2.length d.y.c4]) rfl rfl) λa A↦?_
     rcases tf (xq d.y.q) with hb26 | hb26
     ·
      refine gcl A M (ef rfl rfl) (vt (Nu.below hok.num M.bel) hok.len hb26) fun w28 hb27 M a A => ?_
      refine sdo (v := .agg #[.bool false, .slice none 0 0, .slice none 0 0, .bool false, .slice none 0 0, .slice none 0 0]) A (zv rfl (fun w => by kernel_rfl)) λa A↦?_
      refine sda A λa A↦?_
      refine sdo (v := .pointer (some ⟨g2, 2, none⟩)) A (qb TrB_fld_30_2 rfl rfl) λa A↦?_
      refine zu (us := [.int .i64 d.k, .int .i64 d.n, .bool false, .slice none 0 0, .slice none 0 0, .bool false, .slice none 0 0, .slice none 0 0, .string d.s, .slice d.ro d.rl.length d.rc, .slice d.lo ts.length d.lc]) (L' := (.obj g2 (.cells #[.int .i64 d.k, .int .i64 d.n, .bool false, .slice none 0 0, .slice none 0 0, .bool false, .slice none 0 0, .slice none 0 0, .string d.s, .slice d.ro d.rl.length d.rc, .slice d.lo ts.length d.lc] 30) :: [])) A M rfl rfl (ze rfl rfl rfl (by kernel_rfl) M 0 rfl rfl rfl) 0 rfl rfl rfl ?_
      intro w29 M
      refine qa ?_
      exact hJ6 _ _ ⟨true, d.n, false, none, 0, 0, none, 0, 0, false, none, 0, 0, none, 0, 0, d.s, d.ro, d.rl.length, d.rc, d.lo, ts.length, d.lc, ⟨by
       unfold jo
       repeat (first | rw [if_pos (by omega)] | rw [if_neg (by omega)])
       first | rfl | rw [hb26], by first | exact hq1 | decide, by first | exact hq2 | decide, by first | exact hq3 | decide, by first | exact hq4 | decide⟩, A.keep _ ⟨rfl, rfl, rfl, rfl, trivial⟩, M⟩
     ·
      refine gcl A M (ef rfl rfl) (vt (Nu.below hok.num M.bel) hok.len hb26) fun w31 hb30 M a A => ?_
      refine sdo (v := .agg #[.bool false, .slice none 0 0, .slice none 0 0, .bool false, .slice none 0 0, .slice none 0 0]) A (zv rfl (fun w => by kernel_rfl)) λa A↦?_
      refine sda A λa A↦?_
      refine sdo (v := .pointer (some ⟨g2, 2, none⟩)) A (qb TrB_fld_30_2 rfl rfl) λa A↦?_
      refine zu (us := [.int .i64 d.k, .int .i64 d.n, .bool false, .slice none 0 0, .slice none 0 0, .bool false, .slice none 0 0, .slice none 0 0, .string d.s, .slice d.ro d.rl.length d.rc, .slice d.lo ts.length d.lc]) (L' := (.obj g2 (.cells #[.int .i64 d.k, .int .i64 d.n, .bool false, .slice none 0 0, .slice none 0 0, .bool false, .slice none 0 0, .slice none 0 0, .string d.s, .slice d.ro d.rl.length d.rc, .slice d.lo ts.length d.lc] 30) :: [])) A M rfl rfl (ze rfl rfl rfl (by kernel_rfl) M 0 rfl rfl rfl) 0 rfl rfl rfl ?_
      intro w32 M
      refine qa ?_
      exact hJ6 _ _ ⟨false, d.n, false, none, 0, 0, none, 0, 0, false, none, 0, 0, none, 0, 0, d.s, d.ro, d.rl.length, d.rc, d.lo, ts.length, d.lc, ⟨by
       unfold jo
       repeat (first | rw [if_pos (by omega)] | rw [if_neg (by omega)])
       first | rfl | rw [hb26], by first | exact hq1 | decide, by first | exact hq2 | decide, by first | exact hq3 | decide, by first | exact hq4 | decide⟩, A.keep _ ⟨rfl, rfl, rfl, rfl, trivial⟩, M⟩
    ·
     have hb25' := ne_of_beq_false hb25
     refine sdc A qp hb25 λa A↦?_
     refine sda A λa A↦?_
     refine qa (hK24 _ _ (wp_cond_false (A.ev rfl) ?_))
     refine wsk fun K33 hK33 => wrl ?_
     rcases tf ((d.k == 4)) with hb34 | hb34
     ·
      have hb34' := eq_of_beq hb34
      refine sdc A qp hb34 λa A↦?_
      refine sda A λa A↦?_
      refine qa (hK33 _ _ (wp_cond_true (A.ev rfl) ?_))
      refine wrl (sdo (v := .pointer (some ⟨g2, 1, none⟩)) A (qb TrB_fld_30_1 rfl rfl) λa A↦?_)
      refine sdo A (ql M TrB_is1_3 rfl 0 rfl rfl) λa A↦?_
      rcases tf (qmc d.n) with hb35 | hb35
      ·
       refine gcl A M (ef rfl rfl) ((hb35 ▸ qtg)) fun w37 hb36 M a A => ?_
       refine sda A λa A↦?_
       refine sdo (v := .pointer (some ⟨g2, 1, none⟩)) A (qb TrB_fld_30_1 rfl rfl) λa A↦?_
       refine zu (us := [.int .i64 d.k, .int .i64 0, .bool d.y.q.b1, .slice d.y.o1 d.y.q.t1.length d.y.c1, .slice d.y.o2 d.y.q.q1.length d.y.c2, .bool d.y.q.b2, .slice d.y.o3 d.y.q.t2.length d.y.c3, .slice d.y.o4 d.y.q.q2.length d.y.c4, .string d.s, .slice d.ro d.rl.length d.rc, .slice d.lo ts.length d.lc]) (L' := (.obj g2 (.cells #[.int .i64 d.k, .int .i64 0, .bool d.y.q.b1, .slice d.y.o1 d.y.q.t1.length d.y.c1, .slice d.y.o2 d.y.q.q1.length d.y.c2, .bool d.y.q.b2, .slice d.y.o3 d.y.q.t2.length d.y.c3, .slice d.y.o4 d.y.q.q2.length d.y.c4, .string d.s, .slice d.ro d.rl.length d.rc, .slice d.lo ts.length d.lc] 30) :: [])) A M rfl rfl (ze rfl rfl rfl (by kernel_rfl) M 0 rfl rfl rfl) 0 rfl rfl rfl ?_
       intro w38 M
       refine qa ?_
       exact hJ6 _ _ ⟨true, 0, d.y.q.b1, d.y.o1, d.y.q.t1.length, d.y.c1, d.y.o2, d.y.q.q1.length, d.y.c2, d.y.q.b2, d.y.o3, d.y.q.t2.length, d.y.c3, d.y.o4, d.y.q.q2.length, d.y.c4, d.s, d.ro, d.rl.length, d.rc, d.lo, ts.length, d.lc, ⟨by
        unfold jo
        repeat (first | rw [if_pos (by omega)] | rw [if_neg (by omega)])
        first | rfl | rw [hb35], by first | exact hq1 | decide, by first | exact hq2 | decide, by first | exact hq3 | decide, by first | exact hq4 | decide⟩, A.keep _ ⟨rfl, rfl, rfl, rfl, trivial⟩, M⟩
      ·
       refine gcl A M (ef rfl rfl) ((hb35 ▸ qtg)) fun w40 hb39 M a A => ?_
       refine sda A λa A↦?_
       refine sdo (v := .pointer (some ⟨g2, 1, none⟩)) A (qb TrB_fld_30_1 rfl rfl) λa A↦?_
       refine zu (us := [.int .i64 d.k, .int .i64 0, .bool d.y.q.b1, .slice d.y.o1 d.y.q.t1.length d.y.c1, .slice d.y.o2 d.y.q.q1.length d.y.c2, .bool d.y.q.b2, .slice d.y.o3 d.y.q.t2.length d.y.c3, .slice d.y.o4 d.y.q.q2.length d.y.c4, .string d.s, .slice d.ro d.rl.length d.rc, .slice d.lo ts.length d.lc]) (L' := (.obj g2 (.cells #[.int .i64 d.k, .int .i64 0, .bool d.y.q.b1, .slice d.y.o1 d.y.q.t1.length d.y.c1, .slice d.y.o2 d.y.q.q1.length d.y.c2, .bool d.y.q.b2, .slice d.y.o3 d.y.q.t2.length d.y.c3, .slice d.y.o4 d.y.q.q2.length d.y.c4, .string d.s, .slice d.ro d.rl.length d.rc, .slice d.lo ts.length d.lc] 30) :: [])) A M rfl rfl (ze rfl rfl rfl (by kernel_rfl) M 0 rfl rfl rfl) 0 rfl rfl rfl ?_
       intro w41 M
       refine qa ?_
       exact hJ6 _ _ ⟨false, 0, d.y.q.b1, d.y.o1, d.y.q.t1.length, d.y.c1, d.y.o2, d.y.q.q1.length, d.y.c2, d.y.q.b2, d.y.o3, d.y.q.t2.length, d.y.c3, d.y.o4, d.y.q.q2.length, d.y.c4, d.s, d.ro, d.rl.length, d.rc, d.lo, ts.length, d.lc, ⟨by
        unfold jo
        repeat (first | rw [if_pos (by omega)] | rw [if_neg (by omega)])
        first | rfl | rw [hb35], by first | exact hq1 | decide, by first | exact hq2 | decide, by first | exact hq3 | decide, by first | exact hq4 | decide⟩, A.keep _ ⟨rfl, rfl, rfl, rfl, trivial⟩, M⟩
     ·
      have hb34' := ne_of_beq_false hb34
      refine sdc A qp hb34 λa A↦?_
      refine sda A λa A↦?_
      refine qa (hK33 _ _ (wp_cond_false (A.ev rfl) ?_))
      refine wsk fun K42 hK42 => wsk fun K43 hK43 => wrl ?_
      rcases tf ((d.k == 5)) with hb44 | hb44
      ·
       have hb44' := eq_of_beq hb44
       refine sdc A qp hb44 λa A↦?_
       refine sda A λa A↦?_
       refine qa (hK43 _ _ (wp_cond_true (A.ev rfl) ?_))
       refine wp_skip (hK42 _ _ (wp_cond_true (A.ev rfl) ?_))
       refine wrl (sdo (v := .pointer (some ⟨g2, 8, none⟩)) A (qb TrB_fld_30_3 rfl rfl) λa A↦?_)
       refine sdo A (ql M TrB_is1_9 rfl 0 rfl rfl) λa A↦?_
       rcases tf (okS d.s) with hb45 | hb45
       ·
        refine gcl A M (ef rfl rfl) (ku hok.smax (hT.below M.bel) hb45) fun w47 hb46 M a A => ?_
        refine sda A λa A↦?_
        refine sdo (v := .pointer (some ⟨g2, 8, none⟩)) A (qb TrB_fld_30_3 rfl rfl) λa A↦?_
        refine zu (us := [.int .i64 d.k, .int .i64 d.n, .bool d.y.q.b1, .slice d.y.o1 d.y.q.t1.length d.y.c1, .slice d.y.o2 d.y.q.q1.length d.y.c2, .bool d.y.q.b2, .slice d.y.o3 d.y.q.t2.length d.y.c3, .slice d.y.o4 d.y.q.q2.length d.y.c4, .string (⟨#[]⟩), .slice d.ro d.rl.length d.rc, .slice d.lo ts.length d.lc]) (L' := (.obj g2 (.cells #[.int .i64 d.k, .int .i64 d.n, .bool d.y.q.b1, .slice d.y.o1 d.y.q.t1.length d.y.c1, .slice d.y.o2 d.y.q.q1.length d.y.c2, .bool d.y.q.b2, .slice d.y.o3 d.y.q.t2.length d.y.c3, .slice d.y.o4 d.y.q.q2.length d.y.c4, .string (⟨#[]⟩), .slice d.ro d.rl.length d.rc, .slice d.lo ts.length d.lc] 30) :: [])) A M rfl rfl (ze rfl rfl rfl (by kernel_rfl) M 0 rfl rfl rfl) 0 rfl rfl rfl ?_
        intro w48 M
        refine qa ?_
        exact hJ6 _ _ ⟨true, d.n, d.y.q.b1, d.y.o1, d.y.q.t1.length, d.y.c1, d.y.o2, d.y.q.q1.length, d.y.c2, d.y.q.b2, d.y.o3, d.y.q.t2.length, d.y.c3, d.y.o4, d.y.q.q2.length, d.y.c4, ⟨#[]⟩, d.ro, d.rl.length, d.rc, d.lo, ts.length, d.lc, ⟨by
         unfold jo
         repeat (first | rw [if_pos (by omega)] | rw [if_neg (by omega)])
         first | rfl | rw [hb45], by first | exact hq1 | decide, by first | exact hq2 | decide, by first | exact hq3 | decide, by first | exact hq4 | decide⟩, A.keep _ ⟨rfl, rfl, rfl, rfl, trivial⟩, M⟩
       ·
        refine gcl A M (ef rfl rfl) (ku hok.smax (hT.below M.bel) hb45) fun w50 hb49 M a A => ?_
        refine sda A λa A↦?_
        refine sdo (v := .pointer (some ⟨g2, 8, none⟩)) A (qb TrB_fld_30_3 rfl rfl) λa A↦?_
        refine zu (us := [.int .i64 d.k, .int .i64 d.n, .bool d.y.q.b1, .slice d.y.o1 d.y.q.t1.length d.y.c1, .slice d.y.o2 d.y.q.q1.length d.y.c2, .bool d.y.q.b2, .slice d.y.o3 d.y.q.t2.length d.y.c3, .slice d.y.o4 d.y.q.q2.length d.y.c4, .string (⟨#[]⟩), .slice d.ro d.rl.length d.rc, .slice d.lo ts.length d.lc]) (L' := (.obj g2 (.cells #[.int .i64 d.k, .int .i64 d.n, .bool d.y.q.b1, .slice d.y.o1 d.y.q.t1.length d.y.c1, .slice d.y.o2 d.y.q.q1.length d.y.c2, .bool d.y.q.b2, .slice d.y.o3 d.y.q.t2.length d.y.c3, .slice d.y.o4 d.y.q.q2.length d.y.c4, .string (⟨#[]⟩), .slice d.ro d.rl.length d.rc, .slice d.lo ts.length d.lc] 30) :: [])) A M rfl rfl (ze rfl rfl rfl (by kernel_rfl) M 0 rfl rfl rfl) 0 rfl rfl rfl ?_
        intro w51 M
        refine qa ?_
        exact hJ6 _ _ ⟨false, d.n, d.y.q.b1, d.y.o1, d.y.q.t1.length, d.y.c1, d.y.o2, d.y.q.q1.length, d.y.c2, d.y.q.b2, d.y.o3, d.y.q.t2.length, d.y.c3, d.y.o4, d.y.q.q2.length, d.y.c4, ⟨#[]⟩, d.ro, d.rl.length, d.rc, d.lo, ts.length, d.lc, ⟨by
         unfold jo
         repeat (first | rw [if_pos (by omega)] | rw [if_neg (by omega)])
         first | rfl | rw [hb45], by first | exact hq1 | decide, by first | exact hq2 | decide, by first | exact hq3 | decide, by first | exact hq4 | decide⟩, A.keep _ ⟨rfl, rfl, rfl, rfl, trivial⟩, M⟩
      ·
       have hb44' := ne_of_beq_false hb44
       refine sdc A qp hb44 λa A↦?_
       refine sda A λa A↦?_
       refine qa (hK43 _ _ (wp_cond_false (A.ev rfl) ?_))
       refine wsk fun K52 hK52 => wrl ?_
       rcases tf ((d.k == 6)) with hb53 | hb53
       ·
        have hb53' := eq_of_beq hb53
        refine sdc A qp hb53 λa A↦?_
        refine sda A λa A↦?_
        refine qa (hK52 _ _ (wp_cond_true (A.ev rfl) ?_))
        refine wp_skip (hK42 _ _ (wp_cond_true (A.ev rfl) ?_))
        refine wrl (sdo (v := .pointer (some ⟨g2, 8, none⟩)) A (qb TrB_fld_30_3 rfl rfl) λa A↦?_)
        refine sdo A (ql M TrB_is1_9 rfl 0 rfl rfl) λa A↦?_
        rcases tf (okS d.s) with hb54 | hb54
        ·
         refine gcl A M (ef rfl rfl) (ku hok.smax (hT.below M.bel) hb54) fun w56 hb55 M a A => ?_
         refine sda A λa A↦?_
         refine sdo (v := .pointer (some ⟨g2, 8, none⟩)) A (qb TrB_fld_30_3 rfl rfl) λa A↦?_
         refine zu (us := [.int .i64 d.k, .int .i64 d.n, .bool d.y.q.b1, .slice d.y.o1 d.y.q.t1.length d.y.c1, .slice d.y.o2 d.y.q.q1.length d.y.c2, .bool d.y.q.b2, .slice d.y.o3 d.y.q.t2.length d.y.c3, .slice d.y.o4 d.y.q.q2.length d.y.c4, .string (⟨#[]⟩), .slice d.ro d.rl.length d.rc, .slice d.lo ts.length d.lc]) (L' := (.obj g2 (.cells #[.int .i64 d.k, .int .i64 d.n, .bool d.y.q.b1, .slice d.y.o1 d.y.q.t1.length d.y.c1, .slice d.y.o2 d.y.q.q1.length d.y.c2, .bool d.y.q.b2, .slice d.y.o3 d.y.q.t2.length d.y.c3, .slice d.y.o4 d.y.q.q2.length d.y.c4, .string (⟨#[]⟩), .slice d.ro d.rl.length d.rc, .slice d.lo ts.length d.lc] 30) :: [])) A M rfl rfl (ze rfl rfl rfl (by kernel_rfl) M 0 rfl rfl rfl) 0 rfl rfl rfl ?_
         intro w57 M
         refine qa ?_
         exact hJ6 _ _ ⟨true, d.n, d.y.q.b1, d.y.o1, d.y.q.t1.length, d.y.c1, d.y.o2, d.y.q.q1.length, d.y.c2, d.y.q.b2, d.y.o3, d.y.q.t2.length, d.y.c3, d.y.o4, d.y.q.q2.length, d.y.c4, ⟨#[]⟩, d.ro, d.rl.length, d.rc, d.lo, ts.length, d.lc, ⟨by
          unfold jo
          repeat (first | rw [if_pos (by omega)] | rw [if_neg (by omega)])
          first | rfl | rw [hb54], by first | exact hq1 | decide, by first | exact hq2 | decide, by first | exact hq3 | decide, by first | exact hq4 | decide⟩, A.keep _ ⟨rfl, rfl, rfl, rfl, trivial⟩, M⟩
        ·
         refine gcl A M (ef rfl rfl) (ku hok.smax (hT.below M.bel) hb54) fun w59 hb58 M a A => ?_
         refine sda A λa A↦?_
         refine sdo (v := .pointer (some ⟨g2, 8, none⟩)) A (qb TrB_fld_30_3 rfl rfl) λa A↦?_
         refine zu (us := [.int .i64 d.k, .int .i64 d.n, .bool d.y.q.b1, .slice d.y.o1 d.y.q.t1.length d.y.c1, .slice d.y.o2 d.y.q.q1.length d.y.c2, .bool d.y.q.b2, .slice d.y.o3 d.y.q.t2.length d.y.c3, .slice d.y.o4 d.y.q.q2.length d.y.c4, .string (⟨#[]⟩), .slice d.ro d.rl.length d.rc, .slice d.lo ts.length d.lc]) (L' := (.obj g2 (.cells #[.int .i64 d.k, .int .i64 d.n, .bool d.y.q.b1, .slice d.y.o1 d.y.q.t1.length d.y.c1, .slice d.y.o2 d.y.q.q1.length d.y.c2, .bool d.y.q.b2, .slice d.y.o3 d.y.q.t2.length d.y.c3, .slice d.y.o4 d.y.q.q2.length d.y.c4, .string (⟨#[]⟩), .slice d.ro d.rl.length d.rc, .slice d.lo ts.length d.lc] 30) :: [])) A M rfl rfl (ze rfl rfl rfl (by kernel_rfl) M 0 rfl rfl rfl) 0 rfl rfl rfl ?_
         intro w60 M
         refine qa ?_
         exact hJ6 _ _ ⟨false, d.n, d.y.q.b1, d.y.o1, d.y.q.t1.length, d.y.c1, d.y.o2, d.y.q.q1.length, d.y.c2, d.y.q.b2, d.y.o3, d.y.q.t2.length, d.y.c3, d.y.o4, d.y.q.q2.length, d.y.c4, ⟨#[]⟩, d.ro, d.rl.length, d.rc, d.lo, ts.length, d.lc, ⟨by
          unfold jo
          repeat (first | rw [if_pos (by omega)] | rw [if_neg (by omega)])
          first | rfl | rw [hb54], by first | exact hq1 | decide, by first | exact hq2 | decide, by first | exact hq3 | decide, by first | exact hq4 | decide⟩, A.keep _ ⟨rfl, rfl, rfl, rfl, trivial⟩, M⟩
       ·
        have hb53' := ne_of_beq_false hb53
        refine sdc A qp hb53 λa A↦?_
        refine sda A λa A↦?_
        refine qa (hK52 _ _ (wp_cond_false (A.ev rfl) ?_))
        refine wrl ?_
        rcases tf ((d.k == 11)) with hb61 | hb61
        ·
         have hb61' := eq_of_beq hb61
         refine sdc A qp hb61 λa A↦?_
         refine sda A λa A↦?_
         refine qa (hK42 _ _ (wp_cond_true (A.ev rfl) ?_))
         refine wrl (sdo (v := .pointer (some ⟨g2, 8, none⟩)) A (qb TrB_fld_30_3 rfl rfl) λa A↦?_)
         refine sdo A (ql M TrB_is1_9 rfl 0 rfl rfl) λa A↦?_
         rcases tf (okS d.s) with hb62 | hb62
         ·
          refine gcl A M (ef rfl rfl) (ku hok.smax (hT.below M.bel) hb62) fun w64 hb63 M a A => ?_
          refine sda A λa A↦?_
          refine sdo (v := .pointer (some ⟨g2, 8, none⟩)) A (qb TrB_fld_30_3 rfl rfl) λa A↦?_
          refine zu (us := [.int .i64 d.k, .int .i64 d.n, .bool d.y.q.b1, .slice d.y.o1 d.y.q.t1.length d.y.c1, .slice d.y.o2 d.y.q.q1.length d.y.c2, .bool d.y.q.b2, .slice d.y.o3 d.y.q.t2.length d.y.c3, .slice d.y.o4 d.y.q.q2.length d.y.c4, .string (⟨#[]⟩), .slice d.ro d.rl.length d.rc, .slice d.lo ts.length d.lc]) (L' := (.obj g2 (.cells #[.int .i64 d.k, .int .i64 d.n, .bool d.y.q.b1, .slice d.y.o1 d.y.q.t1.length d.y.c1, .slice d.y.o2 d.y.q.q1.length d.y.c2, .bool d.y.q.b2, .slice d.y.o3 d.y.q.t2.length d.y.c3, .slice d.y.o4 d.y.q.q2.length d.y.c4, .string (⟨#[]⟩), .slice d.ro d.rl.length d.rc, .slice d.lo ts.length d.lc] 30) :: [])) A M rfl rfl (ze rfl rfl rfl (by kernel_rfl) M 0 rfl rfl rfl) 0 rfl rfl rfl ?_
          intro w65 M
          refine qa ?_
          exact hJ6 _ _ ⟨true, d.n, d.y.q.b1, d.y.o1, d.y.q.t1.length, d.y.c1, d.y.o2, d.y.q.q1.length, d.y.c2, d.y.q.b2, d.y.o3, d.y.q.t2.length, d.y.c3, d.y.o4, d.y.q.q2.length, d.y.c4, ⟨#[]⟩, d.ro, d.rl.length, d.rc, d.lo, ts.length, d.lc, ⟨by
           unfold jo
           repeat (first | rw [if_pos (by omega)] | rw [if_neg (by omega)])
           first | rfl | rw [hb62], by first | exact hq1 | decide, by first | exact hq2 | decide, by first | exact hq3 | decide, by first | exact hq4 | decide⟩, A.keep _ ⟨rfl, rfl, rfl, rfl, trivial⟩, M⟩
         ·
          refine gcl A M (ef rfl rfl) (ku hok.smax (hT.below M.bel) hb62) fun w67 hb66 M a A => ?_
          refine sda A λa A↦?_
          refine sdo (v := .pointer (some ⟨g2, 8, none⟩)) A (qb TrB_fld_30_3 rfl rfl) λa A↦?_
          refine zu (us := [.int .i64 d.k, .int .i64 d.n, .bool d.y.q.b1, .slice d.y.o1 d.y.q.t1.length d.y.c1, .slice d.y.o2 d.y.q.q1.length d.y.c2, .bool d.y.q.b2, .slice d.y.o3 d.y.q.t2.length d.y.c3, .slice d.y.o4 d.y.q.q2.length d.y.c4, .string (⟨#[]⟩), .slice d.ro d.rl.length d.rc, .slice d.lo ts.length d.lc]) (L' := (.obj g2 (.cells #[.int .i64 d.k, .int .i64 d.n, .bool d.y.q.b1, .slice d.y.o1 d.y.q.t1.length d.y.c1, .slice d.y.o2 d.y.q.q1.length d.y.c2, .bool d.y.q.b2, .slice d.y.o3 d.y.q.t2.length d.y.c3, .slice d.y.o4 d.y.q.q2.length d.y.c4, .string (⟨#[]⟩), .slice d.ro d.rl.length d.rc, .slice d.lo ts.length d.lc] 30) :: [])) A M rfl rfl (ze rfl rfl rfl (by kernel_rfl) M 0 rfl rfl rfl) 0 rfl rfl rfl ?_
          intro w68 M
          refine qa ?_
          exact hJ6 _ _ ⟨false, d.n, d.y.q.b1, d.y.o1, d.y.q.t1.length, d.y.c1, d.y.o2, d.y.q.q1.length, d.y.c2, d.y.q.b2, d.y.o3, d.y.q.t2.length, d.y.c3, d.y.o4, d.y.q.q2.length, d.y.c4, ⟨#[]⟩, d.ro, d.rl.length, d.rc, d.lo, ts.length, d.lc, ⟨by
           unfold jo
           repeat (first | rw [if_pos (by omega)] | rw [if_neg (by omega)])
           first | rfl | rw [hb62], by first | exact hq1 | decide, by first | exact hq2 | decide, by first | exact hq3 | decide, by first | exact hq4 | decide⟩, A.keep _ ⟨rfl, rfl, rfl, rfl, trivial⟩, M⟩
        ·
         have hb61' := ne_of_beq_false hb61
         refine sdc A qp hb61 λa A↦?_
         refine sda A λa A↦?_
         refine qa (hK42 _ _ (wp_cond_false (A.ev rfl) ?_))
         refine wsk fun K69 hK69 => wrl ?_
         rcases tf ((d.k == 7)) with hb70 | hb70
         ·
          have hb70' := eq_of_beq hb70
          refine sdc A qp hb70 λa A↦?_
          refine sda A λa A↦?_
          refine qa (hK69 _ _ (wp_cond_true (A.ev rfl) ?_))
          refine wrl (sdo (v := .pointer (some ⟨g2, 9, none⟩)) A (qb TrB_fld_30_4 rfl rfl) λa A↦?_)
          refine zu (us := [.int .i64 d.k, .int .i64 d.n, .bool d.y.q.b1, .slice d.y.o1 d.y.q.t1.length d.y.c1, .slice d.y.o2 d.y.q.q1.length d.y.c2, .bool d.y.q.b2, .slice d.y.o3 d.y.q.t2.length d.y.c3, .slice d.y.o4 d.y.q.q2.length d.y.c4, .string d.s, .slice none 0 0, .slice d.lo ts.length d.lc]) (L' := (.obj g2 (.cells #[.int .i64 d.k, .int .i64 d.n, .bool d.y.q.b1, .slice d.y.o1 d.y.q.t1.length d.y.c1, .slice d.y.o2 d.y.q.q1.length d.y.c2, .bool d.y.q.b2, .slice d.y.o3 d.y.q.t2.length d.y.c3, .slice d.y.o4 d.y.q.q2.length d.y.c4, .string d.s, .slice none 0 0, .slice d.lo ts.length d.lc] 30) :: [])) A M rfl rfl (ze rfl rfl rfl (by kernel_rfl) M 0 rfl rfl rfl) 0 rfl rfl rfl ?_
          intro w71 M
          refine qa ?_
          exact hJ6 _ _ ⟨true, d.n, d.y.q.b1, d.y.o1, d.y.q.t1.length, d.y.c1, d.y.o2, d.y.q.q1.length, d.y.c2, d.y.q.b2, d.y.o3, d.y.q.t2.length, d.y.c3, d.y.o4, d.y.q.q2.length, d.y.c4, d.s, none, 0, 0, d.lo, ts.length, d.lc, ⟨by
           unfold jo
           repeat (first | rw [if_pos (by omega)] | rw [if_neg (by omega)])
           first | rfl, by first | exact hq1 | decide, by first | exact hq2 | decide, by first | exact hq3 | decide, by first | exact hq4 | decide⟩, A.keep _ ⟨rfl, rfl, rfl, rfl, trivial⟩, M⟩
         ·
          have hb70' := ne_of_beq_false hb70
          refine sdc A qp hb70 λa A↦?_
          refine sda A λa A↦?_
          refine qa (hK69 _ _ (wp_cond_false (A.ev rfl) ?_))
          refine wsk fun K72 hK72 => wrl ?_
          rcases tf ((d.k == 8)) with hb73 | hb73
          ·
           have hb73' := eq_of_beq hb73
           refine sdc A qp hb73 λa A↦?_
           refine sda A λa A↦?_
           refine qa (hK72 _ _ (wp_cond_true (A.ev rfl) ?_))
           refine wrl (sdo (v := .pointer (some ⟨g2, 10, none⟩)) A (qb TrB_fld_30_5 rfl rfl) λa A↦?_)
           refine sdo A (ql M TrB_is1_22 rfl 0 rfl rfl) λa A↦?_
           refine sdo A (zf Tryz.underlying22 rfl) λa A↦?_
           rcases tf ((((ts.length : Nat) : Int) == 2)) with hb74 | hb74
           ·
            have hb74' := eq_of_beq hb74
            refine sdc A qp hb74 λa A↦?_
            refine sda A λa A↦?_
            refine sdo (v := .pointer (some ⟨g2, 10, none⟩)) A (qb TrB_fld_30_5 rfl rfl) λa A↦?_
            refine zu (us := [.int .i64 d.k, .int .i64 d.n, .bool d.y.q.b1, .slice d.y.o1 d.y.q.t1.length d.y.c1, .slice d.y.o2 d.y.q.q1.length d.y.c2, .bool d.y.q.b2, .slice d.y.o3 d.y.q.t2.length d.y.c3, .slice d.y.o4 d.y.q.q2.length d.y.c4, .string d.s, .slice d.ro d.rl.length d.rc, .slice none 0 0]) (L' := (.obj g2 (.cells #[.int .i64 d.k, .int .i64 d.n, .bool d.y.q.b1, .slice d.y.o1 d.y.q.t1.length d.y.c1, .slice d.y.o2 d.y.q.q1.length d.y.c2, .bool d.y.q.b2, .slice d.y.o3 d.y.q.t2.length d.y.c3, .slice d.y.o4 d.y.q.q2.length d.y.c4, .string d.s, .slice d.ro d.rl.length d.rc, .slice none 0 0] 30) :: [])) A M rfl rfl (ze rfl rfl rfl (by kernel_rfl) M 0 rfl rfl rfl) 0 rfl rfl rfl ?_
            intro w75 M
            refine qa ?_
            exact hJ6 _ _ ⟨true, d.n, d.y.q.b1, d.y.o1, d.y.q.t1.length, d.y.c1, d.y.o2, d.y.q.q1.length, d.y.c2, d.y.q.b2, d.y.o3, d.y.q.t2.length, d.y.c3, d.y.o4, d.y.q.q2.length, d.y.c4, d.s, d.ro, d.rl.length, d.rc, none, 0, 0, ⟨by
             unfold jo
             repeat (first | rw [if_pos (by omega)] | rw [if_neg (by omega)])
             first | rfl | (rw [decide_eq_true (show (ts.length = 2) by omega)]), by first | exact hq1 | decide, by first | exact hq2 | decide, by first | exact hq3 | decide, by first | exact hq4 | decide⟩, A.keep _ ⟨rfl, rfl, rfl, rfl, trivial⟩, M⟩
           ·
            have hb74' := ne_of_beq_false hb74
            refine sdc A qp hb74 λa A↦?_
            refine sda A λa A↦?_
            refine sdo (v := .pointer (some ⟨g2, 10, none⟩)) A (qb TrB_fld_30_5 rfl rfl) λa A↦?_
            refine zu (us := [.int .i64 d.k, .int .i64 d.n, .bool d.y.q.b1, .slice d.y.o1 d.y.q.t1.length d.y.c1, .slice d.y.o2 d.y.q.q1.length d.y.c2, .bool d.y.q.b2, .slice d.y.o3 d.y.q.t2.length d.y.c3, .slice d.y.o4 d.y.q.q2.length d.y.c4, .string d.s, .slice d.ro d.rl.length d.rc, .slice none 0 0]) (L' := (.obj g2 (.cells #[.int .i64 d.k, .int .i64 d.n, .bool d.y.q.b1, .slice d.y.o1 d.y.q.t1.length d.y.c1, .slice d.y.o2 d.y.q.q1.length d.y.c2, .bool d.y.q.b2, .slice d.y.o3 d.y.q.t2.length d.y.c3, .slice d.y.o4 d.y.q.q2.length d.y.c4, .string d.s, .slice d.ro d.rl.length d.rc, .slice none 0 0] 30) :: [])) A M rfl rfl (ze rfl rfl rfl (by kernel_rfl) M 0 rfl rfl rfl) 0 rfl rfl rfl ?_
            intro w76 M
            refine qa ?_
            exact hJ6 _ _ ⟨false, d.n, d.y.q.b1, d.y.o1, d.y.q.t1.length, d.y.c1, d.y.o2, d.y.q.q1.length, d.y.c2, d.y.q.b2, d.y.o3, d.y.q.t2.length, d.y.c3, d.y.o4, d.y.q.q2.length, d.y.c4, d.s, d.ro, d.rl.length, d.rc, none, 0, 0, ⟨by
             unfold jo
             repeat (first | rw [if_pos (by omega)] | rw [if_neg (by omega)])
             first | rfl | (rw [decide_eq_false (show ¬ (ts.length = 2) by omega)]), by first | exact hq1 | decide, by first | exact hq2 | decide, by first | exact hq3 | decide, by first | exact hq4 | decide⟩, A.keep _ ⟨rfl, rfl, rfl, rfl, trivial⟩, M⟩
          ·
           have hb73' := ne_of_beq_false hb73
           refine sdc A qp hb73 λa A↦?_
           refine sda A λa A↦?_
           refine qa (hK72 _ _ (wp_cond_false (A.ev rfl) ?_))
           refine wsk fun K77 hK77 => wrl ?_
           rcases tf ((d.k == 9)) with hb78 | hb78
           ·
            have hb78' := eq_of_beq hb78
            refine sdc A qp hb78 λa A↦?_
            refine sda A λa A↦?_
            refine qa (hK77 _ _ (wp_cond_true (A.ev rfl) ?_))
            refine wrl (sdo (v := .pointer (some ⟨g2, 10, none⟩)) A (qb TrB_fld_30_5 rfl rfl) λa A↦?_)
            refine zu (us := [.int .i64 d.k, .int .i64 d.n, .bool d.y.q.b1, .slice d.y.o1 d.y.q.t1.length d.y.c1, .slice d.y.o2 d.y.q.q1.length d.y.c2, .bool d.y.q.b2, .slice d.y.o3 d.y.q.t2.length d.y.c3, .slice d.y.o4 d.y.q.q2.length d.y.c4, .string d.s, .slice d.ro d.rl.length d.rc, .slice none 0 0]) (L' := (.obj g2 (.cells #[.int .i64 d.k, .int .i64 d.n, .bool d.y.q.b1, .slice d.y.o1 d.y.q.t1.length d.y.c1, .slice d.y.o2 d.y.q.q1.length d.y.c2, .bool d.y.q.b2, .slice d.y.o3 d.y.q.t2.length d.y.c3, .slice d.y.o4 d.y.q.q2.length d.y.c4, .string d.s, .slice d.ro d.rl.length d.rc, .slice none 0 0] 30) :: [])) A M rfl rfl (ze rfl rfl rfl (by kernel_rfl) M 0 rfl rfl rfl) 0 rfl rfl rfl ?_
            intro w79 M
            refine qa ?_
            exact hJ6 _ _ ⟨true, d.n, d.y.q.b1, d.y.o1, d.y.q.t1.length, d.y.c1, d.y.o2, d.y.q.q1.length, d.y.c2, d.y.q.b2, d.y.o3, d.y.q.t2.length, d.y.c3, d.y.o4, d.y.q.q2.length, d.y.c4, d.s, d.ro, d.rl.length, d.rc, none, 0, 0, ⟨by
             unfold jo
             repeat (first | rw [if_pos (by omega)] | rw [if_neg (by omega)])
             first | rfl, by first | exact hq1 | decide, by first | exact hq2 | decide, by first | exact hq3 | decide, by first | exact hq4 | decide⟩, A.keep _ ⟨rfl, rfl, rfl, rfl, trivial⟩, M⟩
           ·
            have hb78' := ne_of_beq_false hb78
            refine sdc A qp hb78 λa A↦?_
            refine sda A λa A↦?_
            refine qa (hK77 _ _ (wp_cond_false (A.ev rfl) ?_))
            refine wrl (sda A λa A↦?_)
            refine qa ?_
            exact hJ6 _ _ ⟨false, d.n, d.y.q.b1, d.y.o1, d.y.q.t1.length, d.y.c1, d.y.o2, d.y.q.q1.length, d.y.c2, d.y.q.b2, d.y.o3, d.y.q.t2.length, d.y.c3, d.y.o4, d.y.q.q2.length, d.y.c4, d.s, d.ro, d.rl.length, d.rc, d.lo, ts.length, d.lc, ⟨by
             unfold jo
             repeat (first | rw [if_pos (by omega)] | rw [if_neg (by omega)])
             first | rfl, by first | exact hq1 | decide, by first | exact hq2 | decide, by first | exact hq3 | decide, by first | exact hq4 | decide⟩, A.keep _ ⟨rfl, rfl, rfl, rfl, trivial⟩, M⟩
theorem TrC_is1_22 : Is1 Tryz.prog 22 := ⟨⟨_, Tryz.underlying22, rfl⟩, by kernel_rfl⟩
theorem TrC_fld_30_5 : FieldAt Tryz.prog 30 5 10 := ⟨_, _, Tryz.underlying30, rfl, rfl, by kernel_rfl⟩
theorem TrC_isS_30 : IsS Tryz.prog 30 11 := ⟨⟨_, Tryz.underlying30⟩, by kernel_rfl⟩
theorem Mg.here {w0 w : World} {L : List Ck} (h : Mg w0 w L) (k : Nat) {g : Nat} {cs : List Value} {t : TypeId} (hk : L[k]? = some (.obj g (.cells cs.toArray t))) : Here w g 0 cs := ⟨(Array.getElem?_eq_some_iff.1 (h.obj k hk)).1, fun j v hj => by rw [Nat.zero_add]; exact h.cell k hk j hj⟩
def Through (t : Dt) : Prop := ∀ {w : World}, t.rd w → Tabs8 w → Calls Tryz.prog 80 #[.agg t.cells.toArray] w fun e w' => e = .returned (.bool (xv qn t.tr)) ∧ Below w.heap.size w w'
theorem qgh : ∀ t : Dt, Through t := Dt.indT fun d ts ih => by
 intro w hrd hT
 have hok := (Dt.rd_iff.1 hrd)
 have hlen : ts.length ≤ 9223372036854775807 := Nat.le_trans hok.2.1 hok.2.2.1
 have M : Mg w w ([]) := Mg.start w
 refine qm (l := [(0, .agg (d.cells ts.length).toArray)]) Tryz.func80 rfl Tryz.ntmps80 rfl rfl ?_
 intro Q hret hnorm hP a A
 refine wsk fun K1 hK1 => wrl (ja (vs := [.int .i64 d.k, .int .i64 d.n, .bool d.y.q.b1, .slice d.y.o1 d.y.q.t1.length d.y.c1, .slice d.y.o2 d.y.q.q1.length d.y.c2, .bool d.y.q.b2, .slice d.y.o3 d.y.q.t2.length d.y.c3, .slice d.y.o4 d.y.q.q2.length d.y.c4, .string d.s, .slice d.ro d.rl.length d.rc, .slice d.lo ts.length d.lc]) (t := 30) A M rfl rfl rfl pg (qs rfl rfl) (by decide) ?_)
 intro g2 w3 M a A
 refine sda A λa A↦?_
 refine qa (hK1 _ _ (wsk fun K4 hK4 => wsk fun K5 hK5 => wrl (sdo A (zg M TrC_isS_30 rfl 0 rfl (cs := [.int .i64 d.k, .int .i64 d.n, .bool d.y.q.b1, .slice d.y.o1 d.y.q.t1.length d.y.c1, .slice d.y.o2 d.y.q.q1.length d.y.c2, .bool d.y.q.b2, .slice d.y.o3 d.y.q.t2.length d.y.c3, .slice d.y.o4 d.y.q.q2.length d.y.c4, .string d.s, .slice d.ro d.rl.length d.rc, .slice d.lo ts.length d.lc]) rfl rfl) λa A↦?_)))
 rcases tf (jo d.k d.n d.y.q d.s d.rl.length ts.length) with hb6 | hb6
 ·
  refine gcl A M (ef rfl rfl) ((hb6 ▸ qjj (ts := ts) (hok.1.below M.bel) (hT.below M.bel))) fun w8 hb7 M a A => ?_
  refine sdo (v := .bool false) A (zk rfl zx) λa A↦?_
  refine qa (hK5 _ _ (wp_cond_false (A.ev rfl) ?_))
  refine wp_skip (hK4 _ _ (wsk fun K9 hK9 => wsk fun K10 hK10 => wrl (sdo (v := .pointer (some ⟨g2, 10, none⟩)) A (qb TrC_fld_30_5 rfl rfl) λa A↦?_)))
  refine sdo A (ql M TrC_is1_22 rfl 0 rfl rfl) λa A↦?_
  refine sdo A (zf Tryz.underlying22 rfl) λa A↦?_
  refine sdm A λa A↦?_
  refine qa (hK10 _ _ (wp_block (zw (fun m_ a w1 => ∃ (i : Nat), m_ = 1 + (ts.length - i) ∧ (i ≤ ts.length ∧ uy qn ((ts.map Dt.tr).drop 0) = uy qn ((ts.map Dt.tr).drop i)) ∧ Sl a 19 [(0, .agg (d.cells ts.length).toArray), (1, .pointer (some ⟨g2, 0, none⟩)), (5, .agg (d.cells ts.length).toArray), (6, .bool true), (7, .bool false), (8, .pointer (some ⟨g2, 10, none⟩)), (9, .slice d.lo ts.length d.lc), (10, .int .i64 (((ts.length : Nat) : Int))), (11, .int .i64 (((i : Nat) : Int)))] ∧ Mg w w1 (.obj g2 (.cells (d.cells ts.length).toArray 30) :: [])) _ ⟨0, rfl, ⟨Nat.zero_le _, rfl⟩, A.keep _ (by repeat' constructor), M⟩ ?_)))
  clear M A
  rintro m_ a w11 ⟨i, rfl, hinv13, A, M⟩ K12 hK12
  obtain ⟨hi0, hin9⟩ := hinv13
  refine wsk fun K14 hK14 => wrl ?_
  rcases tf (decide (((i : Nat) : Int) < ((ts.length : Nat) : Int))) with hb15 | hb15
  ·
   have hb15' := of_decide_eq_true hb15
   refine sdc A qz hb15 λa A↦?_
   refine qa (hK14 _ _ (wsk fun K16 hK16 => wp_cond_true (A.ev rfl) ?_))
   refine wp_skip (hK16 _ _ (wsk fun K17 hK17 => wp_block (wsk fun K18 hK18 => ?_)))
   obtain ⟨t1, b1, o1, hi1, hm1, hr1, hl1, hH1⟩ := kid hrd (i := i) (by omega)
   refine wrl (sdo (v := .pointer (some ⟨b1, o1 + i * 11, none⟩)) A (zl (k := i) Tryz.underlying22 (by kernel_rfl) rfl rfl rfl hl1 (by omega)) λa A↦?_)
   refine sdo A (jd M hH1 TrC_isS_30 rfl rfl) λa A↦?_
   refine ja (vs := [.int .i64 0, .int .i64 0, .bool false, .slice none 0 0, .slice none 0 0, .bool false, .slice none 0 0, .slice none 0 0, .string (⟨#[]⟩), .slice none 0 0, .slice none 0 0]) (t := 30) A M rfl rfl rfl pg (qk (z := .agg #[.int .i64 0, .int .i64 0, .bool false, .slice none 0 0, .slice none 0 0, .bool false, .slice none 0 0, .slice none 0 0, .string (⟨#[]⟩), .slice none 0 0, .slice none 0 0]) (by kernel_rfl) rfl) (by decide) ?_
   intro g19 w20 M a A
   refine zu (us := [.int .i64 t1.d.k, .int .i64 t1.d.n, .bool t1.d.y.q.b1, .slice t1.d.y.o1 t1.d.y.q.t1.length t1.d.y.c1, .slice t1.d.y.o2 t1.d.y.q.q1.length t1.d.y.c2, .bool t1.d.y.q.b2, .slice t1.d.y.o3 t1.d.y.q.t2.length t1.d.y.c3, .slice t1.d.y.o4 t1.d.y.q.q2.length t1.d.y.c4, .string t1.d.s, .slice t1.d.ro t1.d.rl.length t1.d.rc, .slice t1.d.lo t1.ts.length t1.d.lc]) (L' := (.obj g19 (.cells (t1.d.cells t1.ts.length).toArray 30) :: .obj g2 (.cells (d.cells ts.length).toArray 30) :: [])) A M rfl rfl (ze rfl rfl rfl (by kernel_rfl) M 0 rfl rfl rfl) 0 rfl rfl rfl ?_
   intro w21 M
   refine qa (hK18 _ _ (wsk fun K22 hK22 => wrl (sdo A (zg M TrC_isS_30 rfl 0 rfl (cs := [.int .i64 t1.d.k, .int .i64 t1.d.n, .bool t1.d.y.q.b1, .slice t1.d.y.o1 t1.d.y.q.t1.length t1.d.y.c1, .slice t1.d.y.o2 t1.d.y.q.q1.length t1.d.y.c2, .bool t1.d.y.q.b2, .slice t1.d.y.o3 t1.d.y.q.t2.length t1.d.y.c3, .slice t1.d.y.o4 t1.d.y.q.q2.length t1.d.y.c4, .string t1.d.s, .slice t1.d.ro t1.d.rl.length t1.d.rc, .slice t1.d.lo t1.ts.length t1.d.lc]) rfl rfl) λa A↦?_)))
   rcases tf (xv qn t1.tr) with hb23 | hb23
   ·
    refine gcl A M (ef rfl rfl) ((hb23 ▸ ih t1 hm1 (Dt.keep M.bel _ hr1) (hT.below M.bel))) fun w25 hb24 M a A => ?_
    refine sdo (v := .bool false) A (zk rfl zx) λa A↦?_
    refine qa (hK22 _ _ (wp_cond_false (A.ev rfl) ?_))
    refine wp_skip (hK17 _ _ (wrl (sdo (v := .int .i64 (((i + 1 : Nat) : Int))) A (qf rfl rfl (fun w => (xb (kd (by omega) (by omega)) w).trans (by rw [show (((i : Nat) : Int) + 1 : Int) = ((i + 1 : Nat) : Int) from by omega]))) λa A↦?_)))
    refine sdm A λa A↦?_
    refine qa ?_
    replace M : Mg w w25 (.obj g2 (.cells (d.cells ts.length).toArray 30) :: []) := by
     have h9 := M.sub (cn (cc (.refl _)))
     exact h9
    refine hK12 _ _ _ (by omega) ⟨i + 1, rfl, ⟨by omega, by rw [hin9, zaj hi1, hb23, Bool.true_and]⟩, A.keep _ (by repeat' constructor), M⟩
   ·
    refine gcl A M (ef rfl rfl) ((hb23 ▸ ih t1 hm1 (Dt.keep M.bel _ hr1) (hT.below M.bel))) fun w27 hb26 M a A => ?_
    refine sdo (v := .bool true) A (zk rfl zx) λa A↦?_
    refine qa (hK22 _ _ (wp_cond_true (A.ev rfl) ?_))
    refine wsk fun K28 hK28 => wrl (sda A λa A↦?_)
    refine qa (hK28 _ _ (wp_ret (hret _ _ (en1 A rfl (qh rfl) ?_))))
    rw [show xv qn (Dt.mk d ts).tr = false from by rw [qhh, qbd, hb6, Bool.true_and, hin9, zaj hi1, hb23, Bool.false_and]]
    exact ⟨rfl, M.bel⟩
  ·
   have hb15' := of_decide_eq_false hb15
   refine sdc A qz hb15 λa A↦?_
   refine qa (hK14 _ _ (wsk fun K29 hK29 => wp_cond_false (A.ev rfl) ?_))
   refine wp_exit (hK9 _ _ (wsk fun K30 hK30 => wrl (sda A λa A↦?_)))
   refine qa (hK30 _ _ (wp_ret (hret _ _ (en1 A rfl (qh rfl) ?_))))
   rw [show xv qn (Dt.mk d ts).tr = true from by rw [qhh, qbd, hb6, Bool.true_and, hin9, qbc (by omega), uy]]
   exact ⟨rfl, M.bel⟩
 ·
  refine gcl A M (ef rfl rfl) ((hb6 ▸ qjj (ts := ts) (hok.1.below M.bel) (hT.below M.bel))) fun w32 hb31 M a A => ?_
  refine sdo (v := .bool true) A (zk rfl zx) λa A↦?_
  refine qa (hK5 _ _ (wp_cond_true (A.ev rfl) ?_))
  refine wsk fun K33 hK33 => wrl (sda A λa A↦?_)
  refine qa (hK33 _ _ (wp_ret (hret _ _ (en1 A rfl (qh rfl) ?_))))
  rw [show xv qn (Dt.mk d ts).tr = false from by rw [qhh, qbd, hb6, Bool.false_and]]
  exact ⟨rfl, M.bel⟩
theorem qth {w : World} {d : Nd} {ts : List Dt} (hrd : (Dt.mk d ts).rd w) : Calls Tryz.prog 79 #[.agg (d.cells ts.length).toArray] w fun e w' => e = .returned (.bool (jt 1 20000 (Dt.mk d ts).tr).1) ∧ Below w.heap.size w w' := by
 have M : Mg w w ([]) := Mg.start w
 refine qm (l := [(0, .agg (d.cells ts.length).toArray)]) Tryz.func79 rfl Tryz.ntmps79 rfl rfl ?_
 intro Q hret hnorm hP a A
 refine wsk fun K1 hK1 => wrl (ja (vs := [.int .i64 d.k, .int .i64 d.n, .bool d.y.q.b1, .slice d.y.o1 d.y.q.t1.length d.y.c1, .slice d.y.o2 d.y.q.q1.length d.y.c2, .bool d.y.q.b2, .slice d.y.o3 d.y.q.t2.length d.y.c3, .slice d.y.o4 d.y.q.q2.length d.y.c4, .string d.s, .slice d.ro d.rl.length d.rc, .slice d.lo ts.length d.lc]) (t := 30) A M rfl rfl rfl pg (qs rfl rfl) (by decide) ?_)
 intro g2 w3 M a A
 refine sda A λa A↦?_
 refine qa (hK1 _ _ (wsk fun K4 hK4 => ?_))
 have hB1 := M.bel
 have hH1 := M.here 0 (cs := d.cells ts.length) rfl
 replace M : Mg w3 w3 [] := Mg.start w3
 refine wrl (ja (vs := [.int .i64 0]) (t := 3) A M rfl rfl rfl pg (qk (z := .int .i64 0) (by kernel_rfl) rfl) (by decide) ?_)
 intro g5 w6 M a A
 refine zu (us := [.int .i64 20000]) (L' := (.obj g5 (.cells #[.int .i64 20000] 3) :: [])) A M rfl rfl (ze rfl rfl rfl (by kernel_rfl) M 0 rfl rfl rfl) 0 rfl rfl rfl ?_
 intro w7 M
 refine qa (hK4 _ _ (wsk fun K8 hK8 => wrl (sct A (ef rfl rfl) (qyd (Dt.mk d ts) (Dt.keep hB1 _ hrd) hH1 M (by omega) (by omega) (by omega) (by omega)) ?_)))
 rintro _ w10 ⟨rfl, hM9⟩
 replace M : Mg w3 w10 (.obj g5 (.cells #[.int .i64 ((jt 1 20000 (Dt.mk d ts).tr).2)] 3) :: []) := hM9
 refine ⟨_, rfl, ?_⟩
 intro a A
 refine sda A λa A↦?_
 refine qa (hK8 _ _ (wp_ret (hret _ _ (en1 A rfl (qh rfl) ?_))))
 exact ⟨rfl, hB1.trans (M.bel.mono hB1.size)⟩
theorem zkc {w : World} {d : Nd} {ts : List Dt} (hrd : (Dt.mk d ts).rd w) (hT : Tabs8 w) : Calls Tryz.prog 62 #[.agg (d.cells ts.length).toArray] w fun e w' => e = .returned (.bool (zd qn (Dt.mk d ts).tr)) ∧ Below w.heap.size w w' := by
 have M : Mg w w ([]) := Mg.start w
 refine qm (l := [(0, .agg (d.cells ts.length).toArray)]) Tryz.func62 rfl Tryz.ntmps62 rfl rfl ?_
 intro Q hret hnorm hP a A
 refine wsk fun K1 hK1 => wrl (ja (vs := [.int .i64 d.k, .int .i64 d.n, .bool d.y.q.b1, .slice d.y.o1 d.y.q.t1.length d.y.c1, .slice d.y.o2 d.y.q.q1.length d.y.c2, .bool d.y.q.b2, .slice d.y.o3 d.y.q.t2.length d.y.c3, .slice d.y.o4 d.y.q.q2.length d.y.c4, .string d.s, .slice d.ro d.rl.length d.rc, .slice d.lo ts.length d.lc]) (t := 30) A M rfl rfl rfl pg (qs rfl rfl) (by decide) ?_)
 intro g2 w3 M a A
 refine sda A λa A↦?_
 refine qa (hK1 _ _ (wsk fun K4 hK4 => wrl (sdo A (zg M TrC_isS_30 rfl 0 rfl (cs := [.int .i64 d.k, .int .i64 d.n, .bool d.y.q.b1, .slice d.y.o1 d.y.q.t1.length d.y.c1, .slice d.y.o2 d.y.q.q1.length d.y.c2, .bool d.y.q.b2, .slice d.y.o3 d.y.q.t2.length d.y.c3, .slice d.y.o4 d.y.q.q2.length d.y.c4, .string d.s, .slice d.ro d.rl.length d.rc, .slice d.lo ts.length d.lc]) rfl rfl) λa A↦?_)))
 rcases tf ((jt 1 20000 (Dt.mk d ts).tr).1) with hb5 | hb5
 ·
  refine gcl A M (ef rfl rfl) ((hb5 ▸ qth (Dt.keep M.bel _ hrd))) fun w7 hb6 M a A => ?_
  refine sdm A λa A↦?_
  refine sdo A (zg M TrC_isS_30 rfl 0 rfl (cs := [.int .i64 d.k, .int .i64 d.n, .bool d.y.q.b1, .slice d.y.o1 d.y.q.t1.length d.y.c1, .slice d.y.o2 d.y.q.q1.length d.y.c2, .bool d.y.q.b2, .slice d.y.o3 d.y.q.t2.length d.y.c3, .slice d.y.o4 d.y.q.q2.length d.y.c4, .string d.s, .slice d.ro d.rl.length d.rc, .slice d.lo ts.length d.lc]) rfl rfl) λa A↦?_
  rcases tf (xv qn (Dt.mk d ts).tr) with hb8 | hb8
  ·
   refine gcl A M (ef rfl rfl) ((hb8 ▸ qgh (Dt.mk d ts) (Dt.keep M.bel _ hrd) (hT.below M.bel))) fun w10 hb9 M a A => ?_
   refine sdk (v := .bool true) A λa A↦?_
   refine sda A λa A↦?_
   refine qa (hK4 _ _ (wp_ret (hret _ _ (en1 A rfl (qh rfl) ?_))))
   exact ⟨by unfold zd; simp_all, M.bel⟩
  ·
   refine gcl A M (ef rfl rfl) ((hb8 ▸ qgh (Dt.mk d ts) (Dt.keep M.bel _ hrd) (hT.below M.bel))) fun w12 hb11 M a A => ?_
   refine sdk (v := .bool false) A λa A↦?_
   refine sda A λa A↦?_
   refine qa (hK4 _ _ (wp_ret (hret _ _ (en1 A rfl (qh rfl) ?_))))
   exact ⟨by unfold zd; simp_all, M.bel⟩
 ·
  refine gcl A M (ef rfl rfl) ((hb5 ▸ qth (Dt.keep M.bel _ hrd))) fun w14 hb13 M a A => ?_
  refine sdm A λa A↦?_
  iterate 2 refine qx A rfl rfl rfl λa A↦?_
  refine sdk (v := .bool false) A λa A↦?_
  refine sda A λa A↦?_
  refine qa (hK4 _ _ (wp_ret (hret _ _ (en1 A rfl (qh rfl) ?_))))
  exact ⟨by unfold zd; simp_all, M.bel⟩
theorem sound_any {w : World} {t : Dt} (hrd : t.rd w) (hT : Tabs8 w) : Calls Tryz.prog 62 #[.agg t.cells.toArray] w fun e w' => e = .returned (.bool (zd qn t.tr)) ∧ Below w.heap.size w w' := by
 obtain ⟨d, ts⟩ := t
 exact zkc hrd hT
end Go.Proofs.YtipikhcmieboaaaGreatDoor.G
namespace Go.Proofs
open Go.Shelf
def Tryz.laysM316_ren : Go.Shelf.Ren := ⟨fun | 316 => 85 | n => n, fun | 9 => 9 | 3 => 3 | 4 => 4 | 37 => 28 | 0 => 0 | 127 => 103 | 5 => 5 | n => n, fun | n => n⟩
theorem Tryz.laysM316 : Go.Proofs.LaysM.n316 Tryz.prog Tryz.laysM316_ren := {
  mixed := by kernel_rfl
  f316 := Tryz.func85.trans (congrArg some (by kernel_rfl))
  t0 := Tryz.underlying0
  a0 := Tryz.isAgg0
  z0 := Tryz.sizeOf0
  v0 := Tryz.zeroValue0
  t3 := Tryz.underlying3
  a3 := Tryz.isAgg3
  z3 := Tryz.sizeOf3
  v3 := Tryz.zeroValue3
  t4 := Tryz.underlying4
  a4 := Tryz.isAgg4
  z4 := Tryz.sizeOf4
  v4 := Tryz.zeroValue4
  t9 := Tryz.underlying9
  a9 := Tryz.isAgg9
  z9 := Tryz.sizeOf9
  v9 := Tryz.zeroValue9
  t37 := Tryz.underlying28
  a37 := Tryz.isAgg28
  z37 := Tryz.sizeOf28
  v37 := Tryz.zeroValue28
  t127 := Tryz.underlying103
  a127 := Tryz.isAgg103
  z127 := Tryz.sizeOf103
  v127 := Tryz.zeroValue103
  t5 := Tryz.underlying5
  a5 := Tryz.isAgg5
  z5 := Tryz.sizeOf5
  v5 := Tryz.zeroValue5
  i0 := by kernel_rfl
  i3 := by kernel_rfl
  i4 := by kernel_rfl
  i5 := by kernel_rfl
  i9 := by kernel_rfl
  i37 := by kernel_rfl
  i127 := by kernel_rfl }
open Go.RowKit in
theorem Tryz.stringslite_Clone (s : ByteArray) (w : World) (hlim : s.size ≤ 281474976710656) :
    Calls Tryz.prog 85 #[.string s] w fun e w' => e = .returned (.string s) ∧ Below w.heap.size w w' := Any.stringslite_Clone Tryz.laysM316 s w hlim
end Go.Proofs
namespace Go.Proofs.YtipikhcmieboaaaGreatDoor.G
open Go.RowKit
set_option linter.unusedVariables false
set_option linter.unusedSimpArgs false
set_option maxRecDepth 100000
theorem LiA_is1_23 : Is1 Tryz.prog 23 := ⟨⟨_, Tryz.underlying23, rfl⟩, by kernel_rfl⟩
theorem LiA_is1_4 : Is1 Tryz.prog 4 := ⟨⟨_, Tryz.underlying4, rfl⟩, by kernel_rfl⟩
theorem LiA_fld_25_0 : FieldAt Tryz.prog 25 0 0 := ⟨_, _, Tryz.underlying25, rfl, rfl, by kernel_rfl⟩
theorem LiA_fld_25_1 : FieldAt Tryz.prog 25 1 1 := ⟨_, _, Tryz.underlying25, rfl, rfl, by kernel_rfl⟩
theorem LiA_fld_25_2 : FieldAt Tryz.prog 25 2 2 := ⟨_, _, Tryz.underlying25, rfl, rfl, by kernel_rfl⟩
theorem LiA_isS_25 : IsS Tryz.prog 25 3 := ⟨⟨_, Tryz.underlying25⟩, by kernel_rfl⟩
theorem zud {w : World} {so : Option Addr} {ca : Nat} {l : List UInt8} (hb : Rb w so l) (hl : l.length ≤ 1000000000) : Calls Tryz.prog 70 #[.slice so l.length ca] w fun e w' => ∃ v, e = .returned v ∧ Mg w w' [.row BY 1 v l.length (Lib.byteCells l)] := by
 have M : Mg w w ([]) := Mg.start w
 refine qm (l := [(0, .slice so l.length ca)]) Tryz.func70 rfl Tryz.ntmps70 rfl rfl ?_
 intro Q hret hnorm hP a A
 refine wsk fun K1 hK1 => wrl (sda A λa A↦?_)
 refine qa (hK1 _ _ (wsk fun K2 hK2 => wrl (sdm A λa A↦?_)))
 replace M := M.nilRow (jg jn) BY 1
 refine qba (e := BY) (sz := 1) (k := 0) (q := 0) (m := l.length) (xs := []) (news := Lib.byteCells l) (L' := fun v3 => (.row BY 1 (v3) (0 + l.length) ([] ++ Lib.byteCells l) :: [])) A rfl rfl rfl (qpg (z := .int .u8 0) (sz := 1) (by_ := 1) Tryz.underlying28 (by kernel_rfl) rfl rfl rfl M 0 rfl rfl rfl (zbi l) ((zji hb).below M.bel) (zfb l) (by omega)) (fun _ => rfl) ?_
 intro v3 w4 M a A
 refine sda A λa A↦?_
 refine qa (hK2 _ _ (wp_ret (hret _ _ (en1 A rfl (qh rfl) ?_))))
 exact ⟨_, rfl, by rw [Nat.zero_add, List.nil_append] at M; exact M⟩
theorem zue {w : World} {so : Option Addr} {ca : Nat} {l : List Nat} (hb : Rd w so l) (hl : l.length ≤ 1000000000) : Calls Tryz.prog 84 #[.slice so l.length ca] w fun e w' => ∃ v, e = .returned v ∧ Mg w w' [.row 87 1 v l.length (xh l)] := by
 have M : Mg w w ([]) := Mg.start w
 refine qm (l := [(0, .slice so l.length ca)]) Tryz.func84 rfl Tryz.ntmps84 rfl rfl ?_
 intro Q hret hnorm hP a A
 refine wsk fun K1 hK1 => wrl (sda A λa A↦?_)
 refine qa (hK1 _ _ (wsk fun K2 hK2 => wrl (sdm A λa A↦?_)))
 replace M := M.nilRow (jg jn) 87 1
 refine qba (e := 87) (sz := 1) (k := 0) (q := 0) (m := l.length) (xs := []) (news := xh l) (L' := fun v3 => (.row 87 1 (v3) (0 + l.length) ([] ++ xh l) :: [])) A rfl rfl rfl (qpg (z := .int .u32 0) (sz := 1) (by_ := 4) Tryz.underlying23 (by kernel_rfl) rfl rfl rfl M 0 rfl rfl rfl (zbh l) ((zjj hb).below M.bel) (vj l) (by omega)) (fun _ => rfl) ?_
 intro v3 w4 M a A
 refine sda A λa A↦?_
 refine qa (hK2 _ _ (wp_ret (hret _ _ (en1 A rfl (qh rfl) ?_))))
 exact ⟨_, rfl, by rw [Nat.zero_add, List.nil_append] at M; exact M⟩
theorem zsa {w : World} {so : Option Addr} {ca : Nat} {ts : List Dt} (hb : Rt w so ts) (hl : ts.length ≤ 1000000000) : Calls Tryz.prog 59 #[.slice so ts.length ca] w fun e w' => ∃ v, e = .returned v ∧ Mg w w' [.row 30 11 v ts.length (cellsOf ts)] := by
 have M : Mg w w ([]) := Mg.start w
 refine qm (l := [(0, .slice so ts.length ca)]) Tryz.func59 rfl Tryz.ntmps59 rfl rfl ?_
 intro Q hret hnorm hP a A
 refine wsk fun K1 hK1 => wrl (sda A λa A↦?_)
 refine qa (hK1 _ _ (wsk fun K2 hK2 => wrl (sdm A λa A↦?_)))
 replace M := M.nilRow (jg jn) 30 11
 refine qba (e := 30) (sz := 11) (k := 0) (q := 0) (m := ts.length) (xs := []) (news := cellsOf ts) (L' := fun v3 => (.row 30 11 (v3) (0 + ts.length) ([] ++ cellsOf ts) :: [])) A rfl rfl rfl (qpg (z := .agg #[.int .i64 0, .int .i64 0, .bool false, .slice none 0 0, .slice none 0 0, .bool false, .slice none 0 0, .slice none 0 0, .string ⟨#[]⟩, .slice none 0 0, .slice none 0 0]) (sz := 11) (by_ := 192) Tryz.underlying22 (by kernel_rfl) rfl rfl rfl M 0 rfl rfl rfl (ke ts) ((zuc hb).below M.bel) (qeg ts) (by omega)) (fun _ => rfl) ?_
 intro v3 w4 M a A
 refine sda A λa A↦?_
 refine qa (hK2 _ _ (wp_ret (hret _ _ (en1 A rfl (qh rfl) ?_))))
 exact ⟨_, rfl, by rw [Nat.zero_add, List.nil_append] at M; exact M⟩
theorem zpj {w : World} {so : Option Addr} {ca : Nat} {l : List UInt8} (hb : Rb w so l) (hl : l.length ≤ 1000000000) : Calls Tryz.prog 70 #[.slice so l.length ca] w fun e w' => ∃ so' ca', e = .returned (.slice so' l.length ca') ∧ (Rb w' so' l ∧ In (w.heap.size ≤ ·) so' l ∧ l.length ≤ ca' ∧ ca' ≤ 9223372036854775807) ∧ Below w.heap.size w w' := by
 refine (zud hb hl).mono ?_
 rintro _ w' ⟨v, rfl, M⟩
 obtain ⟨so', ca', rfl⟩ := qjd (M.has 0 rfl)
 exact ⟨so', ca', rfl, ⟨(zsc M 0 rfl).1, qya (M.has 0 rfl) _, zbj (M.has 0 rfl), zpg (M.has 0 rfl)⟩, M.bel⟩
theorem zca {w : World} {so : Option Addr} {ca : Nat} {l : List Nat} (hb : Rd w so l) (hl : l.length ≤ 1000000000) : Calls Tryz.prog 84 #[.slice so l.length ca] w fun e w' => ∃ so' ca', e = .returned (.slice so' l.length ca') ∧ (Sc w' so' ca' l ∧ In (w.heap.size ≤ ·) so' l) ∧ Below w.heap.size w w' := by
 refine (zue hb hl).mono ?_
 rintro _ w' ⟨v, rfl, M⟩
 obtain ⟨so', ca', rfl⟩ := qjd (M.has 0 rfl)
 exact ⟨so', ca', rfl, ⟨zsi hb.dig (M.has 0 rfl), qya (M.has 0 rfl) _⟩, M.bel⟩
theorem zcb {w : World} {b : Bool} {o1 o2 : Option Addr} {c1 c2 : Nat} {t q : List Nat} (h1 : Sc w o1 c1 t) (h2 : Sc w o2 c2 q) (l1 : t.length ≤ 1000000000) (l2 : q.length ≤ 1000000000) : Calls Tryz.prog 68 #[.agg #[.bool b, .slice o1 t.length c1, .slice o2 q.length c2]] w fun e w' => ∃ p1 d1 p2 d2, e = .returned (.agg #[.bool b, .slice p1 t.length d1, .slice p2 q.length d2]) ∧ (Sc w' p1 d1 t ∧ In (w.heap.size ≤ ·) p1 t ∧ Sc w' p2 d2 q ∧ In (w.heap.size ≤ ·) p2 q) ∧ Below w.heap.size w w' := by
 have M : Mg w w ([]) := Mg.start w
 refine qm (l := [(0, .agg #[.bool b, .slice o1 t.length c1, .slice o2 q.length c2])]) Tryz.func68 rfl Tryz.ntmps68 rfl rfl ?_
 intro Q hret hnorm hP a A
 refine wsk fun K1 hK1 => wrl (ja (vs := [.bool b, .slice o1 t.length c1, .slice o2 q.length c2]) (t := 25) A M rfl rfl rfl pg (qs rfl rfl) (by decide) ?_)
 intro g2 w3 M a A
 refine ja (vs := [.bool false, .slice none 0 0, .slice none 0 0]) (t := 25) A M rfl rfl rfl pg (qk (z := .agg #[.bool false, .slice none 0 0, .slice none 0 0]) (by kernel_rfl) rfl) (by decide) ?_
 intro g4 w5 M a A
 refine qa (hK1 _ _ (wsk fun K6 hK6 => jc (S := fun w1 => Mg w w1 (.obj g2 (.cells #[.bool b, .slice o1 t.length c1, .slice o2 q.length c2] 25) :: [])) (by kernel_rfl) ?_))
 replace M := M.drew
 refine qe (v := .pointer (some ⟨g2, 0, none⟩)) A 0 rfl rfl rfl rfl hP (M.sub (cn (cc (List.nil_sublist _)))) (fun w1 M => qb LiA_fld_25_0 rfl rfl) λa A↦?_
 refine qe A 1 rfl rfl rfl rfl hP (M.sub (cn (cc (List.nil_sublist _)))) (fun w1 M => ql M LiA_is1_4 rfl 0 rfl rfl) λa A↦?_
 refine qe (v := .pointer (some ⟨g2, 1, none⟩)) A 2 rfl rfl rfl rfl hP (M.sub (cn (cc (List.nil_sublist _)))) (fun w1 M => qb LiA_fld_25_1 rfl rfl) λa A↦?_
 refine qe A 3 rfl rfl rfl rfl hP (M.sub (cn (cc (List.nil_sublist _)))) (fun w1 M => ql M LiA_is1_23 rfl 0 rfl rfl) λa A↦?_
 refine qe (v := .pointer (some ⟨g2, 2, none⟩)) A 5 rfl rfl rfl rfl hP (M.sub (cn (cc (List.nil_sublist _)))) (fun w1 M => qb LiA_fld_25_2 rfl rfl) λa A↦?_
 refine qe A 6 rfl rfl rfl rfl hP (M.sub (cn (cc (List.nil_sublist _)))) (fun w1 M => ql M LiA_is1_23 rfl 0 rfl rfl) λa A↦?_
 have hlt7 := (Ck.lt (M.has 0 rfl) g4 rfl).2
 have hlt8 := (Ck.lt (M.has 1 rfl) g2 rfl).2
 have hsz9 := M.bel.size
 refine qi (by kernel_rfl) (za A 4 rfl rfl rfl rfl (qj rfl rfl (fun w => by kernel_rfl)) (zca (h1.rd.below M.bel) l1) ?_)
 rintro _ w15 ⟨so10, ca11, rfl, ⟨hf13, hf14⟩, hb12⟩
 replace M := M.call hb12
 refine ⟨_, rfl, (M.sub (cn (cc (List.nil_sublist _)))), ?_⟩
 intro a A
 have hlt16 := (Ck.lt (M.has 0 rfl) g4 rfl).2
 have hlt17 := (Ck.lt (M.has 1 rfl) g2 rfl).2
 have hsz18 := M.bel.size
 refine qi (by kernel_rfl) (za A 7 rfl rfl rfl rfl (qj rfl rfl (fun w => by kernel_rfl)) (zca (h2.rd.below M.bel) l2) ?_)
 rintro _ w24 ⟨so19, ca20, rfl, ⟨hf22, hf23⟩, hb21⟩
 replace hf13 := hf13.below hb21
 replace M := M.call hb21
 refine ⟨_, rfl, (M.sub (cn (cc (List.nil_sublist _)))), ?_⟩
 intro a A
 refine qe (v := .agg #[.bool b, .slice so10 t.length ca11, .slice so19 q.length ca20]) A 8 rfl rfl rfl rfl hP (M.sub (cn (cc (List.nil_sublist _)))) (fun w1 M => zv rfl (fun w => by kernel_rfl)) λa A↦?_
 refine qi (by kernel_rfl) (qtf (us := [.bool b, .slice so10 t.length ca11, .slice so19 q.length ca20]) (L' := (.obj g4 (.cells #[.bool b, .slice so10 t.length ca11, .slice so19 q.length ca20] 25) :: .obj g2 (.cells #[.bool b, .slice o1 t.length c1, .slice o2 q.length c2] 25) :: [])) A M 9 rfl rfl rfl (ze rfl rfl rfl (by kernel_rfl) M 0 rfl rfl rfl) 0 rfl rfl rfl ?_)
 intro w25 M hK26
 replace hf13 := vz hf13 (hf14.mono fun b hb => by rintro rfl; omega) hK26
 replace hf22 := vz hf22 (hf23.mono fun b hb => by rintro rfl; omega) hK26
 refine ⟨(M.sub (cn (cc (List.nil_sublist _)))), ?_⟩
 refine zb (by kernel_rfl) ?_
 refine hK6 _ _ (wp_ret (hret _ _ (en1 A rfl (jr M LiA_isS_25 rfl 0 rfl (cs := [.bool b, .slice so10 t.length ca11, .slice so19 q.length ca20]) rfl rfl) ?_)))
 exact ⟨_, _, _, _, rfl, ⟨hf13, In.mono hf14 (fun b hb => Nat.le_trans hsz9 hb), hf22, In.mono hf23 (fun b hb => Nat.le_trans hsz18 hb)⟩, M.bel⟩
theorem LiB_is1_22 : Is1 Tryz.prog 22 := ⟨⟨_, Tryz.underlying22, rfl⟩, by kernel_rfl⟩
theorem LiB_is1_28 : Is1 Tryz.prog 28 := ⟨⟨_, Tryz.underlying28, rfl⟩, by kernel_rfl⟩
theorem LiB_is1_3 : Is1 Tryz.prog 3 := ⟨⟨_, Tryz.underlying3, rfl⟩, by kernel_rfl⟩
theorem LiB_is1_9 : Is1 Tryz.prog 9 := ⟨⟨_, Tryz.underlying9, rfl⟩, by kernel_rfl⟩
theorem LiB_fld_27_0 : FieldAt Tryz.prog 27 0 0 := ⟨_, _, Tryz.underlying27, rfl, rfl, by kernel_rfl⟩
theorem LiB_fld_27_1 : FieldAt Tryz.prog 27 1 3 := ⟨_, _, Tryz.underlying27, rfl, rfl, by kernel_rfl⟩
theorem LiB_fld_30_0 : FieldAt Tryz.prog 30 0 0 := ⟨_, _, Tryz.underlying30, rfl, rfl, by kernel_rfl⟩
theorem LiB_fld_30_1 : FieldAt Tryz.prog 30 1 1 := ⟨_, _, Tryz.underlying30, rfl, rfl, by kernel_rfl⟩
theorem LiB_fld_30_2 : FieldAt Tryz.prog 30 2 2 := ⟨_, _, Tryz.underlying30, rfl, rfl, by kernel_rfl⟩
theorem LiB_fld_30_3 : FieldAt Tryz.prog 30 3 8 := ⟨_, _, Tryz.underlying30, rfl, rfl, by kernel_rfl⟩
theorem LiB_fld_30_4 : FieldAt Tryz.prog 30 4 9 := ⟨_, _, Tryz.underlying30, rfl, rfl, by kernel_rfl⟩
theorem LiB_fld_30_5 : FieldAt Tryz.prog 30 5 10 := ⟨_, _, Tryz.underlying30, rfl, rfl, by kernel_rfl⟩
theorem LiB_isS_25 : IsS Tryz.prog 25 3 := ⟨⟨_, Tryz.underlying25⟩, by kernel_rfl⟩
theorem LiB_isS_30 : IsS Tryz.prog 30 11 := ⟨⟨_, Tryz.underlying30⟩, by kernel_rfl⟩
theorem clone_any {w : World} {s : ByteArray} (hs : s.size ≤ 281474976710656) : Calls Tryz.prog 69 #[.string s] w fun e w' => e = .returned (.string s) ∧ Below w.heap.size w w' := by
 have M : Mg w w ([]) := Mg.start w
 refine qm (l := [(0, .string s)]) Tryz.func69 rfl Tryz.ntmps69 rfl rfl ?_
 intro Q hret hnorm hP a A
 refine wsk fun K1 hK1 => wrl (sda A λa A↦?_)
 refine qa (hK1 _ _ (wsk fun K2 hK2 => wrl (sdm A λa A↦?_)))
 refine gcl A M (ef rfl rfl) (Tryz.stringslite_Clone s _ hs) fun w3 hb1 M a A => ?_
 refine sda A λa A↦?_
 refine qa (hK2 _ _ (wp_ret (hret _ _ (en1 A rfl (qh rfl) ?_))))
 exact ⟨rfl, M.bel⟩
def Copies (t : Dt) : Prop := ∀ {w : World}, t.rd w → t.tr.bulk ≤ 1000000000 → Calls Tryz.prog 50 #[.agg (t.d.cells t.ts.length).toArray] w fun e w' => ∃ t2 : Dt, e = .returned (.agg (t2.d.cells t2.ts.length).toArray) ∧ (t2.rd w' ∧ t2.at_ (w.heap.size ≤ ·) ∧ t2.tr = t.tr) ∧ Below w.heap.size w w'
def CopyAll (ts : List Dt) : Prop := ∀ {w : World} {so : Option Addr} {ca : Nat}, Rt w so ts → (∀ t ∈ ts, t.rd w) → Tr.bulks (ts.map Dt.tr) ≤ 1000000000 → Calls Tryz.prog 32 #[.slice so ts.length ca] w fun e w' => ∃ v us, e = .returned v ∧ (us.map Dt.tr = ts.map Dt.tr ∧ (∀ t ∈ us, t.rd w' ∧ t.at_ (fun b => w.heap.size ≤ b ∧ v.ownBlock ≠ some b))) ∧ Mg w w' [.row 30 11 v us.length (cellsOf us)]
theorem qye {ts : List Dt} (ih : ∀ t ∈ ts, Copies t) (hne : ts ≠ []) : CopyAll ts := by
 intro w so ca hR hD hb
 have hbl := vx ts
 have M : Mg w w ([]) := Mg.start w
 refine qm (l := [(0, .slice so ts.length ca)]) Tryz.func32 rfl Tryz.ntmps32 rfl rfl ?_
 intro Q hret hnorm hP a A
 refine wsk fun K1 hK1 => wrl (sda A λa A↦?_)
 refine qa (hK1 _ _ (wsk fun K2 hK2 => wrl (sdm A λa A↦?_)))
 refine sct A (ef rfl rfl) (zsa (hR.below M.bel) (by have := vx ts; omega)) ?_
 rintro _ w4 ⟨v9, rfl, hM3⟩
 obtain ⟨g9, c9, rfl⟩ := qji (hM3.has 0 rfl) (fun k => hne (List.length_eq_zero_iff.1 k))
 replace M : Mg w w4 (.row 30 11 (.slice (some ⟨g9, 0, none⟩) ts.length c9) ts.length (cellsOf ts) :: []) := hM3
 refine ⟨_, rfl, ?_⟩
 intro a A
 refine sda A λa A↦?_
 refine qa (hK2 _ _ (wsk fun K5 hK5 => wsk fun K6 hK6 => wrl (sdm A λa A↦?_)))
 refine sdo A (zf Tryz.underlying22 rfl) λa A↦?_
 refine sdm A λa A↦?_
 refine qa (hK6 _ _ (wp_block (zw (fun m_ a w1 => ∃ (i : Nat) (cs : List Dt), m_ = 1 + (ts.length - i) ∧ (i ≤ ts.length ∧ cs.length = i ∧ cs.map Dt.tr = (ts.take i).map Dt.tr ∧ CsOk w.heap.size g9 w1 cs) ∧ Sl a 22 [(0, .slice so ts.length ca), (2, .slice none 0 0), (3, .slice (some ⟨g9, 0, none⟩) ts.length c9), (6, .slice so ts.length ca), (7, .slice (some ⟨g9, 0, none⟩) ts.length c9), (8, .slice (some ⟨g9, 0, none⟩) ts.length c9), (9, .int .i64 (((ts.length : Nat) : Int))), (10, .int .i64 (((i : Nat) : Int)))] ∧ Mg w w1 (.row 30 11 (.slice (some ⟨g9, 0, none⟩) ts.length c9) ts.length (cellsOf (cs ++ ts.drop i)) :: [])) _ ⟨0, [], rfl, ⟨Nat.zero_le _, rfl, rfl, zka⟩, A.keep _ (by repeat' constructor), M⟩ ?_)))
 clear M A
 rintro m_ a w7 ⟨i, cs, rfl, hinv9, A, M⟩ K8 hK8
 obtain ⟨hi0, hcl, htr, hcs⟩ := hinv9
 refine wsk fun K10 hK10 => wrl ?_
 rcases tf (decide (((i : Nat) : Int) < ((ts.length : Nat) : Int))) with hb11 | hb11
 ·
  have hb11' := of_decide_eq_true hb11
  refine sdc A qz hb11 λa A↦?_
  refine qa (hK10 _ _ (wsk fun K12 hK12 => wp_cond_true (A.ev rfl) ?_))
  refine wp_skip (hK12 _ _ (wsk fun K13 hK13 => wp_block (wsk fun K14 hK14 => ?_)))
  obtain ⟨t1, i1, m1, it1⟩ := zsj hcl (show i < ts.length by omega)
  refine wrl (sdm A λa A↦?_)
  refine sdo (v := .pointer (some ⟨g9, i * 11, none⟩)) A (qt (k := i) Tryz.underlying22 (by kernel_rfl) rfl rfl rfl (by omega)) λa A↦?_
  refine sdo A (zy (o := i * 11) (cs := t1.d.cells t1.ts.length) M 0 rfl LiB_isS_30 (zh it1) rfl rfl) λa A↦?_
  refine qyb (vs := [.int .i64 0, .int .i64 0, .bool false, .slice none 0 0, .slice none 0 0, .bool false, .slice none 0 0, .slice none 0 0, .string (⟨#[]⟩), .slice none 0 0, .slice none 0 0]) (t := 30) A M rfl rfl rfl pg (qk (z := .agg #[.int .i64 0, .int .i64 0, .bool false, .slice none 0 0, .slice none 0 0, .bool false, .slice none 0 0, .slice none 0 0, .string (⟨#[]⟩), .slice none 0 0, .slice none 0 0]) (by kernel_rfl) rfl) (by decide) ?_
  intro g15 w16 M hg17 hb18 a A
  refine sda A λa A↦?_
  refine vq (us := (t1.d.cells t1.ts.length)) (L' := (.obj g15 (.cells (t1.d.cells t1.ts.length).toArray 30) :: .row 30 11 (.slice (some ⟨g9, 0, none⟩) ts.length c9) ts.length (cellsOf (cs ++ ts.drop i)) :: [])) A M rfl rfl (ze rfl rfl rfl (by kernel_rfl) M 0 rfl rfl rfl) 0 rfl rfl rfl ?_
  intro w19 M hK20
  replace hcs := hcs.new hg17 hb18 hK20
  refine qa (hK14 _ _ (wrl ?_))
  iterate 2 refine sdm A λa A↦?_
  refine sdo A (zg M LiB_isS_30 rfl 0 rfl (cs := (t1.d.cells t1.ts.length)) rfl rfl) λa A↦?_
  have hltg := (Ck.lt (M.has 1 rfl) g9 rfl).2
  have hsz := M.bel.size
  refine sct A (ef rfl rfl) (ih t1 m1 (Dt.keep M.bel _ (hD t1 m1)) (by have := qib m1; omega)) ?_
  rintro _ w21 ⟨t2, rfl, ⟨hr2, ha2, ht2⟩, hb2⟩
  replace hcs := hcs.below hb2
  replace M := M.call hb2
  refine ⟨_, rfl, ?_⟩
  intro a A
  refine sdo (v := .pointer (some ⟨g9, i * 11, none⟩)) A (qt (k := i) Tryz.underlying22 (by kernel_rfl) rfl rfl rfl (by omega)) λa A↦?_
  refine zfa (us := cellsOf ((cs ++ [t2]) ++ ts.drop (i + 1))) (L' := (.obj g15 (.cells (t1.d.cells t1.ts.length).toArray 30) :: .row 30 11 (.slice (some ⟨g9, 0, none⟩) ts.length c9) ts.length (cellsOf ((cs ++ [t2]) ++ ts.drop (i + 1))) :: [])) A M rfl rfl (jh (cs := t2.d.cells t2.ts.length) rfl rfl rfl (by kernel_rfl) M 1 rfl (by show _ + 11 ≤ _; omega) (jb t2)) 1 rfl (ji (by rw [List.length_append, List.length_drop]; omega) (zph t2 hcl (by omega))) rfl ?_
  intro w22 M hK23
  replace hcs := hcs.snoc hr2 (Dt.at_mono (fun b hb => ⟨by omega, by rintro rfl; omega⟩) _ ha2) hK23
  refine qa (hK13 _ _ (wrl (sdo (v := .int .i64 (((i + 1 : Nat) : Int))) A (qf rfl rfl (fun w => (xb (kd (by omega) (by omega)) w).trans (by rw [show (((i : Nat) : Int) + 1 : Int) = ((i + 1 : Nat) : Int) from by omega]))) λa A↦?_)))
  refine sdm A λa A↦?_
  refine qa ?_
  replace M : Mg w w22 (.row 30 11 (.slice (some ⟨g9, 0, none⟩) ts.length c9) ts.length (cellsOf ((cs ++ [t2]) ++ ts.drop (i + 1))) :: []) := by
   have h9 := M.sub (cn (cc (.refl _)))
   exact h9
  refine hK8 _ _ _ (by omega) ⟨i + 1, cs ++ [t2], rfl, ⟨by omega, by rw [List.length_append]; simp only [List.length_cons, List.length_nil]; omega, zpi htr i1 ht2, hcs⟩, A.keep _ (by repeat' constructor), M⟩
 ·
  have hb11' := of_decide_eq_false hb11
  refine sdc A qz hb11 λa A↦?_
  refine qa (hK10 _ _ (wsk fun K24 hK24 => wp_cond_false (A.ev rfl) ?_))
  refine wp_exit (hK5 _ _ (wsk fun K25 hK25 => wrl (sdm A λa A↦?_)))
  refine sda A λa A↦?_
  refine qa (hK25 _ _ (wp_ret (hret _ _ (en1 A rfl (qh rfl) ?_))))
  have e9 : cs ++ ts.drop i = cs := by rw [List.drop_of_length_le (by omega), List.append_nil]
  rw [e9] at M
  have e8 : ts.length = cs.length := by omega
  exact ⟨_, cs, rfl, ⟨by rw [htr, List.take_of_length_le (by omega)], fun t ht => ⟨(hcs t ht).1, Dt.at_mono (fun b hb => ⟨hb.1, fun e => hb.2 (Option.some.inj e).symm⟩) _ (hcs t ht).2⟩⟩, e8 ▸ M⟩
theorem zfd : CopyAll [] := by
 intro w so ca hR hD hb
 have M : Mg w w ([]) := Mg.start w
 refine qm (l := [(0, .slice so (([] : List Dt).length) ca)]) Tryz.func32 rfl Tryz.ntmps32 rfl rfl ?_
 intro Q hret hnorm hP a A
 refine wsk fun K1 hK1 => wrl (sda A λa A↦?_)
 refine qa (hK1 _ _ (wsk fun K2 hK2 => wrl (sdm A λa A↦?_)))
 refine sct A (ef rfl rfl) (zsa (ts := []) (fun k => absurd rfl k) (by decide)) ?_
 rintro _ w4 ⟨v9, rfl, hM3⟩
 obtain ⟨so9, c9, rfl⟩ := qeh (hM3.has 0 rfl)
 replace M : Mg w w4 (.row 30 11 (.slice so9 (([] : List Dt).length) c9) (([] : List Dt).length) (cellsOf []) :: []) := hM3
 refine ⟨_, rfl, ?_⟩
 intro a A
 refine sda A λa A↦?_
 refine qa (hK2 _ _ (wsk fun K5 hK5 => wsk fun K6 hK6 => wrl (sdm A λa A↦?_)))
 refine sdo A (zf Tryz.underlying22 rfl) λa A↦?_
 refine sdm A λa A↦?_
 refine qa (hK6 _ _ (wp_block (wp_loop_rounds 12 ?_)))
 refine xk fun K7 hK7 => ?_
 refine wsk fun K8 hK8 => wrl (sdo (v := .bool false) A (qf rfl rfl (fun w => (qz w).trans (by rw [show (decide (0 < ((([] : List Dt).length : Nat) : Int))) = false from (by rfl)]))) λa A↦?_)
 refine qa (hK8 _ _ (wsk fun K9 hK9 => wp_cond_false (A.ev rfl) ?_))
 refine wp_exit (hK5 _ _ (wsk fun K10 hK10 => wrl (sdm A λa A↦?_)))
 refine sda A λa A↦?_
 refine qa (hK10 _ _ (wp_ret (hret _ _ (en1 A rfl (qh rfl) ?_))))
 exact ⟨_, [], rfl, ⟨rfl, fun t h => by cases h⟩, M⟩
theorem qnd {ts : List Dt} (ih : ∀ t ∈ ts, Copies t) : CopyAll ts := by
 by_cases h : ts = []
 ·
  subst h; exact zfd
 ·
  exact qye ih h
theorem qch : ∀ t : Dt, Copies t := Dt.indT fun d ts ih => by
 intro w hrd hb
 have hok := (Dt.rd_iff.1 hrd)
 rw [qyc] at hb
 have M : Mg w w ([]) := Mg.start w
 refine qm (l := [(0, .agg (d.cells ts.length).toArray)]) Tryz.func50 rfl Tryz.ntmps50 rfl rfl ?_
 intro Q hret hnorm hP a A
 refine wsk fun K1 hK1 => wrl (ja (vs := (d.cells ts.length)) (t := 30) A M rfl rfl rfl pg (qs rfl rfl) (by decide) ?_)
 intro g2 w3 M a A
 refine ja (vs := [.int .i64 0, .int .i64 0, .bool false, .slice none 0 0, .slice none 0 0, .bool false, .slice none 0 0, .slice none 0 0, .string (⟨#[]⟩), .slice none 0 0, .slice none 0 0]) (t := 30) A M rfl rfl rfl pg (qk (z := .agg #[.int .i64 0, .int .i64 0, .bool false, .slice none 0 0, .slice none 0 0, .bool false, .slice none 0 0, .slice none 0 0, .string (⟨#[]⟩), .slice none 0 0, .slice none 0 0]) (by kernel_rfl) rfl) (by decide) ?_
 intro g4 w5 M a A
 refine qa (hK1 _ _ (wsk fun K6 hK6 => jc (S := fun w1 => Mg w w1 (.obj g2 (.cells (d.cells ts.length).toArray 30) :: [])) (by kernel_rfl) ?_))
 replace M := M.drew
 refine qe (v := .pointer (some ⟨g2, 0, none⟩)) A 0 rfl rfl rfl rfl hP (M.sub (cn (cc (List.nil_sublist _)))) (fun w1 M => qb LiB_fld_30_0 rfl rfl) λa A↦?_
 refine qe A 1 rfl rfl rfl rfl hP (M.sub (cn (cc (List.nil_sublist _)))) (fun w1 M => ql M LiB_is1_3 rfl 0 rfl rfl) λa A↦?_
 refine qe (v := .pointer (some ⟨g2, 1, none⟩)) A 2 rfl rfl rfl rfl hP (M.sub (cn (cc (List.nil_sublist _)))) (fun w1 M => qb LiB_fld_30_1 rfl rfl) λa A↦?_
 refine qe A 3 rfl rfl rfl rfl hP (M.sub (cn (cc (List.nil_sublist _)))) (fun w1 M => ql M LiB_is1_3 rfl 0 rfl rfl) λa A↦?_
 refine qe (v := .pointer (some ⟨g2, 2, none⟩)) A 4 rfl rfl rfl rfl hP (M.sub (cn (cc (List.nil_sublist _)))) (fun w1 M => qb LiB_fld_30_2 rfl rfl) λa A↦?_
 refine qe (v := .pointer (some ⟨g2, 2, none⟩)) A 5 rfl rfl rfl rfl hP (M.sub (cn (cc (List.nil_sublist _)))) (fun w1 M => qb LiB_fld_27_0 rfl rfl) λa A↦?_
 refine qe A 6 rfl rfl rfl rfl hP (M.sub (cn (cc (List.nil_sublist _)))) (fun w1 M => zg M LiB_isS_25 rfl 0 rfl (cs := [.bool d.y.q.b1, .slice d.y.o1 d.y.q.t1.length d.y.c1, .slice d.y.o2 d.y.q.q1.length d.y.c2]) rfl rfl) λa A↦?_
 refine qe (v := .pointer (some ⟨g2, 2, none⟩)) A 8 rfl rfl rfl rfl hP (M.sub (cn (cc (List.nil_sublist _)))) (fun w1 M => qb LiB_fld_30_2 rfl rfl) λa A↦?_
 refine qe (v := .pointer (some ⟨g2, 5, none⟩)) A 9 rfl rfl rfl rfl hP (M.sub (cn (cc (List.nil_sublist _)))) (fun w1 M => qb LiB_fld_27_1 rfl rfl) λa A↦?_
 refine qe A 10 rfl rfl rfl rfl hP (M.sub (cn (cc (List.nil_sublist _)))) (fun w1 M => zg M LiB_isS_25 rfl 0 rfl (cs := [.bool d.y.q.b2, .slice d.y.o3 d.y.q.t2.length d.y.c3, .slice d.y.o4 d.y.q.q2.length d.y.c4]) rfl rfl) λa A↦?_
 refine qe (v := .pointer (some ⟨g2, 8, none⟩)) A 13 rfl rfl rfl rfl hP (M.sub (cn (cc (List.nil_sublist _)))) (fun w1 M => qb LiB_fld_30_3 rfl rfl) λa A↦?_
 refine qe A 14 rfl rfl rfl rfl hP (M.sub (cn (cc (List.nil_sublist _)))) (fun w1 M => ql M LiB_is1_9 rfl 0 rfl rfl) λa A↦?_
 refine qe (v := .pointer (some ⟨g2, 9, none⟩)) A 16 rfl rfl rfl rfl hP (M.sub (cn (cc (List.nil_sublist _)))) (fun w1 M => qb LiB_fld_30_4 rfl rfl) λa A↦?_
 refine qe A 17 rfl rfl rfl rfl hP (M.sub (cn (cc (List.nil_sublist _)))) (fun w1 M => ql M LiB_is1_28 rfl 0 rfl rfl) λa A↦?_
 refine qe (v := .pointer (some ⟨g2, 10, none⟩)) A 19 rfl rfl rfl rfl hP (M.sub (cn (cc (List.nil_sublist _)))) (fun w1 M => qb LiB_fld_30_5 rfl rfl) λa A↦?_
 refine qe A 20 rfl rfl rfl rfl hP (M.sub (cn (cc (List.nil_sublist _)))) (fun w1 M => ql M LiB_is1_22 rfl 0 rfl rfl) λa A↦?_
 have hlt7 := (Ck.lt (M.has 0 rfl) g4 rfl).2
 have hlt8 := (Ck.lt (M.has 1 rfl) g2 rfl).2
 have hsz9 := M.bel.size
 refine qi (by kernel_rfl) (za A 7 rfl rfl rfl rfl (qj rfl rfl (fun w => by kernel_rfl)) (zcb (hok.1.num.s1.below M.bel) (hok.1.num.s2.below M.bel) (by omega) (by omega)) ?_)
 rintro _ w11 ⟨p1, e1, p2, e2, rfl, ⟨hs1, hi1, hs2, hi2⟩, hb10⟩
 replace M := M.call hb10
 refine ⟨_, rfl, (M.sub (cn (cc (List.nil_sublist _)))), ?_⟩
 intro a A
 have hlt12 := (Ck.lt (M.has 0 rfl) g4 rfl).2
 have hlt13 := (Ck.lt (M.has 1 rfl) g2 rfl).2
 have hsz14 := M.bel.size
 refine qi (by kernel_rfl) (za A 11 rfl rfl rfl rfl (qj rfl rfl (fun w => by kernel_rfl)) (zcb (hok.1.num.s3.below M.bel) (hok.1.num.s4.below M.bel) (by omega) (by omega)) ?_)
 rintro _ w16 ⟨p3, e3, p4, e4, rfl, ⟨hs3, hi3, hs4, hi4⟩, hb15⟩
 replace hs1 := hs1.below hb15
 replace hs2 := hs2.below hb15
 replace M := M.call hb15
 refine ⟨_, rfl, (M.sub (cn (cc (List.nil_sublist _)))), ?_⟩
 intro a A
 refine qe (v := .agg #[.bool d.y.q.b1, .slice p1 d.y.q.t1.length e1, .slice p2 d.y.q.q1.length e2, .bool d.y.q.b2, .slice p3 d.y.q.t2.length e3, .slice p4 d.y.q.q2.length e4]) A 12 rfl rfl rfl rfl hP (M.sub (cn (cc (List.nil_sublist _)))) (fun w1 M => zv rfl (fun w => by kernel_rfl)) λa A↦?_
 refine qi (by kernel_rfl) (za A 15 rfl rfl rfl rfl (qj rfl rfl (fun w => by kernel_rfl)) (clone_any (by omega)) ?_)
 rintro _ w17 ⟨rfl, hbc⟩
 replace hs1 := hs1.below hbc
 replace hs2 := hs2.below hbc
 replace hs3 := hs3.below hbc
 replace hs4 := hs4.below hbc
 replace M := M.call hbc
 refine ⟨_, rfl, (M.sub (cn (cc (List.nil_sublist _)))), ?_⟩
 intro a A
 have hlt18 := (Ck.lt (M.has 0 rfl) g4 rfl).2
 have hlt19 := (Ck.lt (M.has 1 rfl) g2 rfl).2
 have hz5 := M.bel.size
 refine qi (by kernel_rfl) (za A 18 rfl rfl rfl rfl (qj rfl rfl (fun w => by kernel_rfl)) (zpj (hok.1.raw.below M.bel) (by omega)) ?_)
 rintro _ w20 ⟨ro5, rc5, rfl, ⟨hr5, hi5, hc5, hm5⟩, hb5⟩
 replace hs1 := hs1.below hb5
 replace hs2 := hs2.below hb5
 replace hs3 := hs3.below hb5
 replace hs4 := hs4.below hb5
 replace M := M.call hb5
 refine ⟨_, rfl, (M.sub (cn (cc (List.nil_sublist _)))), ?_⟩
 intro a A
 have hlt21 := (Ck.lt (M.has 0 rfl) g4 rfl).2
 have hlt22 := (Ck.lt (M.has 1 rfl) g2 rfl).2
 have hz6 := M.bel.size
 refine qi (by kernel_rfl) (za A 21 rfl rfl rfl rfl (qj rfl rfl (fun w => by kernel_rfl)) (qnd ih (hok.2.2.2.1.below M.bel) (fun t ht => Dt.keep M.bel _ (hok.2.2.2.2 t ht)) (by omega)) ?_)
 rintro _ w23 ⟨v6, us, rfl, ⟨htr, hus⟩, hM6⟩
 obtain ⟨lo6, lc6, rfl⟩ := qeh (hM6.has 0 rfl)
 replace hs1 := hs1.below hM6.bel
 replace hs2 := hs2.below hM6.bel
 replace hs3 := hs3.below hM6.bel
 replace hs4 := hs4.below hM6.bel
 replace hr5 := hr5.below hM6.bel
 replace M : Mg w w23 (.row 30 11 (.slice lo6 us.length lc6) us.length (cellsOf us) :: .obj g4 (.cells #[.int .i64 0, .int .i64 0, .bool false, .slice none 0 0, .slice none 0 0, .bool false, .slice none 0 0, .slice none 0 0, .string (⟨#[]⟩), .slice none 0 0, .slice none 0 0] 30) :: .obj g2 (.cells (d.cells ts.length).toArray 30) :: []) := (M.both hM6 (jj (by simp) (jj (by simp) (jg jn))) (jj (by simp) (jg jn)))
 refine ⟨_, rfl, (M.sub (cn (cn (cc (List.nil_sublist _))))), ?_⟩
 intro a A
 refine qe (v := .agg #[.int .i64 d.k, .int .i64 d.n, .bool d.y.q.b1, .slice p1 d.y.q.t1.length e1, .slice p2 d.y.q.q1.length e2, .bool d.y.q.b2, .slice p3 d.y.q.t2.length e3, .slice p4 d.y.q.q2.length e4, .string d.s, .slice ro5 d.rl.length rc5, .slice lo6 us.length lc6]) A 22 rfl rfl rfl rfl hP (M.sub (cn (cn (cc (List.nil_sublist _))))) (fun w1 M => zv rfl (fun w => by kernel_rfl)) λa A↦?_
 refine qi (by kernel_rfl) (qtf (us := [.int .i64 d.k, .int .i64 d.n, .bool d.y.q.b1, .slice p1 d.y.q.t1.length e1, .slice p2 d.y.q.q1.length e2, .bool d.y.q.b2, .slice p3 d.y.q.t2.length e3, .slice p4 d.y.q.q2.length e4, .string d.s, .slice ro5 d.rl.length rc5, .slice lo6 us.length lc6]) (L' := (.row 30 11 (.slice lo6 us.length lc6) us.length (cellsOf us) :: .obj g4 (.cells #[.int .i64 d.k, .int .i64 d.n, .bool d.y.q.b1, .slice p1 d.y.q.t1.length e1, .slice p2 d.y.q.q1.length e2, .bool d.y.q.b2, .slice p3 d.y.q.t2.length e3, .slice p4 d.y.q.q2.length e4, .string d.s, .slice ro5 d.rl.length rc5, .slice lo6 us.length lc6] 30) :: .obj g2 (.cells (d.cells ts.length).toArray 30) :: [])) A M 23 rfl rfl rfl (ze rfl rfl rfl (by kernel_rfl) M 1 rfl rfl rfl) 1 rfl rfl rfl ?_)
 intro w24 M hK25
 replace hs1 := vz hs1 (hi1.mono fun b hb => by rintro rfl; omega) hK25
 replace hs2 := vz hs2 (hi2.mono fun b hb => by rintro rfl; omega) hK25
 replace hs3 := vz hs3 (hi3.mono fun b hb => by rintro rfl; omega) hK25
 replace hs4 := vz hs4 (hi4.mono fun b hb => by rintro rfl; omega) hK25
 replace hr5 := zbg hr5 (hi5.mono fun b hb => by rintro rfl; omega) hK25
 have hu9 : ∀ t ∈ us, t.rd w24 := fun t ht => Dt.kept hK25 _ (hus t ht).1 (Dt.at_mono (fun b hb => by rintro rfl; have := hb.1; omega) _ (hus t ht).2)
 refine ⟨(M.sub (cn (cn (cc (List.nil_sublist _))))), ?_⟩
 refine zb (by kernel_rfl) ?_
 refine hK6 _ _ (wp_ret (hret _ _ (en1 A rfl (jr M LiB_isS_30 rfl 1 rfl (cs := [.int .i64 d.k, .int .i64 d.n, .bool d.y.q.b1, .slice p1 d.y.q.t1.length e1, .slice p2 d.y.q.q1.length e2, .bool d.y.q.b2, .slice p3 d.y.q.t2.length e3, .slice p4 d.y.q.q2.length e4, .string d.s, .slice ro5 d.rl.length rc5, .slice lo6 us.length lc6]) rfl rfl) ?_)))
 have ho9 := qab (M.has 0 rfl)
 exact ⟨.mk ⟨d.k, d.n, ⟨d.y.q, p1, e1, p2, e2, p3, e3, p4, e4⟩, d.s, ro5, rc5, d.rl, lo6, lc6⟩ us, rfl, ⟨Dt.rd_iff.2 ⟨{ hok.1 with num := ⟨hs1, hs2, hs3, hs4⟩, raw := hr5, rcap := hc5, rmax := hm5 }, ho9.2.2.1, ho9.2.2.2, ho9.1, hu9⟩, Dt.at_iff.2 ⟨⟨hi1.mono fun b hb => Nat.le_trans hsz9 hb, hi2.mono fun b hb => Nat.le_trans hsz9 hb, hi3.mono fun b hb => Nat.le_trans hsz14 hb, hi4.mono fun b hb => Nat.le_trans hsz14 hb, hi5.mono fun b hb => Nat.le_trans hz5 hb⟩, qya (M.has 0 rfl) _, fun t ht => Dt.at_mono (fun b hb => Nat.le_trans hz6 hb.1) _ (hus t ht).2⟩, by rw [Dt.tr_mk, Dt.tr_mk, htr]⟩, M.bel⟩
/-- The empty list, and nothing. -/
def qti : Dt := .mk ⟨1, 0, ⟨Q6.zero, none, 0, none, 0, none, 0, none, 0⟩, ⟨#[]⟩, none, 0, [], none, 0⟩ []
def qr : Dt := .mk ⟨0, 0, ⟨Q6.zero, none, 0, none, 0, none, 0, none, 0⟩, ⟨#[]⟩, none, 0, [], none, 0⟩ []
def nilT : Tr := .mk 1 0 Q6.zero ⟨#[]⟩ [] []
def kz : Tr := .mk 0 0 Q6.zero ⟨#[]⟩ [] []
theorem qic : qti.tr = nilT := by unfold qti nilT; rw [Dt.tr_mk]; rfl
theorem qac : qr.tr = kz := by unfold qr kz; rw [Dt.tr_mk]; rfl
theorem qne : LenQ Q6.zero := ⟨by decide, by decide, by decide, by decide⟩
theorem qid (w : World) (k : Int) (h0 : -9223372036854775808 ≤ k) (h1 : k ≤ 9223372036854775807) : (Dt.mk ⟨k, 0, ⟨Q6.zero, none, 0, none, 0, none, 0, none, 0⟩, ⟨#[]⟩, none, 0, [], none, 0⟩ []).rd w :=
  Dt.rd_iff.2 ⟨⟨⟨Sc.none w, Sc.none w, Sc.none w, Sc.none w⟩, qne, ⟨fun h => absurd rfl h⟩, Nat.le_refl _, by show (0 : Nat) ≤ _; omega, h0, h1, by show (-9223372036854775808 : Int) ≤ 0; omega, by show (0 : Int) ≤ 9223372036854775807; omega, by show (0 : Nat) ≤ _; omega⟩, Nat.le_refl _, by show (0 : Nat) ≤ _; omega, fun h => absurd rfl h, fun t h => by cases h⟩
theorem zcc (w : World) : qti.rd w := qid w 1 (by decide) (by decide)
theorem qad (w : World) : qr.rd w := qid w 0 (by decide) (by decide)
theorem zqa (p : Nat → Prop) (k : Int) : (Dt.mk ⟨k, 0, ⟨Q6.zero, none, 0, none, 0, none, 0, none, 0⟩, ⟨#[]⟩, none, 0, [], none, 0⟩ []).at_ p :=
  Dt.at_iff.2 ⟨⟨fun h => absurd rfl h, fun h => absurd rfl h, fun h => absurd rfl h, fun h => absurd rfl h, fun h => absurd rfl h⟩, fun h => absurd rfl h, fun t h => by cases h⟩
theorem qae (p : Nat → Prop) : qr.at_ p := zqa p 0
/-- Items, one behind the other, and what stands behind them. -/
def zn : List Tr → Tr → Tr
  | [], z => z
  | t :: ts, z => .mk 8 0 Q6.zero ⟨#[]⟩ [] [t, zn ts z]
theorem qgi : ∀ (a b : List Tr) (z : Tr), zn (a ++ b) z = zn a (zn b z)
  | [], _, _ => rfl
  | t :: a, b, z => by rw [List.cons_append, zn, zn, qgi a b z]
theorem vy : ∀ (a : List Tr) (z : Tr), (zn a z).bulk = Tr.bulks a + a.length + z.bulk
  | [], z => by simp [zn, Tr.bulks]
  | t :: a, z => by
    rw [zn, vu, Tr.bulks, Tr.bulks, Tr.bulks, vy a z, Tr.bulks, List.length_cons]
    show 0 + 0 + (0 + 0 + (0 + 0)) + 1 + _ = _
    omega
theorem qka : ∀ {a b : List Tr} {y z : Tr}, y.k ≠ 8 → z.k ≠ 8 → zn a y = zn b z → a = b ∧ y = z
  | [], [], y, z, _, _, h => ⟨rfl, h⟩
  | [], t :: b, y, z, hy, _, h => absurd (by rw [zn, zn] at h; rw [h]; rfl) hy
  | t :: a, [], y, z, _, hz, h => absurd (by rw [zn, zn] at h; rw [← h]; rfl) hz
  | t :: a, u :: b, y, z, hy, hz, h => by
    rw [zn, zn] at h
    injection h with _ _ _ _ _ h
    injection h with h1 h2
    injection h2 with h2 _
    obtain ⟨h3, h4⟩ := qka hy hz h2
    exact ⟨by rw [h1, h3], h4⟩
open Classical in
/-- The items of a list. -/
noncomputable def jp (t : Tr) : Option (List Tr) := if h : ∃ xs, t = zn xs nilT then some (Classical.choose h) else none
theorem vm (xs : List Tr) : jp (zn xs nilT) = some xs := by
  have h : ∃ ys, zn xs nilT = zn ys nilT := ⟨xs, rfl⟩
  unfold jp
  rw [dif_pos h]
  have := Classical.choose_spec h
  rw [← (qka (by decide) (by decide) this).1]
theorem zfe {xs : List Tr} {z : Tr} (h8 : z.k ≠ 8) (h1 : z.k ≠ 1) : jp (zn xs z) = none := by
  unfold jp
  rw [dif_neg]
  rintro ⟨ys, h⟩
  obtain ⟨_, h2⟩ := qka h8 (by decide) h
  exact h1 (by rw [h2]; rfl)
theorem qgj {t : Tr} {xs : List Tr} (h : jp t = some xs) : t = zn xs nilT := by
  unfold jp at h
  by_cases hx : ∃ ys, t = zn ys nilT
  · rw [dif_pos hx] at h
    have := Classical.choose_spec hx
    rw [← Option.some.inj h]; exact this
  · rw [dif_neg hx] at h; cases h
/-! ### What a shape says -/
theorem qnf {b : Bool} {t q : List Nat} (h : qfg b t.length q.length = true) : b = false ∧ t = [] ∧ q = [] := by
  unfold qfg at h
  simp only [Bool.and_eq_true, Bool.not_eq_true', decide_eq_true_eq] at h
  exact ⟨h.1, List.length_eq_zero_iff.1 h.2.1, List.length_eq_zero_iff.1 h.2.2⟩
theorem qkb {n : Int} {q : Q6} {s : ByteArray} {mr ml : Nat} (h : va n q.b1 q.t1.length q.q1.length q.b2 q.t2.length q.q2.length s mr ml = true) : n = 0 ∧ q = Q6.zero ∧ s = ⟨#[]⟩ ∧ mr = 0 ∧ ml = 0 := by
  unfold va at h
  simp only [Bool.and_eq_true, decide_eq_true_eq] at h
  obtain ⟨h1, h2, h3, h4, h5, h6⟩ := h
  obtain ⟨a1, a2, a3⟩ := qnf h2
  obtain ⟨b1, b2, b3⟩ := qnf h3
  refine ⟨h1, ?_, h4, h5, h6⟩
  cases q
  simp only at a1 a2 a3 b1 b2 b3
  subst a1 a2 a3 b1 b2 b3
  rfl
theorem qyf {n : Int} {q : Q6} {s : ByteArray} {rl : List UInt8} {ts : List Tr} (h : qn (.mk 8 n q s rl ts) = true) : n = 0 ∧ q = Q6.zero ∧ s = ⟨#[]⟩ ∧ rl = [] ∧ ts.length = 2 := by
  unfold qn jo at h
  simp at h
  obtain ⟨h1, h2⟩ := h
  obtain ⟨a, b, c, d, _⟩ := qkb h2
  exact ⟨a, b, c, List.length_eq_zero_iff.1 d, h1⟩
theorem zff {n : Int} {q : Q6} {s : ByteArray} {rl : List UInt8} {ts : List Tr} (h : qn (.mk 1 n q s rl ts) = true) : Tr.mk 1 n q s rl ts = nilT := by
  unfold qn jo at h
  simp at h
  obtain ⟨a, b, c, d, e⟩ := qkb h
  rw [a, b, c, List.length_eq_zero_iff.1 d, List.length_eq_zero_iff.1 e]
  rfl
theorem zkd {p : Tr → Bool} {ts : List Tr} : uy p ts = true ↔ ∀ t ∈ ts, xv p t = true := by
  induction ts with
  | nil => simp [uy]
  | cons t ts ih => simp [uy, ih]
theorem qyg {p : Tr → Bool} {t : Dt} (h : xv p t.tr = true) : p t.tr = true ∧ ∀ u ∈ t.ts, xv p u.tr = true := by
  cases t with
  | mk d ts =>
    rw [Dt.tr_mk, xv, Bool.and_eq_true, zkd] at h
    refine ⟨by rw [Dt.tr_mk]; exact h.1, fun u hu => h.2 _ (List.mem_map_of_mem hu)⟩
/-- A pair of a sound tree, taken apart. -/
theorem zcd {t : Dt} (h : xv qn t.tr = true) (hk : t.d.k = 8) : t.ts.length = 2 ∧ ∀ a b, t.ts[0]? = some a → t.ts[1]? = some b → t.tr = .mk 8 0 Q6.zero ⟨#[]⟩ [] [a.tr, b.tr] := by
  have h1 := (qyg h).1
  cases t with
  | mk d ts =>
    rw [Dt.tr_mk] at h1 ⊢
    simp only [Dt.d] at hk
    rw [hk] at h1 ⊢
    obtain ⟨a1, a2, a3, a4, a5⟩ := qyf h1
    rw [List.length_map] at a5
    refine ⟨a5, fun a b ha hb => ?_⟩
    rw [a1, a2, a3, a4]
    simp only [Dt.ts] at ha hb a5
    match ts, a5 with
    | [x, y], _ =>
      simp at ha hb
      rw [ha, hb]
      rfl
theorem zta {t : Dt} (h : xv qn t.tr = true) (hk : t.d.k = 1) : t.tr = nilT := by
  have h1 := (qyg h).1
  cases t with
  | mk d ts =>
    rw [Dt.tr_mk] at h1 ⊢
    simp only [Dt.d] at hk
    rw [hk] at h1 ⊢
    exact zff h1
theorem zqb (t : Dt) : t.tr.k = t.d.k := by cases t; rw [Dt.tr_mk]; rfl
/-! ### Slices of data, and what is found in them -/
theorem zfg {w : World} {so : Option Addr} {ts : List Dt} (hR : Rt w so ts) (hD : ∀ t ∈ ts, t.rd w) {i : Nat} (hi : i < ts.length) : ∃ t b o, ts[i]? = some t ∧ t ∈ ts ∧ t.rd w ∧ so = some ⟨b, o, none⟩ ∧ Here w b (o + i * 11) (t.d.cells t.ts.length) := by
  obtain ⟨b, o, e, h2⟩ := hR (fun k => by subst k; simp at hi)
  have ht := List.getElem?_eq_getElem hi
  exact ⟨ts[i], b, o, ht, List.getElem_mem hi, hD _ (List.getElem_mem hi), e, h2 i _ ht⟩
/-- Where the first such one stands, or -1. -/
def qtj (p : Dt → Bool) (ts : List Dt) : Int := if ts.any p = true then (ts.findIdx p : Int) else -1
theorem zqc {p : Dt → Bool} {ts : List Dt} {i : Nat} {t : Dt} (h : ∀ j u, j < i → ts[j]? = some u → p u = false) (hi : ts[i]? = some t) (hp : p t = true) : qtj p ts = i := by
  obtain ⟨hl, e⟩ := List.getElem?_eq_some_iff.1 hi
  unfold qtj
  rw [if_pos (List.any_eq_true.2 ⟨t, List.mem_of_getElem? hi, hp⟩)]
  congr 1
  rw [List.findIdx_eq hl]
  refine ⟨by rw [e]; exact hp, fun j hj => h j _ hj (List.getElem?_eq_getElem _)⟩
theorem zke {p : Dt → Bool} {ts : List Dt} (h : ∀ j u, j < ts.length → ts[j]? = some u → p u = false) : qtj p ts = -1 := by
  unfold qtj
  rw [if_neg]
  intro k
  obtain ⟨t, ht, hp⟩ := List.any_eq_true.1 k
  obtain ⟨j, hj⟩ := List.mem_iff_getElem?.1 ht
  rw [h j t (List.getElem?_eq_some_iff.1 hj).1 hj] at hp
  cases hp
theorem zce (p : Dt → Bool) (ts : List Dt) : decide (0 ≤ qtj p ts) = ts.any p := by
  unfold qtj
  by_cases h : ts.any p = true
  · rw [if_pos h, h]; exact decide_eq_true (by omega)
  · rw [if_neg h, Bool.eq_false_iff.2 h]; rfl
/-- A function that is asked of data: what it answers; it changes nothing. -/
structure Asks (P : Program) (f : FuncId) (cs : List Value) (w0 : World) (ts : List Dt) (p : Dt → Bool) : Prop where
  inv : ∀ (us : Array Value) (w : World), (callFunc f us).run P w = .ok (.enter f us) w
  run : ∀ (t : Dt) (w : World), t ∈ ts → Below w0.heap.size w0 w → Calls P f ([Value.agg (t.d.cells t.ts.length).toArray] ++ cs).toArray w fun e w' => e = .returned (.bool (p t)) ∧ Below w.heap.size w w'
theorem qyh {t : Dt} {xs : List Tr} {p : Dt} (h : t.tr = zn xs p.tr) (hs : xv qn p.tr = true) (hk : p.d.k = 1) : jp t.tr = some xs := by
  rw [h, zta hs hk, vm]
theorem qyi {t : Dt} {xs : List Tr} {p : Dt} (h : t.tr = zn xs p.tr) (h8 : p.d.k ≠ 8) (h1 : p.d.k ≠ 1) : jp t.tr = none := by
  rw [h, zfe (by rw [zqb]; exact h8) (by rw [zqb]; exact h1)]
/-- One pair further. -/
theorem zfh {t : Dt} {xs : List Dt} {p a b : Dt} (h : t.tr = zn (xs.map Dt.tr) p.tr) (hs : xv qn p.tr = true) (hk : p.d.k = 8) (ha : p.ts[0]? = some a) (hb : p.ts[1]? = some b) : t.tr = zn ((xs ++ [a]).map Dt.tr) b.tr := by
  rw [h, (zcd hs hk).2 a b ha hb, List.map_append, qgi]
  rfl
theorem zkf {p : Dt → Prop} {xs : List Dt} {a : Dt} (h : ∀ x ∈ xs, p x) (ha : p a) : ∀ x ∈ xs ++ [a], p x := fun x hx => by
  rcases List.mem_append.1 hx with k | k
  · exact h x k
  · rw [List.mem_singleton.1 k]; exact ha
theorem qng {t : Tr} (h : zd qn t = true) : xv qn t = true := by unfold zd at h; rw [Bool.and_eq_true] at h; exact h.2
theorem zkg (t : Dt) : 1 ≤ t.tr.bulk := by cases t; rw [Dt.tr_mk, vu]; omega
/-! ### Lists that are joined -/
theorem kp : ∀ a b : List Tr, Tr.bulks (a ++ b) = Tr.bulks a + Tr.bulks b
  | [], b => by simp [Tr.bulks]
  | t :: a, b => by rw [List.cons_append, Tr.bulks, Tr.bulks, kp a b]; omega
theorem qyj {ts : List Dt} (i : Nat) : Tr.bulks ((ts.take i).map Dt.tr) ≤ Tr.bulks (ts.map Dt.tr) := by
  conv => rhs; rw [← List.take_append_drop i ts, List.map_append, kp]
  omega
/-! ### A new pair -/
def qei (g : Nat) (x z : Dt) : Dt := .mk ⟨8, 0, ⟨Q6.zero, none, 0, none, 0, none, 0, none, 0⟩, ⟨#[]⟩, none, 0, [], some ⟨g, 0, none⟩, 2⟩ [x, z]
theorem qua (g : Nat) (x z : Dt) : (qei g x z).d.cells (qei g x z).ts.length = [.int .i64 8, .int .i64 0, .bool false, .slice none 0 0, .slice none 0 0, .bool false, .slice none 0 0, .slice none 0 0, .string ⟨#[]⟩, .slice none 0 0, .slice (some ⟨g, 0, none⟩) 2 2] := rfl
theorem zkh (g : Nat) (x z : Dt) : (qei g x z).tr = .mk 8 0 Q6.zero ⟨#[]⟩ [] [x.tr, z.tr] := by unfold qei; rw [Dt.tr_mk]; rfl
theorem zfi (w : World) (lo : Option Addr) (lc : Nat) : NdOk w ⟨8, 0, ⟨Q6.zero, none, 0, none, 0, none, 0, none, 0⟩, ⟨#[]⟩, none, 0, [], lo, lc⟩ :=
  ⟨⟨Sc.none w, Sc.none w, Sc.none w, Sc.none w⟩, qne, ⟨fun h => absurd rfl h⟩, Nat.le_refl _, by show (0 : Nat) ≤ _; omega, by show (-9223372036854775808 : Int) ≤ 8; omega, by show (8 : Int) ≤ 9223372036854775807; omega, by show (-9223372036854775808 : Int) ≤ 0; omega, by show (0 : Int) ≤ 9223372036854775807; omega, by show (0 : Nat) ≤ _; omega⟩
theorem zki {w : World} {g : Nat} {x z : Dt} (hg : g < w.heap.size) (hc : ∀ p v, (cellsOf [x, z])[p]? = some v → w.cell? ⟨g, p, none⟩ = some v) (hx : x.rd w) (hz : z.rd w) : (qei g x z).rd w := by
  unfold qei
  refine Dt.rd_iff.2 ⟨zfi w _ _, Nat.le_refl _, by show (2 : Nat) ≤ _; omega, fun _ => ⟨g, 0, rfl, fun i t hi => ⟨hg, fun j v hj => ?_⟩⟩, fun t ht => ?_⟩
  · rw [Nat.zero_add]
    exact hc _ _ (qef hi hj)
  · rcases List.mem_cons.1 ht with h | h
    · rw [h]; exact hx
    · rw [List.mem_singleton.1 h]; exact hz
theorem zkj {p : Nat → Prop} {g : Nat} {x z : Dt} (hg : p g) (hx : x.at_ p) (hz : z.at_ p) : (qei g x z).at_ p := by
  unfold qei
  refine Dt.at_iff.2 ⟨⟨fun h => absurd rfl h, fun h => absurd rfl h, fun h => absurd rfl h, fun h => absurd rfl h, fun h => absurd rfl h⟩, fun _ b o e => ?_, fun t ht => ?_⟩
  · cases e; exact hg
  · rcases List.mem_cons.1 ht with h | h
    · rw [h]; exact hx
    · rw [List.mem_singleton.1 h]; exact hz
theorem LiC_isS_30 : IsS Tryz.prog 30 11 := ⟨⟨_, Tryz.underlying30⟩, by kernel_rfl⟩
theorem zfj {w : World} {so : Option Addr} {ca : Nat} {ts : List Dt} (hR : Rt w so ts) (hD : ∀ t ∈ ts, t.rd w) (hl : ts.length ≤ 1000000000) {f : FuncId} {cs : List Value} {p : Dt → Bool} (hF : Asks Tryz.prog f cs w ts p) : Calls Tryz.prog 44 #[.slice so ts.length ca, .func (.func f) #[] cs.toArray] w fun e w' => e = .returned (.int .i64 (qtj p ts)) ∧ Below w.heap.size w w' := by
 have M : Mg w w ([]) := Mg.start w
 refine qm (l := [(0, .slice so ts.length ca), (1, .func (.func f) #[] cs.toArray)]) Tryz.func44 rfl Tryz.ntmps44 rfl rfl ?_
 intro Q hret hnorm hP a A
 refine wsk fun K1 hK1 => wrl (sda A λa A↦?_)
 refine qa (hK1 _ _ (wsk fun K2 hK2 => wsk fun K3 hK3 => wrl (sdm A λa A↦?_)))
 refine sdo A (zf Tryz.underlying22 rfl) λa A↦?_
 refine sdm A λa A↦?_
 refine qa (hK3 _ _ (wp_block (zw (fun m_ a w1 => ∃ (i : Nat), m_ = 1 + (ts.length - i) ∧ (i ≤ ts.length ∧ ∀ j u, j < i → ts[j]? = some u → p u = false) ∧ Sl a 19 [(0, .slice so ts.length ca), (1, .func (.func f) #[] cs.toArray), (6, .slice so ts.length ca), (7, .int .i64 (((ts.length : Nat) : Int))), (8, .int .i64 (((i : Nat) : Int)))] ∧ Mg w w1 ([])) _ ⟨0, rfl, ⟨Nat.zero_le _, fun j u h => absurd h (Nat.not_lt_zero _)⟩, A.keep _ ⟨rfl, rfl, rfl, rfl, rfl, trivial⟩, M⟩ ?_)))
 clear M A
 rintro m_ a w4 ⟨i, rfl, hinv6, A, M⟩ K5 hK5
 obtain ⟨hi0, hin9⟩ := hinv6
 refine wsk fun K7 hK7 => wrl ?_
 rcases tf (decide (((i : Nat) : Int) < ((ts.length : Nat) : Int))) with hb8 | hb8
 ·
  have hb8' := of_decide_eq_true hb8
  refine sdc A qz hb8 λa A↦?_
  refine qa (hK7 _ _ (wsk fun K9 hK9 => wp_cond_true (A.ev rfl) ?_))
  refine wp_skip (hK9 _ _ (wsk fun K10 hK10 => wp_block (wsk fun K11 hK11 => wrl (sdm A λa A↦?_))))
  refine sda A λa A↦?_
  refine qa (hK11 _ _ (wsk fun K12 hK12 => ?_))
  obtain ⟨t1, bt1, ot1, it1, mt1, rt1_, lt1, Ht1⟩ := zfg hR hD (i := i) (by omega)
  refine wrl ?_
  iterate 3 refine sdm A λa A↦?_
  refine sdo (v := .pointer (some ⟨bt1, ot1 + i * 11, none⟩)) A (zl (k := i) Tryz.underlying22 (by kernel_rfl) rfl rfl rfl lt1 (by omega)) λa A↦?_
  refine sdo A (jd M Ht1 LiC_isS_30 rfl rfl) λa A↦?_
  rcases tf (p t1) with hb13 | hb13
  ·
   refine yu A rfl rfl rfl (kt rfl rfl hF.inv) ((hb13 ▸ hF.run t1 _ mt1 M.bel)) ?_
   rintro _ w15 ⟨rfl, hb14⟩
   replace M := M.call hb14
   refine ⟨_, rfl, ?_⟩
   intro a A
   refine qa (hK12 _ _ (wp_cond_true (A.ev rfl) ?_))
   refine wsk fun K16 hK16 => wrl (sdm A λa A↦?_)
   refine sda A λa A↦?_
   refine qa (hK16 _ _ (wp_ret (hret _ _ (en1 A rfl (qh rfl) ?_))))
   exact ⟨by rw [zqc hin9 it1 hb13], M.bel⟩
  ·
   refine yu A rfl rfl rfl (kt rfl rfl hF.inv) ((hb13 ▸ hF.run t1 _ mt1 M.bel)) ?_
   rintro _ w18 ⟨rfl, hb17⟩
   replace M := M.call hb17
   refine ⟨_, rfl, ?_⟩
   intro a A
   refine qa (hK12 _ _ (wp_cond_false (A.ev rfl) ?_))
   refine wp_skip (hK10 _ _ (wrl (sdo (v := .int .i64 (((i + 1 : Nat) : Int))) A (qf rfl rfl (fun w => (xb (kd (by omega) (by omega)) w).trans (by rw [show (((i : Nat) : Int) + 1 : Int) = ((i + 1 : Nat) : Int) from by omega]))) λa A↦?_)))
   refine sdm A λa A↦?_
   refine qa ?_
   replace M : Mg w w18 ([]) := by
    have h9 := M.sub (.refl _)
    exact h9
   refine hK5 _ _ _ (by omega) ⟨i + 1, rfl, ⟨by omega, fun j u hj hu => if h9 : j < i then hin9 j u h9 hu else by have h8 : j = i := (by omega); subst h8; rw [it1] at hu; rw [← Option.some.inj hu]; exact hb13⟩, A.keep _ ⟨rfl, rfl, rfl, rfl, rfl, trivial⟩, M⟩
 ·
  have hb8' := of_decide_eq_false hb8
  refine sdc A qz hb8 λa A↦?_
  refine qa (hK7 _ _ (wsk fun K19 hK19 => wp_cond_false (A.ev rfl) ?_))
  refine wp_exit (hK2 _ _ (wsk fun K20 hK20 => wrl (sda A λa A↦?_)))
  refine qa (hK20 _ _ (wp_ret (hret _ _ (en1 A rfl (qh rfl) ?_))))
  exact ⟨by rw [zke (fun j u hj => hin9 j u (by omega))], M.bel⟩
theorem qpi {w : World} {so : Option Addr} {ca : Nat} {ts : List Dt} (hR : Rt w so ts) (hD : ∀ t ∈ ts, t.rd w) (hl : ts.length ≤ 1000000000) {f : FuncId} {cs : List Value} {p : Dt → Bool} (hF : Asks Tryz.prog f cs w ts p) : Calls Tryz.prog 60 #[.slice so ts.length ca, .func (.func f) #[] cs.toArray] w fun e w' => e = .returned (.bool (ts.any p)) ∧ Below w.heap.size w w' := by
 have M : Mg w w ([]) := Mg.start w
 refine qm (l := [(0, .slice so ts.length ca), (1, .func (.func f) #[] cs.toArray)]) Tryz.func60 rfl Tryz.ntmps60 rfl rfl ?_
 intro Q hret hnorm hP a A
 refine wsk fun K1 hK1 => wrl (sda A λa A↦?_)
 refine qa (hK1 _ _ (wsk fun K2 hK2 => wrl ?_))
 iterate 2 refine sdm A λa A↦?_
 refine gcl A M (ef rfl rfl) (zfj (hR.below M.bel) (fun t ht => Dt.keep M.bel _ (hD t ht)) hl ⟨hF.inv, fun t w1 ht hb => hF.run t w1 ht (M.bel.trans (hb.mono M.bel.size))⟩) fun w4 hb3 M a A => ?_
 rcases tf (decide (0 ≤ qtj p ts)) with hb5 | hb5
 ·
  have hb5' := of_decide_eq_true hb5
  refine sdc A yh hb5 λa A↦?_
  refine sda A λa A↦?_
  refine qa (hK2 _ _ (wp_ret (hret _ _ (en1 A rfl (qh rfl) ?_))))
  exact ⟨by rw [← zce p ts]; simp_all, M.bel⟩
 ·
  have hb5' := of_decide_eq_false hb5
  refine sdc A yh hb5 λa A↦?_
  refine sda A λa A↦?_
  refine qa (hK2 _ _ (wp_ret (hret _ _ (en1 A rfl (qh rfl) ?_))))
  exact ⟨by rw [← zce p ts]; simp_all, M.bel⟩
theorem qub {w : World} {t : Dt} (ht : t.rd w) (hT : Tabs8 w) : Calls Tryz.prog 61 #[.agg (t.d.cells t.ts.length).toArray] w fun e w' => e = .returned (.bool (!zd qn t.tr)) ∧ Below w.heap.size w w' := by
 have M : Mg w w ([]) := Mg.start w
 refine qm (l := [(0, .agg (t.d.cells t.ts.length).toArray)]) Tryz.func61 rfl Tryz.ntmps61 rfl rfl ?_
 intro Q hret hnorm hP a A
 refine wsk fun K1 hK1 => wrl (ja (vs := (t.d.cells t.ts.length)) (t := 30) A M rfl rfl rfl pg (qs rfl rfl) (by decide) ?_)
 intro g2 w3 M a A
 refine sda A λa A↦?_
 refine qa (hK1 _ _ (wsk fun K4 hK4 => wrl (sdo A (zg M LiC_isS_30 rfl 0 rfl (cs := (t.d.cells t.ts.length)) rfl rfl) λa A↦?_)))
 rcases tf (zd qn t.tr) with hb5 | hb5
 ·
  refine gcl A M (ef rfl rfl) ((hb5 ▸ sound_any (t := t) (Dt.keep M.bel _ ht) (hT.below M.bel))) fun w7 hb6 M a A => ?_
  refine sdo (v := .bool false) A (zk rfl zx) λa A↦?_
  refine sda A λa A↦?_
  refine qa (hK4 _ _ (wp_ret (hret _ _ (en1 A rfl (qh rfl) ?_))))
  exact ⟨by simp_all, M.bel⟩
 ·
  refine gcl A M (ef rfl rfl) ((hb5 ▸ sound_any (t := t) (Dt.keep M.bel _ ht) (hT.below M.bel))) fun w9 hb8 M a A => ?_
  refine sdo (v := .bool true) A (zk rfl zx) λa A↦?_
  refine sda A λa A↦?_
  refine qa (hK4 _ _ (wp_ret (hret _ _ (en1 A rfl (qh rfl) ?_))))
  exact ⟨by simp_all, M.bel⟩
theorem qpj {w : World} {ts : List Dt} (hD : ∀ t ∈ ts, t.rd w) (hT : Tabs8 w) : Asks Tryz.prog 61 [] w ts (fun t => !zd qn t.tr) := ⟨fun us w => by kernel_rfl, fun t w1 ht hb => qub (Dt.keep hb _ (hD t ht)) (hT.below hb)⟩
theorem zga (ts : List Dt) : (!ts.any fun t => !zd qn t.tr) = ts.all fun t => zd qn t.tr := by
 induction ts with
 | nil => rfl
 | cons t ts ih => rw [List.any_cons, List.all_cons, Bool.not_or, Bool.not_not, ih]
theorem qqa {w : World} {so : Option Addr} {ca : Nat} {ts : List Dt} (hR : Rt w so ts) (hD : ∀ t ∈ ts, t.rd w) (hl : ts.length ≤ 1000000000) (hT : Tabs8 w) : Calls Tryz.prog 34 #[.slice so ts.length ca] w fun e w' => e = .returned (.bool (ts.all fun t => zd qn t.tr)) ∧ Below w.heap.size w w' := by
 have M : Mg w w ([]) := Mg.start w
 refine qm (l := [(0, .slice so ts.length ca)]) Tryz.func34 rfl Tryz.ntmps34 rfl rfl ?_
 intro Q hret hnorm hP a A
 refine wsk fun K1 hK1 => wrl (sda A λa A↦?_)
 refine qa (hK1 _ _ (wsk fun K2 hK2 => wrl (sdm A λa A↦?_)))
 refine gcl A M (ef rfl rfl) (qpi (cs := []) (hR.below M.bel) (fun t ht => Dt.keep M.bel _ (hD t ht)) hl (qpj (fun t ht => Dt.keep M.bel _ (hD t ht)) (hT.below M.bel))) fun w4 hb3 M a A => ?_
 refine sdo (v := .bool (!(ts.any fun t => !zd qn t.tr))) A (zk rfl zx) λa A↦?_
 refine sda A λa A↦?_
 refine qa (hK2 _ _ (wp_ret (hret _ _ (en1 A rfl (qh rfl) ?_))))
 exact ⟨by rw [← zga], M.bel⟩
section
variable {α : Type}
/-- Two rows, merged: of what is alike, the first row's stands first. -/
def mrg (lt : α → α → Bool) : List α → List α → List α
  | [], ys => ys
  | x :: xs, [] => x :: xs
  | x :: xs, y :: ys => if lt y x then y :: mrg lt (x :: xs) ys else x :: mrg lt xs (y :: ys)
termination_by xs ys => xs.length + ys.length
/-- Sorted, by putting one after the other in. -/
def zp (lt : α → α → Bool) : List α → List α
  | [] => []
  | x :: xs => mrg lt [x] (zp lt xs)
/-- A total order but for what is alike. -/
structure Swo (lt : α → α → Bool) : Prop where
  asy : ∀ x y, lt x y = true → lt y x = false
  neg : ∀ x y z, lt x y = false → lt y z = false → lt x z = false
variable {lt : α → α → Bool}
theorem vd (ys : List α) : mrg lt [] ys = ys := by rw [mrg]
theorem vn : ∀ xs : List α, mrg lt xs [] = xs
  | [] => vd []
  | x :: xs => by rw [mrg]
theorem kf {x y : α} {xs ys : List α} (h : lt y x = true) : mrg lt (x :: xs) (y :: ys) = y :: mrg lt (x :: xs) ys := by rw [mrg, if_pos h]
theorem ya {x y : α} {xs ys : List α} (h : lt y x = false) : mrg lt (x :: xs) (y :: ys) = x :: mrg lt xs (y :: ys) := by rw [mrg, if_neg (by rw [h]; decide)]
theorem Swo.tr (H : Swo lt) {x y z : α} (h1 : lt x y = true) (h2 : lt y z = true) : lt x z = true := by
  cases h : lt x z with
  | true => rfl
  | false => exact absurd (H.neg _ _ _ h (H.asy _ _ h2)) (by rw [h1]; decide)
/-- `x < y ≤ z`. -/
theorem Swo.tl (H : Swo lt) {x y z : α} (h1 : lt x y = true) (h2 : lt z y = false) : lt x z = true := by
  cases h : lt x z with
  | true => rfl
  | false => exact absurd (H.neg _ _ _ h h2) (by rw [h1]; decide)
/-- `x ≤ y < z`. -/
theorem Swo.lt_ (H : Swo lt) {x y z : α} (h1 : lt y x = false) (h2 : lt y z = true) : lt x z = true := by
  cases h : lt x z with
  | true => rfl
  | false => exact absurd (H.neg _ _ _ h1 h) (by rw [h2]; decide)
theorem yb : ∀ xs ys : List α, (mrg lt xs ys).Perm (xs ++ ys)
  | [], ys => by rw [vd]; exact List.Perm.refl _
  | x :: xs, [] => by rw [vn, List.append_nil]
  | x :: xs, y :: ys => by
    cases h : lt y x with
    | true => rw [kf h]; exact ((yb (x :: xs) ys).cons y).trans List.perm_middle.symm
    | false => rw [ya h]; exact (yb xs (y :: ys)).cons x
termination_by xs ys => xs.length + ys.length
theorem jw : ∀ xs : List α, (zp lt xs).Perm xs
  | [] => List.Perm.refl _
  | x :: xs => (yb [x] _).trans ((jw xs).cons x)
theorem qie (xs ys : List α) : (mrg lt xs ys).length = xs.length + ys.length := by rw [(yb xs ys).length_eq, List.length_append]
theorem xp (xs : List α) : (zp lt xs).length = xs.length := (jw xs).length_eq
/-- The merge of two rows whose fore parts lie ahead of their rear parts. -/
theorem kw : ∀ (a1 b1 a2 b2 : List α), (∀ x ∈ a1, ∀ y ∈ b2, lt y x = false) → (∀ y ∈ b1, ∀ x ∈ a2, lt y x = true) → mrg lt (a1 ++ a2) (b1 ++ b2) = mrg lt a1 b1 ++ mrg lt a2 b2
  | [], [], a2, b2, _, _ => by rw [vd]; rfl
  | [], y :: b1, a2, b2, h1, h2 => by
    rw [vd]
    cases a2 with
    | nil => rw [vd]; simp [vd]
    | cons x a2 =>
      show mrg lt (x :: a2) (y :: (b1 ++ b2)) = _
      rw [kf (h2 y (List.mem_cons_self ..) x (List.mem_cons_self ..))]
      have := kw [] b1 (x :: a2) b2 h1 fun z hz => h2 z (List.mem_cons_of_mem _ hz)
      rw [vd, List.nil_append] at this
      rw [this]; rfl
  | x :: a1, [], a2, b2, h1, h2 => by
    rw [vn]
    cases b2 with
    | nil => rw [vn]; simp [vn]
    | cons y b2 =>
      show mrg lt (x :: (a1 ++ a2)) (y :: b2) = _
      rw [ya (h1 x (List.mem_cons_self ..) y (List.mem_cons_self ..))]
      have := kw a1 [] a2 (y :: b2) (fun z hz => h1 z (List.mem_cons_of_mem _ hz)) h2
      rw [vn, List.nil_append] at this
      rw [this]; rfl
  | x :: a1, y :: b1, a2, b2, h1, h2 => by
    show mrg lt (x :: (a1 ++ a2)) (y :: (b1 ++ b2)) = _
    cases h : lt y x with
    | true =>
      rw [kf h, kf h]
      have := kw (x :: a1) b1 a2 b2 h1 fun z hz => h2 z (List.mem_cons_of_mem _ hz)
      rw [List.cons_append] at this
      rw [this]; rfl
    | false =>
      rw [ya h, ya h]
      have := kw a1 (y :: b1) a2 b2 (fun z hz => h1 z (List.mem_cons_of_mem _ hz)) h2
      rw [List.cons_append] at this
      rw [this]; rfl
termination_by a1 b1 => a1.length + b1.length
theorem yy (H : Swo lt) : ∀ a b c : List α, mrg lt (mrg lt a b) c = mrg lt a (mrg lt b c)
  | [], b, c => by rw [vd, vd]
  | x :: a, [], c => by rw [vn, vd]
  | x :: a, y :: b, [] => by rw [vn, vn]
  | x :: a, y :: b, z :: c => by
    cases hyx : lt y x with
    | true =>
      rw [kf hyx]
      cases hzy : lt z y with
      | true => rw [kf hzy, kf hzy, kf (H.tr hzy hyx), ← kf hyx, yy H (x :: a) (y :: b) c]
      | false => rw [ya hzy, ya hzy, kf hyx, yy H (x :: a) b (z :: c)]
    | false =>
      rw [ya hyx]
      cases hzx : lt z x with
      | true =>
        have hzy := H.tl hzx hyx
        rw [kf hzx, kf hzy, kf hzx, ← ya hyx, yy H (x :: a) (y :: b) c]
      | false =>
        rw [ya hzx, yy H a (y :: b) (z :: c)]
        cases hzy : lt z y with
        | true => rw [kf hzy, ya hzx]
        | false => rw [ya hzy, ya hyx]
termination_by a b c => a.length + b.length + c.length
theorem qbi (H : Swo lt) : ∀ xs ys : List α, zp lt (xs ++ ys) = mrg lt (zp lt xs) (zp lt ys)
  | [], ys => (vd _).symm
  | x :: xs, ys => by
    show mrg lt [x] (zp lt (xs ++ ys)) = mrg lt (mrg lt [x] (zp lt xs)) _
    rw [qbi H xs ys, yy H]
/-- In order: no later one lies ahead of an earlier one. -/
def Up (lt : α → α → Bool) (l : List α) : Prop := l.Pairwise fun x y => lt y x = false
theorem qza (H : Swo lt) : ∀ {xs ys : List α}, Up lt xs → Up lt ys → Up lt (mrg lt xs ys)
  | [], ys, _, h => by rw [vd]; exact h
  | x :: xs, [], h, _ => by rw [vn]; exact h
  | x :: xs, y :: ys, hx, hy => by
    cases h : lt y x with
    | true =>
      rw [kf h]
      refine List.pairwise_cons.2 ⟨fun z hz => ?_, qza H hx (List.pairwise_cons.1 hy).2⟩
      rcases List.mem_append.1 ((yb _ _).mem_iff.1 hz) with hz | hz
      · rcases List.mem_cons.1 hz with rfl | hz
        · exact H.asy _ _ h
        · exact H.neg _ _ _ ((List.pairwise_cons.1 hx).1 z hz) (H.asy _ _ h)
      · exact (List.pairwise_cons.1 hy).1 z hz
    | false =>
      rw [ya h]
      refine List.pairwise_cons.2 ⟨fun z hz => ?_, qza H (List.pairwise_cons.1 hx).2 hy⟩
      rcases List.mem_append.1 ((yb _ _).mem_iff.1 hz) with hz | hz
      · exact (List.pairwise_cons.1 hx).1 z hz
      · rcases List.mem_cons.1 hz with rfl | hz
        · exact h
        · exact H.neg _ _ _ ((List.pairwise_cons.1 hy).1 z hz) h
termination_by xs ys => xs.length + ys.length
theorem kg (H : Swo lt) : ∀ xs : List α, Up lt (zp lt xs)
  | [] => List.Pairwise.nil
  | _ :: xs => qza H (List.pairwise_singleton _ _) (kg H xs)
/-! ### Merging by places -/
theorem Up.last (H : Swo lt) {l : List α} {z : α} (h : Up lt (l ++ [z])) : ∀ x ∈ l ++ [z], lt z x = false := fun x hx => by
  rcases List.mem_append.1 hx with hx | hx
  · exact (List.pairwise_append.1 h).2.2 x hx z (List.mem_singleton.2 rfl)
  · rw [List.mem_singleton.1 hx]; cases h9 : lt z z with
    | false => rfl
    | true => exact absurd (H.asy _ _ h9) (by rw [h9]; decide)
theorem Up.head (H : Swo lt) {l : List α} {z : α} (h : Up lt (z :: l)) : ∀ x ∈ z :: l, lt x z = false := fun x hx => by
  rcases List.mem_cons.1 hx with rfl | hx
  · cases h9 : lt x x with
    | false => rfl
    | true => exact absurd (H.asy _ _ h9) (by rw [h9]; decide)
  · exact (List.pairwise_cons.1 h).1 x hx
/-- Two rows, each in order: what is asked at the four vh is so throughout. -/
theorem yd (H : Swo lt) {a1 a2 b1 b2 : List α} (ha : Up lt (a1 ++ a2)) (hb : Up lt (b1 ++ b2)) (h1 : ∀ x ∈ a1.getLast?, ∀ y ∈ b2.head?, lt y x = false) (h2 : ∀ y ∈ b1.getLast?, ∀ x ∈ a2.head?, lt y x = true) : mrg lt (a1 ++ a2) (b1 ++ b2) = mrg lt a1 b1 ++ mrg lt a2 b2 := by
  have ua := List.pairwise_append.1 ha
  have ub := List.pairwise_append.1 hb
  refine kw a1 b1 a2 b2 (fun x hx y hy => ?_) (fun y hy x hx => ?_)
  · rcases List.eq_nil_or_concat a1 with rfl | ⟨l, z, rfl⟩
    · cases hx
    · cases b2 with
      | nil => cases hy
      | cons v b2 =>
        rw [List.concat_eq_append] at *
        have h3 := h1 z (by simp) v rfl
        exact H.neg _ _ _ (Up.head H ub.2.1 y hy) (H.neg _ _ _ h3 (Up.last H ua.1 x hx))
  · rcases List.eq_nil_or_concat b1 with rfl | ⟨l, z, rfl⟩
    · cases hy
    · cases a2 with
      | nil => cases hx
      | cons v a2 =>
        rw [List.concat_eq_append] at *
        have h3 := h2 z (by simp) v rfl
        exact H.tl (H.lt_ (Up.last H ub.1 y hy) h3) (Up.head H ua.2.1 x hx)
end
section
variable {α : Type} {lt : α → α → Bool}
/-- Two places exchanged. -/
def swp (l : List α) (i j : Nat) : List α := match l[i]?, l[j]? with
  | some a, some b => (l.set i b).set j a
  | _, _ => l
theorem yt {l : List α} {i j : Nat} {a b : α} (ha : l[i]? = some a) (hb : l[j]? = some b) : (l.set i b).set j a = swp l i j := by
  unfold swp; rw [ha, hb]
theorem kq (l : List α) (i j : Nat) : (swp l i j).length = l.length := by
  unfold swp; split <;> simp
theorem zcf (p u v : List α) (a b : α) : swp (p ++ a :: (u ++ b :: v)) p.length (p.length + 1 + u.length) = p ++ b :: (u ++ a :: v) := by
  have h1 : (p ++ a :: (u ++ b :: v))[p.length]? = some a := by simp
  have h2 : (p ++ a :: (u ++ b :: v))[p.length + 1 + u.length]? = some b := by
    rw [List.getElem?_append_right (by omega), show p.length + 1 + u.length - p.length = u.length + 1 by omega, List.getElem?_cons_succ]; simp
  rw [← yt h1 h2]
  have h3 : (p ++ a :: (u ++ b :: v)).set p.length b = p ++ b :: (u ++ b :: v) := by rw [List.set_append_right _ _ (Nat.le_refl _), Nat.sub_self]; rfl
  rw [h3, List.set_append_right _ _ (by omega), show p.length + 1 + u.length - p.length = u.length + 1 by omega, List.set_cons_succ, List.set_append_right _ _ (Nat.le_refl _), Nat.sub_self]; rfl
theorem qej (p u v : List α) (a b : α) : swp (p ++ a :: (u ++ b :: v)) (p.length + 1 + u.length) p.length = p ++ b :: (u ++ a :: v) := by
  have h1 : (p ++ a :: (u ++ b :: v))[p.length]? = some a := by simp
  have h2 : (p ++ a :: (u ++ b :: v))[p.length + 1 + u.length]? = some b := by
    rw [List.getElem?_append_right (by omega), show p.length + 1 + u.length - p.length = u.length + 1 by omega, List.getElem?_cons_succ]; simp
  rw [← yt h2 h1]
  have h3 : (p ++ a :: (u ++ b :: v)).set (p.length + 1 + u.length) a = p ++ a :: (u ++ a :: v) := by
    rw [List.set_append_right _ _ (by omega), show p.length + 1 + u.length - p.length = u.length + 1 by omega, List.set_cons_succ, List.set_append_right _ _ (Nat.le_refl _), Nat.sub_self]; rfl
  rw [h3, List.set_append_right _ _ (Nat.le_refl _), Nat.sub_self]; rfl
/-- One place moved up by so many, by exchanges. -/
def mvU (l : List α) (k : Nat) : Nat → List α
  | 0 => l
  | n + 1 => mvU (swp l k (k + 1)) (k + 1) n
theorem zla (s : List α) (x : α) : ∀ (u p : List α), mvU (p ++ x :: (u ++ s)) p.length u.length = p ++ (u ++ x :: s)
  | [], p => rfl
  | y :: u, p => by
    show mvU (swp (p ++ x :: ([] ++ y :: (u ++ s))) p.length (p.length + 1 + ([] : List α).length)) (p.length + 1) u.length = _
    rw [zcf]
    have := zla s x u (p ++ [y])
    rw [List.length_append, List.append_assoc, List.append_assoc] at this
    exact this
/-- One place moved down to a place, by exchanges. -/
def mvD (l : List α) (k : Nat) : Nat → List α
  | 0 => l
  | n + 1 => mvD (swp l k (k - 1)) (k - 1) n
theorem zlb (p : List α) (x : α) : ∀ (n : Nat) (u s : List α), u.length = n → mvD (p ++ (u ++ x :: s)) (p.length + n) n = p ++ x :: (u ++ s)
  | 0, u, s, h => by rw [List.length_eq_zero_iff.1 h]; rfl
  | n + 1, u, s, h => by
    rcases List.eq_nil_or_concat u with rfl | ⟨v, y, rfl⟩
    · cases h
    · rw [List.concat_eq_append] at *
      have hv : v.length = n := by rw [List.length_append] at h; exact Nat.succ.inj h
      have e : p ++ (v ++ [y] ++ x :: s) = (p ++ v) ++ y :: ([] ++ x :: s) := by simp
      show mvD (swp _ (p.length + n + 1) (p.length + n)) (p.length + n) n = _
      have h5 := qej (p ++ v) [] s y x
      rw [List.length_append, hv] at h5
      rw [e, show p.length + n + 1 = p.length + n + 1 + ([] : List α).length from rfl, h5]
      have := zlb p x n v (y :: s) hv
      rw [List.append_assoc]
      simp only [List.nil_append]
      rw [this]; simp
/-- Two stretches of one length exchanged. -/
def swR (l : List α) (a b : Nat) : Nat → List α
  | 0 => l
  | n + 1 => swR (swp l a b) (a + 1) (b + 1) n
theorem zcg (n : Nat) : ∀ (l : List α) (a b : Nat), (swR l a b n).length = l.length := by
  induction n with
  | zero => intro l a b; rfl
  | succ n ih => intro l a b; show (swR _ _ _ n).length = _; rw [ih, kq]
theorem qqb (s : List α) : ∀ (x z p y : List α), x.length = z.length → swR (p ++ (x ++ (y ++ (z ++ s)))) p.length (p.length + x.length + y.length) x.length = p ++ (z ++ (y ++ (x ++ s)))
  | [], z, p, y, h => by rw [List.length_eq_zero_iff.1 h.symm]; rfl
  | a :: x, [], p, y, h => by cases h
  | a :: x, b :: z, p, y, h => by
    have e : p ++ (a :: x ++ (y ++ (b :: z ++ s))) = p ++ a :: ((x ++ y) ++ b :: (z ++ s)) := by simp
    show swR (swp _ p.length (p.length + (x.length + 1) + y.length)) (p.length + 1) (p.length + (x.length + 1) + y.length + 1) x.length = _
    have h5 := zcf p (x ++ y) (z ++ s) a b
    rw [List.length_append] at h5
    rw [e, show p.length + (x.length + 1) + y.length = p.length + 1 + (x.length + y.length) by omega, h5]
    have := qqb s x z (p ++ [b]) (y ++ [a]) (Nat.succ.inj h)
    rw [List.length_append, List.length_append] at this
    have e2 : p ++ b :: (x ++ y ++ a :: (z ++ s)) = p ++ [b] ++ (x ++ (y ++ [a] ++ (z ++ s))) := by simp
    rw [e2, show p.length + 1 + (x.length + y.length) + 1 = p.length + [b].length + x.length + (y.length + [a].length) by simp; omega]
    show swR _ (p.length + [b].length) _ _ = _
    rw [this]; simp
/-- Two neighbours, the other way round. -/
def rot (l : List α) (a m b : Nat) : List α := l.take a ++ ((l.take b).drop m ++ ((l.take m).drop a ++ l.drop b))
theorem ui (p u v s : List α) : rot (p ++ (u ++ (v ++ s))) p.length (p.length + u.length) (p.length + u.length + v.length) = p ++ (v ++ (u ++ s)) := by
  unfold rot
  have e1 : (p ++ (u ++ (v ++ s))).take p.length = p := by rw [List.take_left']; rfl
  have e2 : (p ++ (u ++ (v ++ s))).take (p.length + u.length) = p ++ u := by
    rw [← List.append_assoc]; exact List.take_left' (by simp)
  have e3 : (p ++ (u ++ (v ++ s))).take (p.length + u.length + v.length) = (p ++ u) ++ v := by
    rw [← List.append_assoc, ← List.append_assoc]; exact List.take_left' (by simp; omega)
  have e4 : (p ++ (u ++ (v ++ s))).drop (p.length + u.length + v.length) = s := by
    rw [← List.append_assoc, ← List.append_assoc]; exact List.drop_left' (by simp; omega)
  rw [e1, e2, e3, e4, List.drop_left' rfl, List.drop_left' (by simp)]
/-- A row, taken apart at four places. -/
theorem kj (l : List α) {a m b : Nat} (h1 : a ≤ m) (h2 : m ≤ b) (h3 : b ≤ l.length) : ∃ p u v s : List α, l = p ++ (u ++ (v ++ s)) ∧ p.length = a ∧ u.length = m - a ∧ v.length = b - m := by
  refine ⟨l.take a, (l.drop a).take (m - a), (l.drop m).take (b - m), l.drop b, ?_, ?_, ?_, ?_⟩
  · have e3 : l.drop m = (l.drop m).take (b - m) ++ l.drop b := by
      rw [show l.drop b = (l.drop m).drop (b - m) by rw [List.drop_drop]; congr 1; omega]; exact (List.take_append_drop _ _).symm
    have e2 : l.drop a = (l.drop a).take (m - a) ++ l.drop m := by
      rw [show l.drop m = (l.drop a).drop (m - a) by rw [List.drop_drop]; congr 1; omega]; exact (List.take_append_drop _ _).symm
    rw [← e3, ← e2]; exact (List.take_append_drop _ _).symm
  · rw [List.length_take]; omega
  · rw [List.length_take, List.length_drop]; omega
  · rw [List.length_take, List.length_drop]; omega
theorem ztb {l : List α} {m i j : Nat} (hi : i ≤ m) (hj : m + j ≤ l.length) (h : j < i) : rot (swR l (m - i) m j) (m - (i - j)) m (m + j) = rot l (m - i) m (m + j) := by
  obtain ⟨p, u, v, s, rfl, hp, hu, hv⟩ := kj l (a := m - i) (m := m) (b := m + j) (by omega) (by omega) hj
  obtain ⟨u1, u2, hu12, h1⟩ : ∃ u1 u2 : List α, u = u1 ++ u2 ∧ u1.length = j := ⟨u.take j, u.drop j, (List.take_append_drop _ _).symm, by rw [List.length_take]; omega⟩
  subst hu12
  rw [List.length_append] at hu
  have e := qqb s u1 v p u2 (by omega)
  rw [show p ++ (u1 ++ u2 ++ (v ++ s)) = p ++ (u1 ++ (u2 ++ (v ++ s))) by simp]
  rw [show p.length + u1.length + u2.length = m by omega, hp, h1] at e
  rw [e]
  have r1 := ui (p ++ v) u2 u1 s
  rw [show (p ++ v).length + u2.length + u1.length = m + j by rw [List.length_append]; omega, show (p ++ v).length + u2.length = m by rw [List.length_append]; omega, show (p ++ v).length = m - (i - j) by rw [List.length_append]; omega] at r1
  have r2 := ui p (u1 ++ u2) v s
  rw [show p.length + (u1 ++ u2).length + v.length = m + j by rw [List.length_append]; omega, show p.length + (u1 ++ u2).length = m by rw [List.length_append]; omega, hp] at r2
  rw [show p ++ (v ++ (u2 ++ (u1 ++ s))) = p ++ v ++ (u2 ++ (u1 ++ s)) by simp, r1, show p ++ (u1 ++ (u2 ++ (v ++ s))) = p ++ (u1 ++ u2 ++ (v ++ s)) by simp, r2]; simp
theorem ztc {l : List α} {m i j : Nat} (hi : i ≤ m) (hj : m + j ≤ l.length) (h : i < j) : rot (swR l (m - i) (m + j - i) i) (m - i) m (m + (j - i)) = rot l (m - i) m (m + j) := by
  obtain ⟨p, u, v, s, rfl, hp, hu, hv⟩ := kj l (a := m - i) (m := m) (b := m + j) (by omega) (by omega) hj
  obtain ⟨v1, v2, hv12, h1⟩ : ∃ v1 v2 : List α, v = v1 ++ v2 ∧ v1.length = j - i := ⟨v.take (j - i), v.drop (j - i), (List.take_append_drop _ _).symm, by rw [List.length_take]; omega⟩
  subst hv12
  rw [List.length_append] at hv
  have e := qqb s u v2 p v1 (by omega)
  rw [show p ++ (u ++ (v1 ++ v2 ++ s)) = p ++ (u ++ (v1 ++ (v2 ++ s))) by simp]
  rw [show p.length + u.length + v1.length = m + j - i by omega, hp, show u.length = i by omega] at e
  rw [e]
  have r1 := ui p v2 v1 (u ++ s)
  rw [show p.length + v2.length + v1.length = m + (j - i) by omega, show p.length + v2.length = m by omega, hp] at r1
  have r2 := ui p u (v1 ++ v2) s
  rw [show p.length + u.length + (v1 ++ v2).length = m + j by rw [List.length_append]; omega, show p.length + u.length = m by omega, hp] at r2
  rw [r1, show p ++ (u ++ (v1 ++ (v2 ++ s))) = p ++ (u ++ (v1 ++ v2 ++ s)) by simp, r2]; simp
theorem zqd {l : List α} {m i : Nat} (hi : i ≤ m) (hj : m + i ≤ l.length) : swR l (m - i) m i = rot l (m - i) m (m + i) := by
  obtain ⟨p, u, v, s, rfl, hp, hu, hv⟩ := kj l (a := m - i) (m := m) (b := m + i) (by omega) (by omega) hj
  have e := qqb s u v p [] (by omega)
  have r := ui p u v s
  rw [show p.length + u.length + v.length = m + i by omega, show p.length + u.length = m by omega, hp] at r
  simp only [List.nil_append, List.length_nil, Nat.add_zero] at e
  rw [show p.length + u.length = m by omega, hp, show u.length = i by omega] at e
  rw [e, r]
end
section
variable {α : Type} {lt : α → α → Bool}
/-- What stands at one place lies ahead of what stands at another. -/
def ltA (lt : α → α → Bool) (l : List α) (i j : Nat) : Bool := match l[i]?, l[j]? with
  | some x, some y => lt x y
  | _, _ => false
theorem qaf {l : List α} {i j : Nat} {a b : α} (ha : l[i]? = some a) (hb : l[j]? = some b) : ltA lt l i j = lt a b := by
  unfold ltA; rw [ha, hb]
/-- One put down as long as it lies ahead. -/
def qbj (lt : α → α → Bool) (a : Nat) (l : List α) : Nat → List α
  | 0 => l
  | j + 1 => if a < j + 1 ∧ ltA lt l (j + 1) j = true then qbj lt a (swp l (j + 1) j) j else l
theorem quc {a j : Nat} {l : List α} (h : j ≤ a) : qbj lt a l j = l := by
  cases j with
  | zero => rfl
  | succ j => rw [qbj, if_neg fun h9 => by have := h9.1; omega]
theorem qnh {a j : Nat} {l : List α} (h : ltA lt l j (j - 1) = false) : qbj lt a l j = l := by
  cases j with
  | zero => rfl
  | succ j => rw [qbj, if_neg fun h9 => by rw [Nat.add_sub_cancel] at h; rw [h] at h9; cases h9.2]
theorem qqc {a j : Nat} {l : List α} (ha : a < j) (h : ltA lt l j (j - 1) = true) : qbj lt a (swp l j (j - 1)) (j - 1) = qbj lt a l j := by
  cases j with
  | zero => omega
  | succ j => rw [Nat.add_sub_cancel] at *; rw [qbj.eq_2, if_pos ⟨ha, h⟩]
/-- One after the other put down. -/
def qci (lt : α → α → Bool) (a : Nat) : Nat → Nat → List α → List α
  | 0, _, l => l
  | n + 1, i, l => qci lt a n (i + 1) (qbj lt a l i)
theorem qhe {p r : List α} {x : α} {k : Nat} (h : p.length = k) : (p ++ x :: r)[k]? = some x := by subst h; simp
theorem zch (H : Swo lt) (p : List α) (x : α) : ∀ (n : Nat) (s r : List α), s.length = n → Up lt s → qbj lt p.length (p ++ (s ++ x :: r)) (p.length + n) = p ++ (mrg lt s [x] ++ r)
  | 0, s, r, h, _ => by rw [List.length_eq_zero_iff.1 h, quc (by omega), vd]; rfl
  | n + 1, s, r, h, hu => by
    rcases List.eq_nil_or_concat s with rfl | ⟨v, y, rfl⟩
    · cases h
    · rw [List.concat_eq_append] at *
      have hv : v.length = n := by rw [List.length_append] at h; exact Nat.succ.inj h
      have hA : ltA lt (p ++ (v ++ [y] ++ x :: r)) (p.length + (n + 1)) (p.length + n) = lt x y := by
        refine qaf ?_ ?_
        · rw [← List.append_assoc]; exact qhe (by simp; omega)
        · rw [show p ++ (v ++ [y] ++ x :: r) = (p ++ v) ++ y :: (x :: r) by simp]; exact qhe (by simp; omega)
      cases hc : lt x y with
      | true =>
        rw [← qqc (by omega) (by show ltA lt _ _ (p.length + n) = true; rw [hA, hc])]
        show qbj lt p.length (swp _ (p.length + n + 1) (p.length + n)) (p.length + n) = _
        have h5 := qej (p ++ v) [] r y x
        rw [List.length_append, hv] at h5
        rw [show p ++ (v ++ [y] ++ x :: r) = (p ++ v) ++ y :: ([] ++ x :: r) by simp, show p.length + n + 1 = p.length + n + 1 + ([] : List α).length from rfl, h5]
        have h6 := zch H p x n v (y :: r) hv (List.pairwise_append.1 hu).1
        rw [List.append_assoc, List.nil_append, h6]
        have h7 := yd (a1 := v) (a2 := [y]) (b1 := [x]) (b2 := []) H hu (List.pairwise_singleton _ _) (fun _ _ z hz => by cases hz) (fun z hz u hu => by cases hz; cases hu; exact hc)
        rw [List.append_nil, vn] at h7
        rw [h7]; simp
      | false =>
        rw [qnh (by show ltA lt _ _ (p.length + n) = false; rw [hA, hc])]
        have h7 := yd (a1 := v ++ [y]) (a2 := []) (b1 := []) (b2 := [x]) H (by rw [List.append_nil]; exact hu) (List.pairwise_singleton _ _) (fun z hz u hu => by rw [List.getLast?_append] at hz; cases hz; cases hu; exact hc) (fun z hz => by cases hz)
        rw [List.append_nil, List.nil_append, vn, vd] at h7
        rw [h7]; simp
theorem zci (H : Swo lt) (p r : List α) : ∀ (u s : List α), qci lt p.length u.length (p.length + s.length) (p ++ (zp lt s ++ (u ++ r))) = p ++ (zp lt (s ++ u) ++ r)
  | [], s => by rw [List.append_nil]; rfl
  | x :: u, s => by
    show qci lt _ u.length _ (qbj lt _ (p ++ (zp lt s ++ x :: (u ++ r))) _) = _
    have h := zch H p x s.length (zp lt s) (u ++ r) (xp s) (kg H s)
    rw [h]
    have h2 := zci H p r u (s ++ [x])
    rw [qbi H s [x], show zp lt [x] = [x] from vn _, List.length_append] at h2
    rw [Nat.add_assoc]
    refine h2.trans ?_
    rw [List.append_assoc]; rfl
/-- A stretch sorted by putting one after the other down. -/
theorem qud (H : Swo lt) (p u r : List α) {a b : Nat} (ha : p.length = a) (hb : a + u.length = b) : qci lt a (b - (a + 1)) (a + 1) (p ++ (u ++ r)) = p ++ (zp lt u ++ r) := by
  subst ha; subst hb
  cases u with
  | nil => rw [show p.length + ([] : List α).length - (p.length + 1) = 0 by simp]; rfl
  | cons x u =>
    have := zci H p r u [x]
    rw [show zp lt [x] = [x] from vn _] at this
    rw [show p.length + (x :: u).length - (p.length + 1) = u.length by simp; omega]
    exact this
/-- Two neighbours merged. -/
def mg (lt : α → α → Bool) (l : List α) (a m b : Nat) : List α := l.take a ++ (mrg lt ((l.take m).drop a) ((l.take b).drop m) ++ l.drop b)
theorem qcc (p u v s : List α) {a m b : Nat} (ha : p.length = a) (hm : a + u.length = m) (hb : m + v.length = b) : mg lt (p ++ (u ++ (v ++ s))) a m b = p ++ (mrg lt u v ++ s) := by
  subst ha; subst hm; subst hb
  unfold mg
  have e1 : (p ++ (u ++ (v ++ s))).take p.length = p := by rw [List.take_left']; rfl
  have e2 : (p ++ (u ++ (v ++ s))).take (p.length + u.length) = p ++ u := by
    rw [← List.append_assoc]; exact List.take_left' (by simp)
  have e3 : (p ++ (u ++ (v ++ s))).take (p.length + u.length + v.length) = (p ++ u) ++ v := by
    rw [← List.append_assoc, ← List.append_assoc]; exact List.take_left' (by simp; omega)
  have e4 : (p ++ (u ++ (v ++ s))).drop (p.length + u.length + v.length) = s := by
    rw [← List.append_assoc, ← List.append_assoc]; exact List.drop_left' (by simp; omega)
  rw [e1, e2, e3, e4, List.drop_left' rfl, List.drop_left' (by simp)]
/-- A stretch is in order. -/
def UpS (lt : α → α → Bool) (l : List α) (a m : Nat) : Prop := Up lt ((l.take m).drop a)
theorem kk (p u s : List α) {a m : Nat} (ha : p.length = a) (hm : a + u.length = m) : UpS lt (p ++ (u ++ s)) a m ↔ Up lt u := by
  subst ha; subst hm
  unfold UpS
  rw [← List.append_assoc, List.take_left' (by simp), List.drop_left' rfl]
theorem ztd {l : List α} {a m b : Nat} (h1 : a ≤ m) (h2 : m ≤ b) (h3 : b ≤ l.length) : (mg lt l a m b).length = l.length := by
  obtain ⟨p, u, v, s, rfl, hp, hu, hv⟩ := kj l h1 h2 h3
  rw [qcc p u v s hp (by omega) (by omega)]
  simp only [List.length_append, qie]; omega
theorem zlc {l : List α} {a m b : Nat} (h1 : a ≤ m) (h2 : m ≤ b) (h3 : b ≤ l.length) {x : α} (hx : x ∈ mg lt l a m b) : x ∈ l := by
  obtain ⟨p, u, v, s, rfl, hp, hu, hv⟩ := kj l h1 h2 h3
  rw [qcc p u v s hp (by omega) (by omega)] at hx
  simp only [List.mem_append, (yb u v).mem_iff] at *
  rcases hx with h | (h | h) | h <;> simp [h]
theorem zqe {l : List α} {a m b : Nat} (h1 : a ≤ m) (h2 : m ≤ b) (h3 : b ≤ l.length) {x : α} (hx : x ∈ rot l a m b) : x ∈ l := by
  obtain ⟨p, u, v, s, rfl, hp, hu, hv⟩ := kj l h1 h2 h3
  have r := ui p u v s
  rw [show p.length + u.length + v.length = b by omega, show p.length + u.length = m by omega, hp] at r
  rw [r] at hx
  simp only [List.mem_append] at *
  rcases hx with h | h | h | h <;> simp [h]
theorem zqf {l : List α} {a m b : Nat} (h1 : a ≤ m) (h2 : m ≤ b) (h3 : b ≤ l.length) : (rot l a m b).length = l.length := by
  obtain ⟨p, u, v, s, rfl, hp, hu, hv⟩ := kj l h1 h2 h3
  have r := ui p u v s
  rw [show p.length + u.length + v.length = b by omega, show p.length + u.length = m by omega, hp] at r
  rw [r]; simp only [List.length_append]; omega
theorem que {l : List α} {a m b : Nat} (h1 : a ≤ m) (h2 : m ≤ b) (h3 : b ≤ l.length) (h : a = m ∨ m = b) : rot l a m b = l := by
  obtain ⟨p, u, v, s, rfl, hp, hu, hv⟩ := kj l h1 h2 h3
  have r := ui p u v s
  rw [show p.length + u.length + v.length = b by omega, show p.length + u.length = m by omega, hp] at r
  rw [r]
  rcases h with h | h
  · rw [List.length_eq_zero_iff.1 (show u.length = 0 by omega)]; rfl
  · rw [List.length_eq_zero_iff.1 (show v.length = 0 by omega)]; rfl
theorem qif {l : List α} {a m b : Nat} (h1 : a ≤ m) (h2 : m ≤ b) (h3 : b ≤ l.length) (h : a = m ∨ m = b) : mg lt l a m b = l := by
  obtain ⟨p, u, v, s, rfl, hp, hu, hv⟩ := kj l h1 h2 h3
  rw [qcc p u v s hp (by omega) (by omega)]
  rcases h with h | h
  · rw [List.length_eq_zero_iff.1 (show u.length = 0 by omega), vd]; rfl
  · rw [List.length_eq_zero_iff.1 (show v.length = 0 by omega), vn]; rfl
theorem zcj {u : List α} {x : α} (h : x ∈ u.getLast?) : ∃ v, u = v ++ [x] := by
  rcases List.eq_nil_or_concat u with rfl | ⟨v, y, rfl⟩
  · cases h
  · rw [List.concat_eq_append] at *; rw [List.getLast?_append] at h; cases h; exact ⟨v, rfl⟩
theorem qqd {u : List α} {x : α} (h : x ∈ u.head?) : ∃ v, u = x :: v := by
  cases u with
  | nil => cases h
  | cons y u => cases h; exact ⟨u, rfl⟩
/-- The first run is one. -/
theorem zuf (H : Swo lt) {l : List α} {a m b p : Nat} (hm : m = a + 1) (hb : b ≤ l.length) (h1 : m ≤ p) (h2 : p ≤ b) (hu : UpS lt l m b) (hl : p = m ∨ ltA lt l (p - 1) a = true) (hr : p = b ∨ ltA lt l p a = false) : mvU l a (p - 1 - a) = mg lt l a m b := by
  obtain ⟨P, u, v, s, rfl, hp, hu1, hv⟩ := kj l (a := a) (m := m) (b := b) (by omega) (by omega) hb
  obtain ⟨x, rfl⟩ : ∃ x, u = [x] := List.length_eq_one_iff.1 (by omega)
  obtain ⟨v1, v2, rfl, h3⟩ : ∃ v1 v2 : List α, v = v1 ++ v2 ∧ v1.length = p - m := ⟨v.take (p - m), v.drop (p - m), (List.take_append_drop _ _).symm, by rw [List.length_take]; omega⟩
  rw [List.length_append] at hv
  rw [show P ++ ([x] ++ (v1 ++ v2 ++ s)) = (P ++ [x]) ++ ((v1 ++ v2) ++ s) by simp, kk (P ++ [x]) (v1 ++ v2) s (by simp; omega) (by simp; omega)] at hu
  rw [qcc P [x] (v1 ++ v2) s hp (by simp; omega) (by simp; omega)]
  have hx : (P ++ ([x] ++ (v1 ++ v2 ++ s)))[a]? = some x := qhe hp
  have e1 := yd (a1 := []) (a2 := [x]) (b1 := v1) (b2 := v2) H (List.pairwise_singleton _ _) hu (fun z hz => by cases hz) (fun y hy z hz => by
    cases hz; obtain ⟨v3, rfl⟩ := zcj hy
    rw [List.length_append, List.length_singleton] at h3
    rcases hl with hl | hl
    · omega
    · rw [qaf (a := y) (by rw [show P ++ ([x] ++ (v3 ++ [y] ++ v2 ++ s)) = (P ++ [x] ++ v3) ++ y :: (v2 ++ s) by simp]; exact qhe (by simp; omega)) hx] at hl; exact hl)
  have e2 := yd (a1 := [x]) (a2 := []) (b1 := []) (b2 := v2) H (List.pairwise_singleton _ _) (List.pairwise_append.1 hu).2.1 (fun z hz y hy => by
    cases hz; obtain ⟨v3, rfl⟩ := qqd hy
    rw [List.length_cons] at hv
    rcases hr with hr | hr
    · omega
    · rw [qaf (a := y) (by rw [show P ++ ([x] ++ (v1 ++ y :: v3 ++ s)) = (P ++ [x] ++ v1) ++ y :: (v3 ++ s) by simp]; exact qhe (by simp; omega)) hx] at hr; exact hr) (fun z hz => by cases hz)
  rw [List.nil_append, vd] at e1
  rw [List.append_nil, List.nil_append, vn, vd] at e2
  rw [e1, e2]
  have e3 := zla (v2 ++ s) x v1 P
  rw [hp, show v1.length = p - 1 - a by omega] at e3
  rw [show P ++ ([x] ++ (v1 ++ v2 ++ s)) = P ++ x :: (v1 ++ (v2 ++ s)) by simp, e3]; simp
/-- The second run is one. -/
theorem zug (H : Swo lt) {l : List α} {a m b p : Nat} (hm : b = m + 1) (hb : b ≤ l.length) (h1 : a ≤ p) (h2 : p ≤ m) (hu : UpS lt l a m) (hl : p = a ∨ ltA lt l m (p - 1) = false) (hr : p = m ∨ ltA lt l m p = true) : mvD l m (m - p) = mg lt l a m b := by
  obtain ⟨P, u, v, s, rfl, hp, hu1, hv⟩ := kj l (a := a) (m := m) (b := b) (by omega) (by omega) hb
  obtain ⟨x, rfl⟩ : ∃ x, v = [x] := List.length_eq_one_iff.1 (by omega)
  obtain ⟨u1, u2, rfl, h3⟩ : ∃ u1 u2 : List α, u = u1 ++ u2 ∧ u1.length = p - a := ⟨u.take (p - a), u.drop (p - a), (List.take_append_drop _ _).symm, by rw [List.length_take]; omega⟩
  rw [List.length_append] at hu1
  rw [kk P (u1 ++ u2) ([x] ++ s) hp (by simp; omega)] at hu
  rw [qcc P (u1 ++ u2) [x] s hp (by simp; omega) (by simp; omega)]
  have hx : (P ++ (u1 ++ u2 ++ ([x] ++ s)))[m]? = some x := by rw [← List.append_assoc]; exact qhe (by simp; omega)
  have e1 := yd (a1 := u1) (a2 := u2) (b1 := []) (b2 := [x]) H hu (List.pairwise_singleton _ _) (fun y hy z hz => by
    cases hz; obtain ⟨v3, rfl⟩ := zcj hy
    rw [List.length_append, List.length_singleton] at h3
    rcases hl with hl | hl
    · omega
    · rw [qaf (b := y) hx (by rw [show P ++ (v3 ++ [y] ++ u2 ++ ([x] ++ s)) = (P ++ v3) ++ y :: (u2 ++ ([x] ++ s)) by simp]; exact qhe (by simp; omega))] at hl; exact hl) (fun z hz => by cases hz)
  have e2 := yd (a1 := []) (a2 := u2) (b1 := [x]) (b2 := []) H (List.pairwise_append.1 hu).2.1 (List.pairwise_singleton _ _) (fun z hz => by cases hz) (fun z hz y hy => by
    cases hz; obtain ⟨v3, rfl⟩ := qqd hy
    rw [List.length_cons] at hu1
    rcases hr with hr | hr
    · omega
    · rw [qaf (b := y) hx (by rw [show P ++ (u1 ++ y :: v3 ++ ([x] ++ s)) = (P ++ u1) ++ y :: (v3 ++ ([x] ++ s)) by simp]; exact qhe (by simp; omega))] at hr; exact hr)
  rw [List.nil_append, vn] at e1
  rw [List.append_nil, List.nil_append, vd, vn] at e2
  rw [e1, e2]
  have e3 := zlb (P ++ u1) x u2.length u2 s rfl
  rw [List.length_append, show P.length + u1.length + u2.length = m by omega, show u2.length = m - p by omega] at e3
  rw [show P ++ (u1 ++ u2 ++ ([x] ++ s)) = P ++ u1 ++ (u2 ++ x :: s) by simp, e3]; simp
/-- What is left of a merge behind the rotation. -/
structure Cut (lt : α → α → Bool) (l : List α) (a m b st md en : Nat) : Prop where
  u1 : UpS lt (rot l st m en) a st
  u2 : UpS lt (rot l st m en) st md
  u3 : UpS lt (mg lt (rot l st m en) a st md) md en
  u4 : UpS lt (mg lt (rot l st m en) a st md) en b
  eq : mg lt (mg lt (rot l st m en) a st md) md en b = mg lt l a m b
theorem zte (H : Swo lt) {l : List α} {a m b st md en : Nat} (h1 : a ≤ st) (h2 : st ≤ m) (h3 : m ≤ en) (h4 : en ≤ b) (h5 : b ≤ l.length) (h6 : md + m = en + st) (ua : UpS lt l a m) (ub : UpS lt l m b) (hl : st = a ∨ en = b ∨ ltA lt l en (st - 1) = false) (hr : st = m ∨ en = m ∨ ltA lt l (en - 1) st = true) : Cut lt l a m b st md en := by
  obtain ⟨P, u, v, s, rfl, hp, hu1, hv⟩ := kj l (a := a) (m := m) (b := b) (by omega) (by omega) h5
  obtain ⟨u1, u2, rfl, h7⟩ : ∃ u1 u2 : List α, u = u1 ++ u2 ∧ u1.length = st - a := ⟨u.take (st - a), u.drop (st - a), (List.take_append_drop _ _).symm, by rw [List.length_take]; omega⟩
  obtain ⟨v1, v2, rfl, h8⟩ : ∃ v1 v2 : List α, v = v1 ++ v2 ∧ v1.length = en - m := ⟨v.take (en - m), v.drop (en - m), (List.take_append_drop _ _).symm, by rw [List.length_take]; omega⟩
  rw [List.length_append] at hu1 hv
  rw [kk P (u1 ++ u2) _ hp (by simp; omega)] at ua
  rw [show P ++ (u1 ++ u2 ++ (v1 ++ v2 ++ s)) = P ++ (u1 ++ u2) ++ (v1 ++ v2 ++ s) by simp, kk (P ++ (u1 ++ u2)) (v1 ++ v2) s (by simp; omega) (by simp; omega)] at ub
  have r := ui (P ++ u1) u2 v1 (v2 ++ s)
  rw [show (P ++ u1).length + u2.length + v1.length = en by rw [List.length_append]; omega, show (P ++ u1).length + u2.length = m by rw [List.length_append]; omega, show (P ++ u1).length = st by rw [List.length_append]; omega, show P ++ u1 ++ (u2 ++ (v1 ++ (v2 ++ s))) = P ++ (u1 ++ u2 ++ (v1 ++ v2 ++ s)) by simp] at r
  have g := qcc (lt := lt) P u1 v1 (u2 ++ (v2 ++ s)) (a := a) (m := st) (b := md) hp (by omega) (by omega)
  have pa := List.pairwise_append.1 ua
  have pb := List.pairwise_append.1 ub
  have e := yd (a1 := u1) (a2 := u2) (b1 := v1) (b2 := v2) H ua ub (fun x hx y hy => by
    obtain ⟨u3, rfl⟩ := zcj hx
    obtain ⟨v3, rfl⟩ := qqd hy
    simp only [List.length_append, List.length_cons, List.length_nil] at h7 hu1 hv
    rcases hl with hl | hl | hl
    · omega
    · omega
    · rw [qaf (a := y) (b := x) (by rw [show P ++ (u3 ++ [x] ++ u2 ++ (v1 ++ y :: v3 ++ s)) = (P ++ (u3 ++ [x] ++ u2 ++ v1)) ++ y :: (v3 ++ s) by simp]; exact qhe (by simp; omega)) (by rw [show P ++ (u3 ++ [x] ++ u2 ++ (v1 ++ y :: v3 ++ s)) = (P ++ u3) ++ x :: (u2 ++ (v1 ++ y :: v3 ++ s)) by simp]; exact qhe (by simp; omega))] at hl; exact hl) (fun y hy x hx => by
    obtain ⟨v3, rfl⟩ := zcj hy
    obtain ⟨u3, rfl⟩ := qqd hx
    simp only [List.length_append, List.length_cons, List.length_nil] at h8 hv hu1
    rcases hr with hr | hr | hr
    · omega
    · omega
    · rw [qaf (a := y) (b := x) (by rw [show P ++ (u1 ++ x :: u3 ++ (v3 ++ [y] ++ v2 ++ s)) = (P ++ (u1 ++ x :: u3 ++ v3)) ++ y :: (v2 ++ s) by simp]; exact qhe (by simp; omega)) (by rw [show P ++ (u1 ++ x :: u3 ++ (v3 ++ [y] ++ v2 ++ s)) = (P ++ u1) ++ x :: (u3 ++ (v3 ++ [y] ++ v2 ++ s)) by simp]; exact qhe (by simp; omega))] at hr; exact hr)
  have r' : rot (P ++ (u1 ++ u2 ++ (v1 ++ v2 ++ s))) st m en = P ++ (u1 ++ (v1 ++ (u2 ++ (v2 ++ s)))) := by rw [r]; simp
  constructor
  · rw [r', kk P u1 _ hp (by omega)]; exact pa.1
  · rw [r', ← List.append_assoc, kk (P ++ u1) v1 _ (by simp; omega) (by omega)]; exact pb.1
  · rw [r', g, ← List.append_assoc, kk (P ++ mrg lt u1 v1) u2 _ (by simp [qie]; omega) (by omega)]; exact pa.2.1
  · rw [r', g, show P ++ (mrg lt u1 v1 ++ (u2 ++ (v2 ++ s))) = (P ++ mrg lt u1 v1 ++ u2) ++ (v2 ++ s) by simp, kk (P ++ mrg lt u1 v1 ++ u2) v2 _ (by simp [qie]; omega) (by omega)]; exact pb.2.1
  · rw [r', g, qcc P (u1 ++ u2) (v1 ++ v2) s hp (by simp; omega) (by simp; omega), e, ← List.append_assoc, qcc (P ++ mrg lt u1 v1) u2 v2 s (by simp [qie]; omega) (by omega) (by omega)]; simp
/-- Each stretch of so many sorted. -/
def srt (lt : α → α → Bool) (k : Nat) (l : List α) : List α :=
  if _h : k = 0 ∨ l.length ≤ k then zp lt l else zp lt (l.take k) ++ srt lt k (l.drop k)
termination_by l.length
decreasing_by simp; omega
theorem yk {k : Nat} {l : List α} (h : l.length ≤ k) : srt lt k l = zp lt l := by rw [srt, dif_pos (.inr h)]
theorem qkc {k : Nat} {l : List α} (hk : 0 < k) (_h : k ≤ l.length) : srt lt k l = zp lt (l.take k) ++ srt lt k (l.drop k) := by
  rcases Nat.lt_or_ge k l.length with h2 | h2
  · rw [srt, dif_neg (by omega)]
  · rw [yk h2, List.take_of_length_le h2, List.drop_of_length_le h2, yk (Nat.zero_le _)]; simp [zp]
theorem quf {k : Nat} (n : Nat) : ∀ l : List α, l.length ≤ n → (srt lt k l).Perm l := by
  induction n with
  | zero => intro l h; rw [srt, dif_pos (by omega)]; exact jw l
  | succ n ih =>
    intro l h
    rw [srt]; split
    · exact jw l
    · refine ((jw _).append (ih _ (by rw [List.length_drop]; omega))).trans ?_
      rw [List.take_append_drop]
theorem qqe {k : Nat} (l : List α) : (srt lt k l).length = l.length := (quf _ l (Nat.le_refl _)).length_eq
/-- One stretch of the first row of stretches. -/
theorem zqg (H : Swo lt) {k a : Nat} {x l : List α} (hk : 0 < k) (hx : x.length = a) (h : a + k ≤ l.length) (hX : x ++ srt lt k (l.drop a) = srt lt k l) : ∃ y : List α, y.length = a + k ∧ qci lt a (a + k - (a + 1)) (a + 1) (x ++ l.drop a) = y ++ l.drop (a + k) ∧ y ++ srt lt k (l.drop (a + k)) = srt lt k l := by
  refine ⟨x ++ zp lt ((l.drop a).take k), by simp [xp]; omega, ?_, ?_⟩
  · have := qud H x ((l.drop a).take k) (l.drop (a + k)) (a := a) (b := a + k) hx (by simp; omega)
    rw [← List.drop_drop, List.take_append_drop] at this
    rw [this, List.append_assoc, List.drop_drop]
  · rw [← hX, qkc (l := l.drop a) hk (by simp; omega), List.drop_drop, List.append_assoc]
theorem zld (H : Swo lt) {k a : Nat} {x l : List α} (hx : x.length = a) (h : a ≤ l.length) (h2 : l.length ≤ a + k) (hX : x ++ srt lt k (l.drop a) = srt lt k l) : qci lt a (l.length - (a + 1)) (a + 1) (x ++ l.drop a) = srt lt k l := by
  have := qud H x (l.drop a) [] (a := a) (b := l.length) hx (by simp; omega)
  rw [List.append_nil, List.append_nil] at this
  rw [this, ← hX, yk (l := l.drop a) (by simp; omega)]
/-- Two stretches of a row of sorted stretches merged. -/
theorem zqh (H : Swo lt) {k a : Nat} {x l : List α} (hk : 0 < k) (hx : x.length = a) (h : a + 2 * k ≤ l.length) (hX : x ++ srt lt (2 * k) (l.drop a) = srt lt (2 * k) l) : UpS lt (x ++ srt lt k (l.drop a)) a (a + k) ∧ UpS lt (x ++ srt lt k (l.drop a)) (a + k) (a + 2 * k) ∧ ∃ y : List α, y.length = a + 2 * k ∧ mg lt (x ++ srt lt k (l.drop a)) a (a + k) (a + 2 * k) = y ++ srt lt k (l.drop (a + 2 * k)) ∧ y ++ srt lt (2 * k) (l.drop (a + 2 * k)) = srt lt (2 * k) l := by
  have e1 : srt lt k (l.drop a) = zp lt ((l.drop a).take k) ++ (zp lt ((l.drop (a + k)).take k) ++ srt lt k (l.drop (a + 2 * k))) := by
    rw [qkc hk (by simp; omega), List.drop_drop, qkc (l := l.drop (a + k)) hk (by simp; omega), List.drop_drop, show a + k + k = a + 2 * k by omega]
  have e2 : zp lt ((l.drop a).take (2 * k)) = mrg lt (zp lt ((l.drop a).take k)) (zp lt ((l.drop (a + k)).take k)) := by
    rw [← qbi H]; congr 1
    rw [show 2 * k = k + k by omega, List.take_add, List.drop_drop]
  have l1 : (zp lt ((l.drop a).take k)).length = k := by simp [xp]; omega
  have l2 : (zp lt ((l.drop (a + k)).take k)).length = k := by simp [xp]; omega
  refine ⟨?_, ?_, x ++ zp lt ((l.drop a).take (2 * k)), by simp [xp]; omega, ?_, ?_⟩
  · rw [e1, kk x _ _ hx (by omega)]; exact kg H _
  · rw [e1, ← List.append_assoc, kk (x ++ _) _ _ (by simp only [List.length_append]; omega) (by omega)]; exact kg H _
  · rw [e1, qcc x _ _ _ hx (by omega) (by omega), e2, List.append_assoc]
  · rw [← hX, qkc (k := 2 * k) (l := l.drop a) (by omega) (by simp; omega), List.drop_drop, List.append_assoc]
/-- The last two, the second of them shorter. -/
theorem zle (H : Swo lt) {k a : Nat} {x l : List α} (hk : 0 < k) (hx : x.length = a) (h : a + k < l.length) (h2 : l.length < a + 2 * k) (hX : x ++ srt lt (2 * k) (l.drop a) = srt lt (2 * k) l) : UpS lt (x ++ srt lt k (l.drop a)) a (a + k) ∧ UpS lt (x ++ srt lt k (l.drop a)) (a + k) l.length ∧ mg lt (x ++ srt lt k (l.drop a)) a (a + k) l.length = srt lt (2 * k) l := by
  have e1 : srt lt k (l.drop a) = zp lt ((l.drop a).take k) ++ (zp lt (l.drop (a + k)) ++ []) := by
    rw [qkc hk (by simp; omega), List.drop_drop, yk (l := l.drop (a + k)) (by simp; omega), List.append_nil]
  have e2 : zp lt (l.drop a) = mrg lt (zp lt ((l.drop a).take k)) (zp lt (l.drop (a + k))) := by
    rw [← qbi H]; congr 1
    rw [← List.drop_drop, List.take_append_drop]
  have l1 : (zp lt ((l.drop a).take k)).length = k := by simp [xp]; omega
  have l2 : (zp lt (l.drop (a + k))).length = l.length - (a + k) := by simp [xp]
  refine ⟨?_, ?_, ?_⟩
  · rw [e1, kk x _ _ hx (by omega)]; exact kg H _
  · rw [e1, ← List.append_assoc, kk (x ++ _) _ _ (by simp only [List.length_append]; omega) (by omega)]; exact kg H _
  · rw [e1, qcc x _ _ _ hx (by omega) (by omega), ← e2, List.append_nil, ← hX, yk (k := 2 * k) (l := l.drop a) (by simp; omega)]
theorem zlf {k a : Nat} {x l : List α} (h : l.length ≤ a + k) (hX : x ++ srt lt (2 * k) (l.drop a) = srt lt (2 * k) l) : x ++ srt lt k (l.drop a) = srt lt (2 * k) l := by
  rw [← hX, yk (k := k) (by simp; omega), yk (k := 2 * k) (by simp; omega)]
end
theorem qqf {a : Int} (h0 : 0 ≤ a) (h1 : a ≤ 18446744073709551615) : IntKind.u64.wrap a = a := by rw [IntKind.wrap_u64]; omega
theorem qig {P : Program} {k : IntKind} {t : TypeId} {x y : Operand} {a b z : Int} (h : k.wrap (a * b) = z) : ∀ w, (do eqGuard .mul t x y (.int k a) (.int k b); binOp .mul t (.int k a) (.int k b) : Sem Value).run P w = .ok (.int k z) w := fun w => by simp [go_sem, h]
/-- The function answers the number that `c` says, for the data of `ts`. -/
structure Cmps (P : Program) (f : FuncId) (cs : List Value) (w0 : World) (T : List Ck) (ts : List Dt) (c : Dt → Dt → Int) : Prop where
  inv : ∀ (us : Array Value) (w : World), (callFunc f us).run P w = .ok (.enter f us) w
  run : ∀ (t u : Dt) (w : World), t ∈ ts → u ∈ ts → Mg w0 w T → Calls P f ([Value.agg (t.d.cells t.ts.length).toArray, Value.agg (u.d.cells u.ts.length).toArray] ++ cs).toArray w fun e w' => e = .returned (.int .i64 (c t u)) ∧ Below w.heap.size w w'
/-- The order of a comparison. -/
def ltC (c : Dt → Dt → Int) (t u : Dt) : Bool := decide (c t u < 0)
theorem uj {c : Dt → Dt → Int} {l : List Dt} {i j : Nat} {a b : Dt} {z : Bool} (ha : l[i]? = some a) (hb : l[j]? = some b) (h : decide (c a b < 0) = z) : ltA (ltC c) l i j = z := (qaf ha hb).trans h
theorem qqg {α : Type} {l : List α} {i j : Nat} {x : α} (hx : x ∈ swp l i j) : x ∈ l := by
  unfold swp at hx
  split at hx
  · rename_i a b ha hb
    rcases List.mem_or_eq_of_mem_set hx with hx | rfl
    · rcases List.mem_or_eq_of_mem_set hx with hx | rfl
      · exact hx
      · exact List.mem_of_getElem? hb
    · exact List.mem_of_getElem? ha
  · exact hx
theorem qug {α : Type} {lt : α → α → Bool} {a : Nat} {x : α} : ∀ (j : Nat) (l : List α), x ∈ qbj lt a l j → x ∈ l
  | 0, l, h => h
  | j + 1, l, h => by
    rw [qbj] at h; split at h
    · exact qqg (qug j _ h)
    · exact h
theorem quh {α : Type} {lt : α → α → Bool} {a : Nat} {x : α} : ∀ (n i : Nat) (l : List α), x ∈ qci lt a n i l → x ∈ l
  | 0, _, _, h => h
  | n + 1, i, l, h => by rw [qci] at h; exact qug _ _ (quh n _ _ h)
theorem LiT_isS_30 : IsS Tryz.prog 30 11 := ⟨⟨_, Tryz.underlying30⟩, by kernel_rfl⟩
theorem qqh {w0 w : World} {g9 c9 n9 : Nat} {zs : List Dt} {T : List Ck} (hl : n9 ≤ 1000000000) (hzl : zs.length = n9) {la lb n : Nat} {fv : Value} (ha : la + n ≤ n9) (hb : lb + n ≤ n9) (hM0 : Mg w0 w (.row 30 11 (.slice (some ⟨g9, 0, none⟩) n9 c9) n9 (cellsOf zs) :: T)) : Calls Tryz.prog 131 #[.slice (some ⟨g9, 0, none⟩) n9 c9, .int .i64 ((la : Nat) : Int), .int .i64 ((lb : Nat) : Int), .int .i64 ((n : Nat) : Int), fv] w fun e w' => e = .returned (.tuple #[]) ∧ Mg w0 w' (.row 30 11 (.slice (some ⟨g9, 0, none⟩) n9 c9) n9 (cellsOf (swR zs la lb n)) :: T) := by
 have M : Mg w0 w (.row 30 11 (.slice (some ⟨g9, 0, none⟩) n9 c9) n9 (cellsOf zs) :: T) := hM0
 refine qm (l := [(0, .slice (some ⟨g9, 0, none⟩) n9 c9), (1, .int .i64 (((la : Nat) : Int))), (2, .int .i64 (((lb : Nat) : Int))), (3, .int .i64 (((n : Nat) : Int))), (4, fv)]) Tryz.func131 rfl Tryz.ntmps131 rfl rfl ?_
 intro Q hret hnorm hP a A
 refine wsk fun K1 hK1 => wrl (sda A λa A↦?_)
 refine qa (hK1 _ _ (wp_block (zw (fun m_ a w1 => ∃ (i : Nat) (xs : List Dt), m_ = 1 + (n - i) ∧ (i ≤ n ∧ xs.length = n9 ∧ swR xs (la + i) (lb + i) (n - i) = swR zs la lb n) ∧ Sl a 38 [(0, .slice (some ⟨g9, 0, none⟩) n9 c9), (1, .int .i64 (((la : Nat) : Int))), (2, .int .i64 (((lb : Nat) : Int))), (3, .int .i64 (((n : Nat) : Int))), (4, fv), (10, .int .i64 (((i : Nat) : Int)))] ∧ Mg w0 w1 (.row 30 11 (.slice (some ⟨g9, 0, none⟩) n9 c9) n9 (cellsOf xs) :: T)) _ ⟨0, zs, rfl, ⟨Nat.zero_le _, hzl, rfl⟩, A.keep _ (by repeat' constructor), M⟩ ?_)))
 clear M A
 rintro m_ a w2 ⟨i, xs, rfl, hinv4, A, M⟩ K3 hK3
 obtain ⟨hi0, hxl, hin⟩ := hinv4
 refine wsk fun K5 hK5 => wsk fun K6 hK6 => wrl ?_
 iterate 2 refine sdm A λa A↦?_
 rcases tf (decide (((i : Nat) : Int) < ((n : Nat) : Int))) with hb7 | hb7
 ·
  have hb7' := of_decide_eq_true hb7
  refine sdc A qz hb7 λa A↦?_
  refine qa (hK6 _ _ (wp_cond_true (A.ev rfl) ?_))
  refine wp_skip (hK5 _ _ (wsk fun K8 hK8 => wp_block (jc (S := fun w1 => Mg w0 w1 ([])) (by kernel_rfl) ?_)))
  replace M := M.drew
  refine qe A 0 rfl rfl rfl rfl hP (M.sub (cn (List.nil_sublist _))) (fun w1 M => qg rfl) λa A↦?_
  refine qe A 1 rfl rfl rfl rfl hP (M.sub (cn (List.nil_sublist _))) (fun w1 M => qg rfl) λa A↦?_
  refine qe A 2 rfl rfl rfl rfl hP (M.sub (cn (List.nil_sublist _))) (fun w1 M => qg rfl) λa A↦?_
  refine qe (v := .int .i64 (((la + i : Nat) : Int))) A 3 rfl rfl rfl rfl hP (M.sub (cn (List.nil_sublist _))) (fun w1 M => qf rfl rfl (ar_add ((in_i64 (by omega) (by omega)).trans (by omega)))) λa A↦?_
  refine qe A 4 rfl rfl rfl rfl hP (M.sub (cn (List.nil_sublist _))) (fun w1 M => qg rfl) λa A↦?_
  refine qe A 5 rfl rfl rfl rfl hP (M.sub (cn (List.nil_sublist _))) (fun w1 M => qg rfl) λa A↦?_
  refine qe A 6 rfl rfl rfl rfl hP (M.sub (cn (List.nil_sublist _))) (fun w1 M => qg rfl) λa A↦?_
  refine qe (v := .int .i64 (((lb + i : Nat) : Int))) A 7 rfl rfl rfl rfl hP (M.sub (cn (List.nil_sublist _))) (fun w1 M => qf rfl rfl (ar_add ((in_i64 (by omega) (by omega)).trans (by omega)))) λa A↦?_
  refine qe A 8 rfl rfl rfl rfl hP (M.sub (cn (List.nil_sublist _))) (fun w1 M => qg rfl) λa A↦?_
  refine qe A 9 rfl rfl rfl rfl hP (M.sub (cn (List.nil_sublist _))) (fun w1 M => qg rfl) λa A↦?_
  refine qe A 10 rfl rfl rfl rfl hP (M.sub (cn (List.nil_sublist _))) (fun w1 M => qg rfl) λa A↦?_
  refine qe (v := .int .i64 (((lb + i : Nat) : Int))) A 11 rfl rfl rfl rfl hP (M.sub (cn (List.nil_sublist _))) (fun w1 M => qf rfl rfl (ar_add ((in_i64 (by omega) (by omega)).trans (by omega)))) λa A↦?_
  refine qe (v := .pointer (some ⟨g9, (lb + i) * 11, none⟩)) A 12 rfl rfl rfl rfl hP (M.sub (cn (List.nil_sublist _))) (fun w1 M => qt (k := (lb + i)) Tryz.underlying22 (by kernel_rfl) rfl rfl rfl (by omega)) λa A↦?_
  refine qe A 14 rfl rfl rfl rfl hP (M.sub (cn (List.nil_sublist _))) (fun w1 M => qg rfl) λa A↦?_
  refine qe A 15 rfl rfl rfl rfl hP (M.sub (cn (List.nil_sublist _))) (fun w1 M => qg rfl) λa A↦?_
  refine qe A 16 rfl rfl rfl rfl hP (M.sub (cn (List.nil_sublist _))) (fun w1 M => qg rfl) λa A↦?_
  refine qe (v := .int .i64 (((la + i : Nat) : Int))) A 17 rfl rfl rfl rfl hP (M.sub (cn (List.nil_sublist _))) (fun w1 M => qf rfl rfl (ar_add ((in_i64 (by omega) (by omega)).trans (by omega)))) λa A↦?_
  refine qe (v := .pointer (some ⟨g9, (la + i) * 11, none⟩)) A 18 rfl rfl rfl rfl hP (M.sub (cn (List.nil_sublist _))) (fun w1 M => qt (k := (la + i)) Tryz.underlying22 (by kernel_rfl) rfl rfl rfl (by omega)) λa A↦?_
  refine jl (rs := [13, 19]) (by kernel_rfl) (by simp) ⟨?_, ?_, trivial⟩
  ·
   obtain ⟨e9, he9⟩ : ∃ z, xs[(lb + i)]? = some z := ⟨_, List.getElem?_eq_getElem (by omega)⟩
   refine xd A 13 rfl rfl rfl rfl (zy (o := (lb + i) * 11) (cs := e9.d.cells e9.ts.length) M 0 rfl LiT_isS_30 (zh he9) rfl rfl) (M.sub (cn (List.nil_sublist _))) λa A↦?_
   obtain ⟨e10, he10⟩ : ∃ z, xs[(la + i)]? = some z := ⟨_, List.getElem?_eq_getElem (by omega)⟩
   refine qi (by kernel_rfl) (xd A 19 rfl rfl rfl rfl (zy (o := (la + i) * 11) (cs := e10.d.cells e10.ts.length) M 0 rfl LiT_isS_30 (zh he10) rfl rfl) (M.sub (cn (List.nil_sublist _))) ?_)
   intro a A
   refine qe (v := .pointer (some ⟨g9, (la + i) * 11, none⟩)) A 20 rfl rfl rfl rfl hP (M.sub (cn (List.nil_sublist _))) (fun w1 M => qt (k := (la + i)) Tryz.underlying22 (by kernel_rfl) rfl rfl rfl (by omega)) λa A↦?_
   refine qi (by kernel_rfl) (jf (us := cellsOf (xs.set (la + i) e9)) (L' := (.row 30 11 (.slice (some ⟨g9, 0, none⟩) n9 c9) n9 (cellsOf (xs.set (la + i) e9)) :: T)) A M 21 rfl rfl rfl (jh (cs := e9.d.cells e9.ts.length) rfl rfl rfl (by kernel_rfl) M 0 rfl (by show _ + 11 ≤ _; omega) (jb e9)) 0 rfl (ji (by omega) rfl) rfl ?_)
   intro w11 M
   refine ⟨(M.sub (cn (List.nil_sublist _))), ?_⟩
   refine qe (v := .pointer (some ⟨g9, (lb + i) * 11, none⟩)) A 22 rfl rfl rfl rfl hP (M.sub (cn (List.nil_sublist _))) (fun w1 M => qt (k := (lb + i)) Tryz.underlying22 (by kernel_rfl) rfl rfl rfl (by omega)) λa A↦?_
   refine qi (by kernel_rfl) (jf (us := cellsOf ((xs.set (la + i) e9).set (lb + i) e10)) (L' := (.row 30 11 (.slice (some ⟨g9, 0, none⟩) n9 c9) n9 (cellsOf ((xs.set (la + i) e9).set (lb + i) e10)) :: T)) A M 23 rfl rfl rfl (jh (cs := e10.d.cells e10.ts.length) rfl rfl rfl (by kernel_rfl) M 0 rfl (by show _ + 11 ≤ _; omega) (jb e10)) 0 rfl (ji (by rw [List.length_set]; omega) rfl) rfl ?_)
   intro w12 M
   rw [yt he10 he9] at M
   refine ⟨(M.sub (cn (List.nil_sublist _))), ?_⟩
   refine zb (by kernel_rfl) ?_
   refine hK8 _ _ (wrl (sdm A λa A↦?_))
   refine sdo (v := .int .i64 (((i + 1 : Nat) : Int))) A (qf rfl rfl (ar_add ((in_i64 (by omega) (by omega)).trans (by omega)))) λa A↦?_
   refine sda A λa A↦?_
   refine qa ?_
   refine hK3 _ _ _ (by omega) ⟨i + 1, (swp xs (la + i) (lb + i)), rfl, ⟨by omega, by rw [kq]; exact hxl, by rw [← hin, show n - i = n - (i + 1) + 1 by omega]; rfl⟩, A.keep _ (by repeat' constructor), M⟩
  ·
   obtain ⟨e13, he13⟩ : ∃ z, xs[(la + i)]? = some z := ⟨_, List.getElem?_eq_getElem (by omega)⟩
   refine xd A 19 rfl rfl rfl rfl (zy (o := (la + i) * 11) (cs := e13.d.cells e13.ts.length) M 0 rfl LiT_isS_30 (zh he13) rfl rfl) (M.sub (cn (List.nil_sublist _))) λa A↦?_
   obtain ⟨e14, he14⟩ : ∃ z, xs[(lb + i)]? = some z := ⟨_, List.getElem?_eq_getElem (by omega)⟩
   refine qi (by kernel_rfl) (xd A 13 rfl rfl rfl rfl (zy (o := (lb + i) * 11) (cs := e14.d.cells e14.ts.length) M 0 rfl LiT_isS_30 (zh he14) rfl rfl) (M.sub (cn (List.nil_sublist _))) ?_)
   intro a A
   refine qe (v := .pointer (some ⟨g9, (la + i) * 11, none⟩)) A 20 rfl rfl rfl rfl hP (M.sub (cn (List.nil_sublist _))) (fun w1 M => qt (k := (la + i)) Tryz.underlying22 (by kernel_rfl) rfl rfl rfl (by omega)) λa A↦?_
   refine qi (by kernel_rfl) (jf (us := cellsOf (xs.set (la + i) e14)) (L' := (.row 30 11 (.slice (some ⟨g9, 0, none⟩) n9 c9) n9 (cellsOf (xs.set (la + i) e14)) :: T)) A M 21 rfl rfl rfl (jh (cs := e14.d.cells e14.ts.length) rfl rfl rfl (by kernel_rfl) M 0 rfl (by show _ + 11 ≤ _; omega) (jb e14)) 0 rfl (ji (by omega) rfl) rfl ?_)
   intro w15 M
   refine ⟨(M.sub (cn (List.nil_sublist _))), ?_⟩
   refine qe (v := .pointer (some ⟨g9, (lb + i) * 11, none⟩)) A 22 rfl rfl rfl rfl hP (M.sub (cn (List.nil_sublist _))) (fun w1 M => qt (k := (lb + i)) Tryz.underlying22 (by kernel_rfl) rfl rfl rfl (by omega)) λa A↦?_
   refine qi (by kernel_rfl) (jf (us := cellsOf ((xs.set (la + i) e14).set (lb + i) e13)) (L' := (.row 30 11 (.slice (some ⟨g9, 0, none⟩) n9 c9) n9 (cellsOf ((xs.set (la + i) e14).set (lb + i) e13)) :: T)) A M 23 rfl rfl rfl (jh (cs := e13.d.cells e13.ts.length) rfl rfl rfl (by kernel_rfl) M 0 rfl (by show _ + 11 ≤ _; omega) (jb e13)) 0 rfl (ji (by rw [List.length_set]; omega) rfl) rfl ?_)
   intro w16 M
   rw [yt he13 he14] at M
   refine ⟨(M.sub (cn (List.nil_sublist _))), ?_⟩
   refine zb (by kernel_rfl) ?_
   refine hK8 _ _ (wrl (sdm A λa A↦?_))
   refine sdo (v := .int .i64 (((i + 1 : Nat) : Int))) A (qf rfl rfl (ar_add ((in_i64 (by omega) (by omega)).trans (by omega)))) λa A↦?_
   refine sda A λa A↦?_
   refine qa ?_
   refine hK3 _ _ _ (by omega) ⟨i + 1, (swp xs (la + i) (lb + i)), rfl, ⟨by omega, by rw [kq]; exact hxl, by rw [← hin, show n - i = n - (i + 1) + 1 by omega]; rfl⟩, A.keep _ (by repeat' constructor), M⟩
 ·
  have hb7' := of_decide_eq_false hb7
  refine sdc A qz hb7 λa A↦?_
  refine qa (hK6 _ _ (wp_cond_false (A.ev rfl) ?_))
  refine wp_exit (hnorm _ _ (vh (v := .tuple #[]) A rfl .nil rfl ?_))
  rw [show n - i = 0 by omega] at hin
  replace hin : xs = swR zs la lb n := hin
  rw [hin] at M
  exact ⟨rfl, M⟩
theorem zqi {w0 w : World} {g9 c9 n9 : Nat} {zs : List Dt} {T : List Ck} (hl : n9 ≤ 1000000000) (hzl : zs.length = n9) {la lm lb : Nat} {fv : Value} (ha : la < lm) (hm : lm < lb) (hb : lb ≤ n9) (hM0 : Mg w0 w (.row 30 11 (.slice (some ⟨g9, 0, none⟩) n9 c9) n9 (cellsOf zs) :: T)) : Calls Tryz.prog 116 #[.slice (some ⟨g9, 0, none⟩) n9 c9, .int .i64 ((la : Nat) : Int), .int .i64 ((lm : Nat) : Int), .int .i64 ((lb : Nat) : Int), fv] w fun e w' => e = .returned (.tuple #[]) ∧ Mg w0 w' (.row 30 11 (.slice (some ⟨g9, 0, none⟩) n9 c9) n9 (cellsOf (rot zs la lm lb)) :: T) := by
 have M : Mg w0 w (.row 30 11 (.slice (some ⟨g9, 0, none⟩) n9 c9) n9 (cellsOf zs) :: T) := hM0
 refine qm (l := [(0, .slice (some ⟨g9, 0, none⟩) n9 c9), (1, .int .i64 (((la : Nat) : Int))), (2, .int .i64 (((lm : Nat) : Int))), (3, .int .i64 (((lb : Nat) : Int))), (4, fv)]) Tryz.func116 rfl Tryz.ntmps116 rfl rfl ?_
 intro Q hret hnorm hP a A
 refine wsk fun K1 hK1 => wrl ?_
 iterate 2 refine sdm A λa A↦?_
 refine sdo (v := .int .i64 (((lm - la : Nat) : Int))) A (qf rfl rfl (ar_sub ((in_i64 (by omega) (by omega)).trans (by omega)))) λa A↦?_
 refine sda A λa A↦?_
 refine qa (hK1 _ _ (wsk fun K2 hK2 => wrl ?_))
 iterate 2 refine sdm A λa A↦?_
 refine sdo (v := .int .i64 (((lb - lm : Nat) : Int))) A (qf rfl rfl (ar_sub ((in_i64 (by omega) (by omega)).trans (by omega)))) λa A↦?_
 refine sda A λa A↦?_
 refine qa (hK2 _ _ (wsk fun K3 hK3 => wp_block (zw (fun m_ a w1 => ∃ (i : Nat) (j : Nat) (xs : List Dt), m_ = 1 + (i + j) ∧ (0 < i ∧ 0 < j ∧ la + i ≤ lm ∧ lm + j ≤ lb ∧ xs.length = n9 ∧ rot xs (lm - i) lm (lm + j) = rot zs la lm lb) ∧ Sl a 58 [(0, .slice (some ⟨g9, 0, none⟩) n9 c9), (1, .int .i64 (((la : Nat) : Int))), (2, .int .i64 (((lm : Nat) : Int))), (3, .int .i64 (((lb : Nat) : Int))), (4, fv), (10, .int .i64 (((i : Nat) : Int))), (11, .int .i64 (((j : Nat) : Int))), (12, .int .i64 (((lm : Nat) : Int))), (13, .int .i64 (((la : Nat) : Int))), (14, .int .i64 (((lm - la : Nat) : Int))), (15, .int .i64 (((lb : Nat) : Int))), (16, .int .i64 (((lm : Nat) : Int))), (17, .int .i64 (((lb - lm : Nat) : Int)))] ∧ Mg w0 w1 (.row 30 11 (.slice (some ⟨g9, 0, none⟩) n9 c9) n9 (cellsOf xs) :: T)) _ ⟨lm - la, lb - lm, zs, rfl, ⟨by omega, by omega, by omega, by omega, hzl, by rw [show lm - (lm - la) = la by omega, show lm + (lb - lm) = lb by omega]⟩, A.keep _ (by repeat' constructor), M⟩ ?_)))
 clear M A
 rintro m_ a w4 ⟨i, j, xs, rfl, hinv6, A, M⟩ K5 hK5
 obtain ⟨hi0, hj0, hi1, hj1, hxl, hin⟩ := hinv6
 refine wsk fun K7 hK7 => wsk fun K8 hK8 => wrl ?_
 iterate 2 refine sdm A λa A↦?_
 rcases tf ((((i : Nat) : Int) != ((j : Nat) : Int))) with hb9 | hb9
 ·
  have hb9' := bne_iff_ne.1 hb9
  refine sdc A zm hb9 λa A↦?_
  refine qa (hK8 _ _ (wp_cond_true (A.ev rfl) ?_))
  refine wp_skip (hK7 _ _ (wp_block (wsk fun K10 hK10 => wrl ?_)))
  iterate 2 refine sdm A λa A↦?_
  rcases tf (decide (((j : Nat) : Int) < ((i : Nat) : Int))) with hb11 | hb11
  ·
   have hb11' := of_decide_eq_true hb11
   refine sdc A js hb11 λa A↦?_
   refine qa (hK10 _ _ (wp_cond_true (A.ev rfl) ?_))
   refine wsk fun K12 hK12 => wrl ?_
   iterate 3 refine sdm A λa A↦?_
   refine sdo (v := .int .i64 (((lm - i : Nat) : Int))) A (qf rfl rfl (ar_sub ((in_i64 (by omega) (by omega)).trans (by omega)))) λa A↦?_
   iterate 3 refine sdm A λa A↦?_
   refine sct A (ef rfl rfl) (qqh (zs := xs) (la := lm - i) (lb := lm) (n := j) hl (by omega) (by omega) (by omega) M) ?_
   rintro _ w14 ⟨rfl, hM13⟩
   replace M : Mg w0 w14 (.row 30 11 (.slice (some ⟨g9, 0, none⟩) n9 c9) n9 (cellsOf (swR xs (lm - i) lm j)) :: T) := hM13
   refine ⟨_, rfl, ?_⟩
   intro a A
   refine qa (hK12 _ _ (wrl ?_))
   iterate 2 refine sdm A λa A↦?_
   refine sdo (v := .int .i64 (((i - j : Nat) : Int))) A (qf rfl rfl (ar_sub ((in_i64 (by omega) (by omega)).trans (by omega)))) λa A↦?_
   refine sda A λa A↦?_
   refine qa ?_
   refine hK5 _ _ _ (by omega) ⟨i - j, j, (swR xs (lm - i) lm j), rfl, ⟨by omega, by omega, by omega, by omega, by rw [zcg]; exact hxl, by rw [← hin]; exact ztb (by omega) (by omega) (by omega)⟩, A.keep _ (by repeat' constructor), M⟩
  ·
   have hb11' := of_decide_eq_false hb11
   refine sdc A js hb11 λa A↦?_
   refine qa (hK10 _ _ (wp_cond_false (A.ev rfl) ?_))
   refine wsk fun K15 hK15 => wrl ?_
   iterate 3 refine sdm A λa A↦?_
   refine sdo (v := .int .i64 (((lm - i : Nat) : Int))) A (qf rfl rfl (ar_sub ((in_i64 (by omega) (by omega)).trans (by omega)))) λa A↦?_
   iterate 2 refine sdm A λa A↦?_
   refine sdo (v := .int .i64 (((lm + j : Nat) : Int))) A (qf rfl rfl (ar_add ((in_i64 (by omega) (by omega)).trans (by omega)))) λa A↦?_
   refine sdm A λa A↦?_
   refine sdo (v := .int .i64 ((((lm + j) - i : Nat) : Int))) A (qf rfl rfl (ar_sub ((in_i64 (by omega) (by omega)).trans (by omega)))) λa A↦?_
   iterate 2 refine sdm A λa A↦?_
   refine sct A (ef rfl rfl) (qqh (zs := xs) (la := lm - i) (lb := (lm + j) - i) (n := i) hl (by omega) (by omega) (by omega) M) ?_
   rintro _ w17 ⟨rfl, hM16⟩
   replace M : Mg w0 w17 (.row 30 11 (.slice (some ⟨g9, 0, none⟩) n9 c9) n9 (cellsOf (swR xs (lm - i) ((lm + j) - i) i)) :: T) := hM16
   refine ⟨_, rfl, ?_⟩
   intro a A
   refine qa (hK15 _ _ (wrl ?_))
   iterate 2 refine sdm A λa A↦?_
   refine sdo (v := .int .i64 (((j - i : Nat) : Int))) A (qf rfl rfl (ar_sub ((in_i64 (by omega) (by omega)).trans (by omega)))) λa A↦?_
   refine sda A λa A↦?_
   refine qa ?_
   refine hK5 _ _ _ (by omega) ⟨i, j - i, (swR xs (lm - i) ((lm + j) - i) i), rfl, ⟨by omega, by omega, by omega, by omega, by rw [zcg]; exact hxl, by rw [← hin]; exact ztc (by omega) (by omega) (by omega)⟩, A.keep _ (by repeat' constructor), M⟩
 ·
  have hb9' := bne_eq_false_iff_eq.1 hb9
  refine sdc A zm hb9 λa A↦?_
  refine qa (hK8 _ _ (wp_cond_false (A.ev rfl) ?_))
  refine wp_exit (hK3 _ _ (wrl ?_))
  iterate 3 refine sdm A λa A↦?_
  refine sdo (v := .int .i64 (((lm - i : Nat) : Int))) A (qf rfl rfl (ar_sub ((in_i64 (by omega) (by omega)).trans (by omega)))) λa A↦?_
  iterate 3 refine sdm A λa A↦?_
  refine sct A (ef rfl rfl) (qqh (zs := xs) (la := lm - i) (lb := lm) (n := i) hl (by omega) (by omega) (by omega) M) ?_
  rintro _ w19 ⟨rfl, hM18⟩
  replace M : Mg w0 w19 (.row 30 11 (.slice (some ⟨g9, 0, none⟩) n9 c9) n9 (cellsOf (swR xs (lm - i) lm i)) :: T) := hM18
  refine ⟨_, rfl, ?_⟩
  intro a A
  refine qa (hnorm _ _ (vh (v := .tuple #[]) A rfl .nil rfl ?_))
  obtain rfl : i = j := by omega
  rw [zqd (by omega) (by omega), hin] at M
  exact ⟨rfl, M⟩
theorem zda {w0 w : World} {g9 c9 n9 : Nat} {zs : List Dt} {T : List Ck} (hl : n9 ≤ 1000000000) (hzl : zs.length = n9) {f : FuncId} {cs : List Value} {c : Dt → Dt → Int} {ts : List Dt} (hF : Cmps Tryz.prog f cs w0 T ts c) (hsub : ∀ t ∈ zs, t ∈ ts) {la lb : Nat} (hab : la ≤ n9) (hb : lb ≤ n9) (hM0 : Mg w0 w (.row 30 11 (.slice (some ⟨g9, 0, none⟩) n9 c9) n9 (cellsOf zs) :: T)) : Calls Tryz.prog 103 #[.slice (some ⟨g9, 0, none⟩) n9 c9, .int .i64 ((la : Nat) : Int), .int .i64 ((lb : Nat) : Int), .func (.func f) #[] cs.toArray] w fun e w' => e = .returned (.tuple #[]) ∧ Mg w0 w' (.row 30 11 (.slice (some ⟨g9, 0, none⟩) n9 c9) n9 (cellsOf (qci (ltC c) la (lb - (la + 1)) (la + 1) zs)) :: T) := by
 have M : Mg w0 w (.row 30 11 (.slice (some ⟨g9, 0, none⟩) n9 c9) n9 (cellsOf zs) :: T) := hM0
 refine qm (l := [(0, .slice (some ⟨g9, 0, none⟩) n9 c9), (1, .int .i64 (((la : Nat) : Int))), (2, .int .i64 (((lb : Nat) : Int))), (3, .func (.func f) #[] cs.toArray)]) Tryz.func103 rfl Tryz.ntmps103 rfl rfl ?_
 intro Q hret hnorm hP a A
 refine wsk fun K1 hK1 => wrl (sdm A λa A↦?_)
 refine sdo (v := .int .i64 (((la + 1 : Nat) : Int))) A (qf rfl rfl (ar_add ((in_i64 (by omega) (by omega)).trans (by omega)))) λa A↦?_
 refine sda A λa A↦?_
 refine qa (hK1 _ _ (wp_block (zw (fun m_ a w1 => ∃ (i : Nat) (zs1 : List Dt), m_ = 1 + (lb - i) ∧ (la < i ∧ i ≤ max lb (la + 1) ∧ zs1.length = n9 ∧ (∀ t ∈ zs1, t ∈ ts) ∧ qci (ltC c) la (lb - i) i zs1 = qci (ltC c) la (lb - (la + 1)) (la + 1) zs) ∧ Sl a 53 [(0, .slice (some ⟨g9, 0, none⟩) n9 c9), (1, .int .i64 (((la : Nat) : Int))), (2, .int .i64 (((lb : Nat) : Int))), (3, .func (.func f) #[] cs.toArray), (8, .int .i64 (((i : Nat) : Int))), (10, .int .i64 (((la : Nat) : Int))), (11, .int .i64 (((la + 1 : Nat) : Int)))] ∧ Mg w0 w1 (.row 30 11 (.slice (some ⟨g9, 0, none⟩) n9 c9) n9 (cellsOf zs1) :: T)) _ ⟨la + 1, zs, rfl, ⟨by omega, by omega, hzl, hsub, rfl⟩, A.keep _ (by repeat' constructor), M⟩ ?_)))
 clear M A
 rintro m_ a w2 ⟨i, zs1, rfl, hinv4, A, M⟩ K3 hK3
 obtain ⟨hi0, hi1, hzl1, hzs1, hin⟩ := hinv4
 refine wsk fun K5 hK5 => wsk fun K6 hK6 => wrl ?_
 iterate 2 refine sdm A λa A↦?_
 rcases tf (decide (((i : Nat) : Int) < ((lb : Nat) : Int))) with hb7 | hb7
 ·
  have hb7' := of_decide_eq_true hb7
  refine sdc A qz hb7 λa A↦?_
  refine qa (hK6 _ _ (wp_cond_true (A.ev rfl) ?_))
  refine wp_skip (hK5 _ _ (wsk fun K8 hK8 => wp_block (wsk fun K9 hK9 => wrl (sdm A λa A↦?_))))
  refine sda A λa A↦?_
  refine qa (hK9 _ _ (wp_block (zw (fun m_ a w1 => ∃ (j : Nat) (xs : List Dt), m_ = 1 + j ∧ (la ≤ j ∧ j ≤ i ∧ xs.length = n9 ∧ (∀ t ∈ xs, t ∈ ts) ∧ qbj (ltC c) la xs j = qbj (ltC c) la zs1 i) ∧ Sl a 53 [(0, .slice (some ⟨g9, 0, none⟩) n9 c9), (1, .int .i64 (((la : Nat) : Int))), (2, .int .i64 (((lb : Nat) : Int))), (3, .func (.func f) #[] cs.toArray), (8, .int .i64 (((i : Nat) : Int))), (9, .int .i64 (((j : Nat) : Int))), (10, .int .i64 (((la : Nat) : Int))), (11, .int .i64 (((la + 1 : Nat) : Int))), (12, .int .i64 (((i : Nat) : Int))), (13, .int .i64 (((lb : Nat) : Int))), (14, .bool true), (17, .int .i64 (((i : Nat) : Int)))] ∧ Mg w0 w1 (.row 30 11 (.slice (some ⟨g9, 0, none⟩) n9 c9) n9 (cellsOf xs) :: T)) _ ⟨i, zs1, rfl, ⟨by omega, Nat.le_refl _, hzl1, hzs1, rfl⟩, A.keep _ (by repeat' constructor), M⟩ ?_)))
  clear M A
  rintro m_ a w10 ⟨j, xs, rfl, hinv12, A, M⟩ K11 hK11
  obtain ⟨hj0, hj1, hxl, hxs, hjn⟩ := hinv12
  refine wsk fun K13 hK13 => wsk fun K14 hK14 => jc (S := fun w1 => Mg w0 w1 (.row 30 11 (.slice (some ⟨g9, 0, none⟩) n9 c9) n9 (cellsOf xs) :: [])) (by kernel_rfl) ?_
  replace M := M.drew
  refine qe A 0 rfl rfl rfl rfl hP (M.sub (cc (List.nil_sublist _))) (fun w1 M => qg rfl) λa A↦?_
  refine qe A 1 rfl rfl rfl rfl hP (M.sub (cc (List.nil_sublist _))) (fun w1 M => qg rfl) λa A↦?_
  rcases tf (decide (((la : Nat) : Int) < ((j : Nat) : Int))) with hb15 | hb15
  ·
   have hb15' := of_decide_eq_true hb15
   refine qe (v := .bool true) A 2 rfl rfl rfl rfl hP (M.sub (cc (List.nil_sublist _))) (fun w1 M => qf rfl rfl (fun w => (js w).trans (by rw [hb15]))) λa A↦?_
   refine qe A 3 rfl rfl rfl rfl hP (M.sub (cc (List.nil_sublist _))) (fun w1 M => qg rfl) λa A↦?_
   refine qe A 4 rfl rfl rfl rfl hP (M.sub (cc (List.nil_sublist _))) (fun w1 M => qg rfl) λa A↦?_
   refine qe A 5 rfl rfl rfl rfl hP (M.sub (cc (List.nil_sublist _))) (fun w1 M => qg rfl) λa A↦?_
   refine qe A 6 rfl rfl rfl rfl hP (M.sub (cc (List.nil_sublist _))) (fun w1 M => qg rfl) λa A↦?_
   refine qe (v := .pointer (some ⟨g9, j * 11, none⟩)) A 7 rfl rfl rfl rfl hP (M.sub (cc (List.nil_sublist _))) (fun w1 M => qt (k := j) Tryz.underlying22 (by kernel_rfl) rfl rfl rfl (by omega)) λa A↦?_
   obtain ⟨e16, he16⟩ : ∃ z, xs[j]? = some z := ⟨_, List.getElem?_eq_getElem (by omega)⟩
   refine qe A 8 rfl rfl rfl rfl hP (M.sub (cc (List.nil_sublist _))) (fun w1 M => zy (o := j * 11) (cs := e16.d.cells e16.ts.length) M 0 rfl LiT_isS_30 (zh he16) rfl rfl) λa A↦?_
   refine qe A 9 rfl rfl rfl rfl hP (M.sub (cc (List.nil_sublist _))) (fun w1 M => qg rfl) λa A↦?_
   refine qe A 10 rfl rfl rfl rfl hP (M.sub (cc (List.nil_sublist _))) (fun w1 M => qg rfl) λa A↦?_
   refine qe (v := .int .i64 (((j - 1 : Nat) : Int))) A 11 rfl rfl rfl rfl hP (M.sub (cc (List.nil_sublist _))) (fun w1 M => qf rfl rfl (ar_sub ((in_i64 (by omega) (by omega)).trans (by omega)))) λa A↦?_
   refine qe (v := .pointer (some ⟨g9, (j - 1) * 11, none⟩)) A 12 rfl rfl rfl rfl hP (M.sub (cc (List.nil_sublist _))) (fun w1 M => qt (k := (j - 1)) Tryz.underlying22 (by kernel_rfl) rfl rfl rfl (by omega)) λa A↦?_
   obtain ⟨e17, he17⟩ : ∃ z, xs[(j - 1)]? = some z := ⟨_, List.getElem?_eq_getElem (by omega)⟩
   refine qe A 13 rfl rfl rfl rfl hP (M.sub (cc (List.nil_sublist _))) (fun w1 M => zy (o := (j - 1) * 11) (cs := e17.d.cells e17.ts.length) M 0 rfl LiT_isS_30 (zh he17) rfl rfl) λa A↦?_
   refine qi (by kernel_rfl) (za A 14 rfl rfl rfl rfl (kt rfl rfl hF.inv) (hF.run e16 e17 _ (hxs _ (List.mem_of_getElem? he16)) (hxs _ (List.mem_of_getElem? he17)) (M.sub (cn (List.Sublist.refl _)))) ?_)
   rintro _ w19 ⟨rfl, hb18⟩
   replace M := M.call hb18
   refine ⟨_, rfl, (M.sub (cc (List.nil_sublist _))), ?_⟩
   intro a A
   rcases tf (decide ((c e16 e17) < 0)) with hb20 | hb20
   ·
    have hb20' := of_decide_eq_true hb20
    refine qe (v := .bool true) A 15 rfl rfl rfl rfl hP (M.sub (cc (List.nil_sublist _))) (fun w1 M => qf rfl rfl (fun w => (qz w).trans (by rw [hb20]))) λa A↦?_
    refine qe (v := .bool true) A 16 rfl rfl rfl rfl hP (M.sub (cc (List.nil_sublist _))) (fun w1 M => xn rfl rfl rfl rfl) λa A↦?_
    refine zb (by kernel_rfl) ?_
    refine hK14 _ _ (wp_cond_true (A.ev rfl) ?_)
    refine wp_skip (hK13 _ _ (wsk fun K21 hK21 => wp_block (jc (S := fun w1 => Mg w0 w1 ([])) (by kernel_rfl) ?_)))
    replace M := M.drew
    refine qe A 0 rfl rfl rfl rfl hP (M.sub (cn (List.nil_sublist _))) (fun w1 M => qg rfl) λa A↦?_
    refine qe A 1 rfl rfl rfl rfl hP (M.sub (cn (List.nil_sublist _))) (fun w1 M => qg rfl) λa A↦?_
    refine qe A 2 rfl rfl rfl rfl hP (M.sub (cn (List.nil_sublist _))) (fun w1 M => qg rfl) λa A↦?_
    refine qe A 3 rfl rfl rfl rfl hP (M.sub (cn (List.nil_sublist _))) (fun w1 M => qg rfl) λa A↦?_
    refine qe (v := .int .i64 (((j - 1 : Nat) : Int))) A 4 rfl rfl rfl rfl hP (M.sub (cn (List.nil_sublist _))) (fun w1 M => qf rfl rfl (ar_sub ((in_i64 (by omega) (by omega)).trans (by omega)))) λa A↦?_
    refine qe A 5 rfl rfl rfl rfl hP (M.sub (cn (List.nil_sublist _))) (fun w1 M => qg rfl) λa A↦?_
    refine qe A 6 rfl rfl rfl rfl hP (M.sub (cn (List.nil_sublist _))) (fun w1 M => qg rfl) λa A↦?_
    refine qe (v := .int .i64 (((j - 1 : Nat) : Int))) A 7 rfl rfl rfl rfl hP (M.sub (cn (List.nil_sublist _))) (fun w1 M => qf rfl rfl (ar_sub ((in_i64 (by omega) (by omega)).trans (by omega)))) λa A↦?_
    refine qe (v := .pointer (some ⟨g9, (j - 1) * 11, none⟩)) A 8 rfl rfl rfl rfl hP (M.sub (cn (List.nil_sublist _))) (fun w1 M => qt (k := (j - 1)) Tryz.underlying22 (by kernel_rfl) rfl rfl rfl (by omega)) λa A↦?_
    refine qe A 10 rfl rfl rfl rfl hP (M.sub (cn (List.nil_sublist _))) (fun w1 M => qg rfl) λa A↦?_
    refine qe A 11 rfl rfl rfl rfl hP (M.sub (cn (List.nil_sublist _))) (fun w1 M => qg rfl) λa A↦?_
    refine qe (v := .pointer (some ⟨g9, j * 11, none⟩)) A 12 rfl rfl rfl rfl hP (M.sub (cn (List.nil_sublist _))) (fun w1 M => qt (k := j) Tryz.underlying22 (by kernel_rfl) rfl rfl rfl (by omega)) λa A↦?_
    refine jl (rs := [9, 13]) (by kernel_rfl) (by simp) ⟨?_, ?_, trivial⟩
    ·
     refine xd A 9 rfl rfl rfl rfl (zy (o := (j - 1) * 11) (cs := e17.d.cells e17.ts.length) M 0 rfl LiT_isS_30 (zh he17) rfl rfl) (M.sub (cn (List.nil_sublist _))) λa A↦?_
     refine qi (by kernel_rfl) (xd A 13 rfl rfl rfl rfl (zy (o := j * 11) (cs := e16.d.cells e16.ts.length) M 0 rfl LiT_isS_30 (zh he16) rfl rfl) (M.sub (cn (List.nil_sublist _))) ?_)
     intro a A
     refine qe (v := .pointer (some ⟨g9, j * 11, none⟩)) A 14 rfl rfl rfl rfl hP (M.sub (cn (List.nil_sublist _))) (fun w1 M => qt (k := j) Tryz.underlying22 (by kernel_rfl) rfl rfl rfl (by omega)) λa A↦?_
     refine qi (by kernel_rfl) (jf (us := cellsOf (xs.set j e17)) (L' := (.row 30 11 (.slice (some ⟨g9, 0, none⟩) n9 c9) n9 (cellsOf (xs.set j e17)) :: T)) A M 15 rfl rfl rfl (jh (cs := e17.d.cells e17.ts.length) rfl rfl rfl (by kernel_rfl) M 0 rfl (by show _ + 11 ≤ _; omega) (jb e17)) 0 rfl (ji (by omega) rfl) rfl ?_)
     intro w22 M
     refine ⟨(M.sub (cn (List.nil_sublist _))), ?_⟩
     refine qe (v := .pointer (some ⟨g9, (j - 1) * 11, none⟩)) A 16 rfl rfl rfl rfl hP (M.sub (cn (List.nil_sublist _))) (fun w1 M => qt (k := (j - 1)) Tryz.underlying22 (by kernel_rfl) rfl rfl rfl (by omega)) λa A↦?_
     refine qi (by kernel_rfl) (jf (us := cellsOf ((xs.set j e17).set (j - 1) e16)) (L' := (.row 30 11 (.slice (some ⟨g9, 0, none⟩) n9 c9) n9 (cellsOf ((xs.set j e17).set (j - 1) e16)) :: T)) A M 17 rfl rfl rfl (jh (cs := e16.d.cells e16.ts.length) rfl rfl rfl (by kernel_rfl) M 0 rfl (by show _ + 11 ≤ _; omega) (jb e16)) 0 rfl (ji (by rw [List.length_set]; omega) rfl) rfl ?_)
     intro w23 M
     rw [yt he16 he17] at M
     refine ⟨(M.sub (cn (List.nil_sublist _))), ?_⟩
     refine zb (by kernel_rfl) ?_
     refine hK21 _ _ (wrl (sdm A λa A↦?_))
     refine sdo (v := .int .i64 (((j - 1 : Nat) : Int))) A (qf rfl rfl (ar_sub ((in_i64 (by omega) (by omega)).trans (by omega)))) λa A↦?_
     refine sda A λa A↦?_
     refine qa ?_
     refine hK11 _ _ _ (by omega) ⟨j - 1, (swp xs j (j - 1)), rfl, ⟨by omega, by omega, by rw [kq]; exact hxl, fun t ht => hxs t (qqg ht), by rw [← hjn]; exact qqc (by omega) (uj he16 he17 hb20)⟩, A.keep _ (by repeat' constructor), M⟩
    ·
     refine xd A 13 rfl rfl rfl rfl (zy (o := j * 11) (cs := e16.d.cells e16.ts.length) M 0 rfl LiT_isS_30 (zh he16) rfl rfl) (M.sub (cn (List.nil_sublist _))) λa A↦?_
     refine qi (by kernel_rfl) (xd A 9 rfl rfl rfl rfl (zy (o := (j - 1) * 11) (cs := e17.d.cells e17.ts.length) M 0 rfl LiT_isS_30 (zh he17) rfl rfl) (M.sub (cn (List.nil_sublist _))) ?_)
     intro a A
     refine qe (v := .pointer (some ⟨g9, j * 11, none⟩)) A 14 rfl rfl rfl rfl hP (M.sub (cn (List.nil_sublist _))) (fun w1 M => qt (k := j) Tryz.underlying22 (by kernel_rfl) rfl rfl rfl (by omega)) λa A↦?_
     refine qi (by kernel_rfl) (jf (us := cellsOf (xs.set j e17)) (L' := (.row 30 11 (.slice (some ⟨g9, 0, none⟩) n9 c9) n9 (cellsOf (xs.set j e17)) :: T)) A M 15 rfl rfl rfl (jh (cs := e17.d.cells e17.ts.length) rfl rfl rfl (by kernel_rfl) M 0 rfl (by show _ + 11 ≤ _; omega) (jb e17)) 0 rfl (ji (by omega) rfl) rfl ?_)
     intro w24 M
     refine ⟨(M.sub (cn (List.nil_sublist _))), ?_⟩
     refine qe (v := .pointer (some ⟨g9, (j - 1) * 11, none⟩)) A 16 rfl rfl rfl rfl hP (M.sub (cn (List.nil_sublist _))) (fun w1 M => qt (k := (j - 1)) Tryz.underlying22 (by kernel_rfl) rfl rfl rfl (by omega)) λa A↦?_
     refine qi (by kernel_rfl) (jf (us := cellsOf ((xs.set j e17).set (j - 1) e16)) (L' := (.row 30 11 (.slice (some ⟨g9, 0, none⟩) n9 c9) n9 (cellsOf ((xs.set j e17).set (j - 1) e16)) :: T)) A M 17 rfl rfl rfl (jh (cs := e16.d.cells e16.ts.length) rfl rfl rfl (by kernel_rfl) M 0 rfl (by show _ + 11 ≤ _; omega) (jb e16)) 0 rfl (ji (by rw [List.length_set]; omega) rfl) rfl ?_)
     intro w25 M
     rw [yt he16 he17] at M
     refine ⟨(M.sub (cn (List.nil_sublist _))), ?_⟩
     refine zb (by kernel_rfl) ?_
     refine hK21 _ _ (wrl (sdm A λa A↦?_))
     refine sdo (v := .int .i64 (((j - 1 : Nat) : Int))) A (qf rfl rfl (ar_sub ((in_i64 (by omega) (by omega)).trans (by omega)))) λa A↦?_
     refine sda A λa A↦?_
     refine qa ?_
     refine hK11 _ _ _ (by omega) ⟨j - 1, (swp xs j (j - 1)), rfl, ⟨by omega, by omega, by rw [kq]; exact hxl, fun t ht => hxs t (qqg ht), by rw [← hjn]; exact qqc (by omega) (uj he16 he17 hb20)⟩, A.keep _ (by repeat' constructor), M⟩
   ·
    have hb20' := of_decide_eq_false hb20
    refine qe (v := .bool false) A 15 rfl rfl rfl rfl hP (M.sub (cc (List.nil_sublist _))) (fun w1 M => qf rfl rfl (fun w => (qz w).trans (by rw [hb20]))) λa A↦?_
    refine qe (v := .bool false) A 16 rfl rfl rfl rfl hP (M.sub (cc (List.nil_sublist _))) (fun w1 M => xn rfl rfl rfl rfl) λa A↦?_
    refine zb (by kernel_rfl) ?_
    refine hK14 _ _ (wp_cond_false (A.ev rfl) ?_)
    refine wp_exit (hK8 _ _ (wrl (sdm A λa A↦?_)))
    refine sdo (v := .int .i64 (((i + 1 : Nat) : Int))) A (qf rfl rfl (ar_add ((in_i64 (by omega) (by omega)).trans (by omega)))) λa A↦?_
    refine sda A λa A↦?_
    refine qa ?_
    rw [qnh (uj he16 he17 hb20)] at hjn
    refine hK3 _ _ _ (by omega) ⟨i + 1, xs, rfl, ⟨by omega, by omega, hxl, hxs, by rw [← hin, hjn, show lb - i = lb - (i + 1) + 1 by omega]; rfl⟩, A.keep _ (by repeat' constructor), M⟩
  ·
   have hb15' := of_decide_eq_false hb15
   refine qe (v := .bool false) A 2 rfl rfl rfl rfl hP (M.sub (cc (List.nil_sublist _))) (fun w1 M => qf rfl rfl (fun w => (js w).trans (by rw [hb15]))) λa A↦?_
   refine qe A 3 rfl rfl rfl rfl hP (M.sub (cc (List.nil_sublist _))) (fun w1 M => qg rfl) λa A↦?_
   refine jx A 4 rfl rfl rfl rfl hP (M.sub (cc (List.nil_sublist _))) λa A↦?_
   refine jx A 5 rfl rfl rfl rfl hP (M.sub (cc (List.nil_sublist _))) λa A↦?_
   refine jx A 6 rfl rfl rfl rfl hP (M.sub (cc (List.nil_sublist _))) λa A↦?_
   refine jx A 7 rfl rfl rfl rfl hP (M.sub (cc (List.nil_sublist _))) λa A↦?_
   refine jx A 8 rfl rfl rfl rfl hP (M.sub (cc (List.nil_sublist _))) λa A↦?_
   refine jx A 9 rfl rfl rfl rfl hP (M.sub (cc (List.nil_sublist _))) λa A↦?_
   refine jx A 10 rfl rfl rfl rfl hP (M.sub (cc (List.nil_sublist _))) λa A↦?_
   refine jx A 11 rfl rfl rfl rfl hP (M.sub (cc (List.nil_sublist _))) λa A↦?_
   refine jx A 12 rfl rfl rfl rfl hP (M.sub (cc (List.nil_sublist _))) λa A↦?_
   refine jx A 13 rfl rfl rfl rfl hP (M.sub (cc (List.nil_sublist _))) λa A↦?_
   refine jx A 14 rfl rfl rfl rfl hP (M.sub (cc (List.nil_sublist _))) λa A↦?_
   refine jx A 15 rfl rfl rfl rfl hP (M.sub (cc (List.nil_sublist _))) λa A↦?_
   refine qe (v := .bool false) A 16 rfl rfl rfl rfl hP (M.sub (cc (List.nil_sublist _))) (fun w1 M => xn rfl rfl rfl rfl) λa A↦?_
   refine zb (by kernel_rfl) ?_
   refine hK14 _ _ (wp_cond_false (A.ev rfl) ?_)
   refine wp_exit (hK8 _ _ (wrl (sdm A λa A↦?_)))
   refine sdo (v := .int .i64 (((i + 1 : Nat) : Int))) A (qf rfl rfl (ar_add ((in_i64 (by omega) (by omega)).trans (by omega)))) λa A↦?_
   refine sda A λa A↦?_
   refine qa ?_
   rw [quc (by omega)] at hjn
   refine hK3 _ _ _ (by omega) ⟨i + 1, xs, rfl, ⟨by omega, by omega, hxl, hxs, by rw [← hin, hjn, show lb - i = lb - (i + 1) + 1 by omega]; rfl⟩, A.keep _ (by repeat' constructor), M⟩
 ·
  have hb7' := of_decide_eq_false hb7
  refine sdc A qz hb7 λa A↦?_
  refine qa (hK6 _ _ (wp_cond_false (A.ev rfl) ?_))
  refine wp_exit (hnorm _ _ (vh (v := .tuple #[]) A rfl .nil rfl ?_))
  replace hin : qci (ltC c) la (lb - i) i zs1 = qci (ltC c) la (lb - (la + 1)) (la + 1) zs := hin
  rw [show lb - i = 0 by omega] at hin
  replace hin : zs1 = _ := hin
  rw [hin] at M
  exact ⟨rfl, M⟩
end Go.Proofs.YtipikhcmieboaaaGreatDoor.G
