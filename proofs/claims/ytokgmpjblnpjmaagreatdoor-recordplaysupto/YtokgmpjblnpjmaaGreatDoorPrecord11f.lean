/- A number as it lies in a row of cells. Data as trees: as they lie in memory, and as they are. Steps over data: what is read of a node, and of a list of them. How much a datum holds. The order of data, told on trees: it is one, and 0 for the same trees alone. Where data lie, and rows of data. Steps over rows of any kind, and steps that tell what they keep. Rows of words and of bytes that are new. Lists of data as they are: linked, taken apart, found. Data that stand by pieces of memory which nothing changes; rows of structs of any width. Rows of texts and of truth values. Sets of texts: what the laws say of them, without memory. Record types and records: what they are, and what is asked of them. Walks of the size of data. The library's contracts, as theorems of this program. Walks of what makes a node sound. Walks of sound data. The library's contracts, as theorems of this program. Walks of copies of lists and numbers. Walks of copies of data. Walks of what is found in a slice of data, and of lists that are taken apart. Walks of rows of whole numbers, of types that are looked for, and of chains of parents. A range over a function: steps within a round; slices.Values, Collect and AppendSeq over texts. slices.AppendSeq, Collect and Values over texts. The library's sorts, searches and comparisons over rows of texts. -/
import Derived.Test.YtokgmpjblnpjmaaGreatDoorPrecord11c
import Derived.Test.YtokgmpjblnpjmaaGreatDoorPrecord11d
import Derived.Test.YtokgmpjblnpjmaaGreatDoorPrecord11e
import Derived.Lib.ValidU
import Derived.Lib.Bytealg
import Derived.Lib.SlicesS
import Derived.Lib.SlicesCompact
import Derived.Sort.EncStr
import Derived.Test.YtokgmpjblnpjmaaGreatDoorProg
import Derived.Shelf.Small.Utf8
import Derived.Shelf.Small.Bits
import Derived.Shelf.Strconv.Itoa0
import Derived.Shelf.LaysM
import Derived.Shelf.Strconv.Clone
import Derived.Shelf.Sort.Plain
import Derived.Shelf.Slices.Turned
import Derived.Shelf.Slices.Equal
import Derived.Shelf.Slices.CompactS
import Derived.Shelf.Slices.In.SortNone
import Derived.Shelf.Slices.Empties2
import Derived.Shelf.Unicode.ValidAny
import Derived.RangeFuncNested
import Derived.RangeFuncLeaves
import Derived.LoopNIn
import Derived.Test.YtokgmpjblnpjmaaGreatDoorShelf
import Derived.WalkKit
namespace Go.Proofs.YtokgmpjblnpjmaaGreatDoor.G
open Go.RowKit
set_option linter.unusedVariables false
set_option linter.unusedSimpArgs false

/-- A number as it lies in a row of cells. -/
structure Nu where
  q : Q6
  o1 : Option Addr
  c1 : Nat
  o2 : Option Addr
  c2 : Nat
  o3 : Option Addr
  c3 : Nat
  o4 : Option Addr
  c4 : Nat
def Nu.nm (w : World) (y : Nu) : Prop := Nm w y.q y.o1 y.c1 y.o2 y.c2 y.o3 y.c3 y.o4 y.c4
theorem Nu.below {w w' : World} {y : Nu} (h : y.nm w) (hb : Below w.heap.size w w') : y.nm w' := ⟨h.s1.below hb, h.s2.below hb, h.s3.below hb, h.s4.below hb⟩
def Nu.val (y : Nu) : Value := zna y.q y.o1 y.c1 y.o2 y.c2 y.o3 y.c3 y.o4 y.c4
theorem zh {P : Program} {w : World} {l : List (Nat × Value)} {dst : Option Tmp} {ty : TypeId} {pos : String} {after : Array Edge} {guard : Option (Nat × Bool)} {x : Operand} {a : Addr} (hx : ev l x = some (.pointer (some a))) : Does P l ⟨dst, .nilCheck x, ty, pos, after, guard⟩ w (.pointer (some a)) w := fun ρ h => by
  simp only [execOp, h x _ hx, Sem.run_pure]
/-- A node, but for what is below it. -/
structure Nd where
  k : Int
  n : Int
  y : Nu
  s : ByteArray
  ro : Option Addr
  rc : Nat
  rl : List UInt8
  lo : Option Addr
  lc : Nat
/-- A datum as it lies in memory. -/
inductive Dt where
  | mk (d : Nd) (ts : List Dt)
def Dt.d : Dt → Nd
  | .mk d _ => d
def Dt.ts : Dt → List Dt
  | .mk _ ts => ts
def Nd.cells (d : Nd) (m : Nat) : List Value := [.int .i64 d.k, .int .i64 d.n, .bool d.y.q.b1, .slice d.y.o1 d.y.q.t1.length d.y.c1, .slice d.y.o2 d.y.q.q1.length d.y.c2, .bool d.y.q.b2, .slice d.y.o3 d.y.q.t2.length d.y.c3, .slice d.y.o4 d.y.q.q2.length d.y.c4, .string d.s, .slice d.ro d.rl.length d.rc, .slice d.lo m d.lc]
def Dt.cells (t : Dt) : List Value := t.d.cells t.ts.length
/-- A datum as it is. -/
inductive Tr where
  | mk (k n : Int) (q : Q6) (s : ByteArray) (rl : List UInt8) (ts : List Tr)
def Tr.k : Tr → Int
  | .mk k _ _ _ _ _ => k
def Tr.n : Tr → Int
  | .mk _ n _ _ _ _ => n
def Tr.q : Tr → Q6
  | .mk _ _ q _ _ _ => q
def Tr.s : Tr → ByteArray
  | .mk _ _ _ s _ _ => s
def Tr.rl : Tr → List UInt8
  | .mk _ _ _ _ r _ => r
def Tr.ts : Tr → List Tr
  | .mk _ _ _ _ _ ts => ts
mutual
def Dt.tr : Dt → Tr
  | .mk d ts => .mk d.k d.n d.y.q d.s d.rl (Dt.trs ts)
def Dt.trs : List Dt → List Tr
  | [] => []
  | t :: ts => t.tr :: Dt.trs ts
end
theorem Dt.trs_map : ∀ ts : List Dt, Dt.trs ts = ts.map Dt.tr
  | [] => by simp [Dt.trs]
  | t :: ts => by simp [Dt.trs, Dt.trs_map ts]
mutual
theorem Dt.indT {P : Dt → Prop} (h : ∀ d ts, (∀ t ∈ ts, P t) → P (.mk d ts)) : ∀ t, P t
  | .mk d ts => h d ts (Dt.indL h ts)
theorem Dt.indL {P : Dt → Prop} (h : ∀ d ts, (∀ t ∈ ts, P t) → P (.mk d ts)) : ∀ ts : List Dt, ∀ t ∈ ts, P t
  | [], t, ht => by cases ht
  | u :: us, t, ht => by
    rcases List.mem_cons.1 ht with e | e
    · rw [e]; exact Dt.indT h u
    · exact Dt.indL h us t e
end
mutual
theorem Tr.indT {P : Tr → Prop} (h : ∀ k n q s rl ts, (∀ t ∈ ts, P t) → P (.mk k n q s rl ts)) : ∀ t, P t
  | .mk k n q s rl ts => h k n q s rl ts (Tr.indL h ts)
theorem Tr.indL {P : Tr → Prop} (h : ∀ k n q s rl ts, (∀ t ∈ ts, P t) → P (.mk k n q s rl ts)) : ∀ ts : List Tr, ∀ t ∈ ts, P t
  | [], t, ht => by cases ht
  | u :: us, t, ht => by
    rcases List.mem_cons.1 ht with e | e
    · rw [e]; exact Tr.indT h u
    · exact Tr.indL h us t e
end
/-- These cells stand there. -/
def Here (w : World) (b o : Nat) (cs : List Value) : Prop := b < w.heap.size ∧ ∀ j v, cs[j]? = some v → w.cell? ⟨b, o + j, none⟩ = some v
theorem Here.below {w w' : World} {b o : Nat} {cs : List Value} (h : Here w b o cs) (hb : Below w.heap.size w w') : Here w' b o cs := ⟨Nat.lt_of_lt_of_le h.1 hb.size, fun j v hj => (hb.cell h.1).trans (h.2 j v hj)⟩
/-- A slice reads as these data, one behind the other. -/
def Rt (w : World) (lo : Option Addr) (ts : List Dt) : Prop := ts ≠ [] → ∃ b o, lo = some ⟨b, o, none⟩ ∧ ∀ i t, ts[i]? = some t → Here w b (o + i * 11) t.cells
theorem Rt.below {w w' : World} {lo : Option Addr} {ts : List Dt} (h : Rt w lo ts) (hb : Below w.heap.size w w') : Rt w' lo ts := fun hne => by
  obtain ⟨b, o, e, h2⟩ := h hne
  exact ⟨b, o, e, fun i t hi => (h2 i t hi).below hb⟩
structure NdOk (w : World) (d : Nd) : Prop where
  num : d.y.nm w
  len : LenQ d.y.q
  raw : Rb w d.ro d.rl
  rcap : d.rl.length ≤ d.rc
  rmax : d.rc ≤ 9223372036854775807
  k0 : -9223372036854775808 ≤ d.k
  k1 : d.k ≤ 9223372036854775807
  n0 : -9223372036854775808 ≤ d.n
  n1 : d.n ≤ 9223372036854775807
  smax : d.s.size ≤ 9223372036854775807
theorem NdOk.below {w w' : World} {d : Nd} (h : NdOk w d) (hb : Below w.heap.size w w') : NdOk w' d := { h with num := Nu.below h.num hb, raw := h.raw.below hb }
mutual
/-- A datum reads so. -/
def Dt.rd (w : World) : Dt → Prop
  | .mk d ts => NdOk w d ∧ ts.length ≤ d.lc ∧ d.lc ≤ 9223372036854775807 ∧ Rt w d.lo ts ∧ Dt.rds w ts
def Dt.rds (w : World) : List Dt → Prop
  | [] => True
  | t :: ts => t.rd w ∧ Dt.rds w ts
end
theorem Dt.rds_iff {w : World} : ∀ {ts : List Dt}, Dt.rds w ts ↔ ∀ t ∈ ts, t.rd w
  | [] => by simp [Dt.rds]
  | t :: ts => by simp [Dt.rds, Dt.rds_iff (ts := ts)]
theorem Dt.rd_iff {w : World} {d : Nd} {ts : List Dt} : (Dt.mk d ts).rd w ↔ NdOk w d ∧ ts.length ≤ d.lc ∧ d.lc ≤ 9223372036854775807 ∧ Rt w d.lo ts ∧ ∀ t ∈ ts, t.rd w := by
  rw [← Dt.rds_iff]; unfold Dt.rd; exact Iff.rfl
theorem Dt.keep {w w' : World} (hb : Below w.heap.size w w') : ∀ t : Dt, t.rd w → t.rd w' :=
  Dt.indT fun d ts ih h => by
    rw [Dt.rd_iff] at h ⊢
    exact ⟨h.1.below hb, h.2.1, h.2.2.1, h.2.2.2.1.below hb, fun t ht => ih t ht (h.2.2.2.2 t ht)⟩
theorem Dt.tr_mk (d : Nd) (ts : List Dt) : (Dt.mk d ts).tr = .mk d.k d.n d.y.q d.s d.rl (ts.map Dt.tr) := by rw [Dt.tr, Dt.trs_map]
/-! ### Sound data -/
mutual
/-- How many nodes are left, and whether it was within the limits. -/
def js (dp left : Int) : Tr → Bool × Int
  | .mk k _ _ _ _ ts => if left - 1 < 0 ∨ 200 < dp then (false, left - 1) else uj dp (decide (k = 8)) 0 (left - 1) ts
def uj (dp : Int) (pr : Bool) (i : Nat) (left : Int) : List Tr → Bool × Int
  | [] => (true, left)
  | t :: ts => if (js (if pr = true ∧ i = 1 then dp else dp + 1) left t).1 = true then uj dp pr (i + 1) (js (if pr = true ∧ i = 1 then dp else dp + 1) left t).2 ts else (false, (js (if pr = true ∧ i = 1 then dp else dp + 1) left t).2)
end
mutual
/-- Is each node so? -/
def qdi (p : Tr → Bool) : Tr → Bool
  | .mk k n q s rl ts => p (.mk k n q s rl ts) && qjf p ts
def qjf (p : Tr → Bool) : List Tr → Bool
  | [] => true
  | t :: ts => qdi p t && qjf p ts
end
mutual
/-- The document's count. -/
def qcj (p : Tr → Bool) (dp left : Int) : Tr → Int
  | .mk k n q s rl ts => if 200 < dp ∨ left ≤ 0 ∨ p (.mk k n q s rl ts) = false then -1 else qfd p dp (decide (k = 8)) 0 (left - 1) ts
def qfd (p : Tr → Bool) (dp : Int) (pr : Bool) (i : Nat) (left : Int) : List Tr → Int
  | [] => left
  | t :: ts => if left < 0 then left else qfd p dp pr (i + 1) (qcj p (if pr = true ∧ i = 1 then dp else dp + 1) left t) ts
end
theorem qld {p : Tr → Bool} {dp left : Int} {pr : Bool} {i : Nat} {ts : List Tr} (h : left < 0) : qfd p dp pr i left ts = left := by
  cases ts with
  | nil => rfl
  | cons t ts => rw [qfd, if_pos h]
def Agree (p : Tr → Bool) (t : Tr) : Prop := ∀ dp left : Int, 0 ≤ left → qcj p dp left t = if (js dp left t).1 = true ∧ qdi p t = true then (js dp left t).2 else -1
theorem qcb : ∀ t : Tr, ∀ dp left : Int, (js dp left t).1 = true → 0 ≤ (js dp left t).2 := by
  refine Tr.indT fun k n q s rl ts ih dp left h => ?_
  rw [js] at h ⊢
  by_cases hc : left - 1 < 0 ∨ 200 < dp
  · rw [if_pos hc] at h; cases h
  · rw [if_neg hc] at h ⊢
    have hl : 0 ≤ left - 1 := by omega
    generalize left - 1 = m at h hl ⊢
    generalize decide (k = 8) = pr at h ⊢
    have key : ∀ (us : List Tr), (∀ t ∈ us, ∀ dp left : Int, (js dp left t).1 = true → 0 ≤ (js dp left t).2) → ∀ (i : Nat) (m : Int), 0 ≤ m → (uj dp pr i m us).1 = true → 0 ≤ (uj dp pr i m us).2 := by
      intro us
      induction us with
      | nil => intro _ i m hm _; exact hm
      | cons t us ih2 =>
        intro hu i m hm h
        rw [uj] at h ⊢
        by_cases ht : (js (if pr = true ∧ i = 1 then dp else dp + 1) m t).1 = true
        · rw [if_pos ht] at h ⊢
          exact ih2 (fun x hx => hu x (List.mem_cons_of_mem _ hx)) _ _ (hu t List.mem_cons_self _ _ ht) h
        · rw [if_neg ht] at h; cases h
    exact key ts ih 0 m hl h
theorem qqj (p : Tr → Bool) : ∀ t : Tr, Agree p t := by
  refine Tr.indT fun k n q s rl ts ih dp left h0 => ?_
  rw [qcj, js, qdi]
  by_cases hd : 200 < dp
  · rw [if_pos (.inl hd), if_pos (show left - 1 < 0 ∨ 200 < dp from .inr hd), if_neg (by simp)]
  · by_cases hl : left ≤ 0
    · rw [if_pos (.inr (.inl hl)), if_pos (show left - 1 < 0 ∨ 200 < dp from .inl (by omega)), if_neg (by simp)]
    · rw [if_neg (show ¬ (left - 1 < 0 ∨ 200 < dp) by omega)]
      cases hp : p (.mk k n q s rl ts) with
      | false => rw [if_pos (.inr (.inr rfl)), if_neg (by simp)]
      | true =>
        rw [if_neg (by simp; omega), Bool.true_and]
        have hm : 0 ≤ left - 1 := by omega
        generalize left - 1 = m at hm ⊢
        generalize decide (k = 8) = pr
        have key : ∀ (us : List Tr), (∀ t ∈ us, Agree p t) → ∀ (i : Nat) (m : Int), 0 ≤ m → qfd p dp pr i m us = if (uj dp pr i m us).1 = true ∧ qjf p us = true then (uj dp pr i m us).2 else -1 := by
          intro us
          induction us with
          | nil => intro _ i m hm; rw [qfd, uj, qjf, if_pos ⟨rfl, rfl⟩]
          | cons t us ih2 =>
            intro hu i m hm
            rw [qfd, uj, qjf, if_neg (by omega), hu t List.mem_cons_self _ _ hm]
            by_cases ht : (js (if pr = true ∧ i = 1 then dp else dp + 1) m t).1 = true
            · cases ha : qdi p t with
              | false =>
                rw [if_neg (by simp), if_neg (by simp), qld (by decide)]
              | true =>
                rw [if_pos ⟨ht, rfl⟩, if_pos ht, Bool.true_and]
                exact ih2 (fun x hx => hu x (List.mem_cons_of_mem _ hx)) _ _ (qcb t _ _ ht)
            · rw [if_neg (fun e => ht e.1), if_neg ht, if_neg (by simp), qld (by decide)]
        exact key ts ih 0 m hm
/-- Within the limits, and sound at each node. -/
def jh (p : Tr → Bool) (t : Tr) : Bool := (js 1 20000 t).1 && qdi p t
theorem qwi (p : Tr → Bool) (t : Tr) : decide (0 ≤ qcj p 1 20000 t) = jh p t := by
  rw [qqj p t 1 20000 (by decide)]
  unfold jh
  by_cases h : (js 1 20000 t).1 = true
  · cases ha : qdi p t with
    | true =>
      rw [if_pos ⟨h, rfl⟩, h, Bool.and_self]
      exact decide_eq_true (qcb t _ _ h)
    | false => rw [if_neg (by simp), Bool.and_false]; rfl
  · rw [if_neg (fun e => h e.1), Bool.eq_false_iff.2 h]; rfl
section
variable {P : Program} {w0 w : World} {L : List Ck} {l : List (Nat × Value)} {dst : Option Tmp} {ty : TypeId} {pos : String} {after : Array Edge} {guard : Option (Nat × Bool)} {v : Value}
theorem jj (hM : Mg w0 w L) {b o o' j : Nat} {cs : List Value} (hH : Here w0 b o cs) {t : TypeId} (ht : Is1 P t) {x : Operand} (hx : ev l x = some (.pointer (some ⟨b, o', none⟩))) (ho : o' = o + j) (hv : cs[j]? = some v) : Does P l ⟨dst, .load t x, ty, pos, after, guard⟩ w v w := by
  subst ho
  exact jn hx (jy ht ((hM.bel.cell hH.1).trans (hH.2 j v hv)))
theorem xa (hM : Mg w0 w L) {b o n : Nat} {cs : List Value} (hH : Here w0 b o cs) {t : TypeId} (ht : IsS P t n) {x : Operand} (hx : ev l x = some (.pointer (some ⟨b, o, none⟩))) (hl : cs.length = n) : Does P l ⟨dst, .load t x, ty, pos, after, guard⟩ w (.agg cs.toArray) w :=
  jn hx (kf ht cs hl (fun j v hj => (hM.bel.cell hH.1).trans (hH.2 j v hj)))
theorem qx {t e : TypeId} {sz : Nat} (hu : P.underlying t = some (.slice e)) (he : (P.info? e).map (·.size) = some sz) {x i : Operand} {so : Option Addr} {g off n c k : Nat} {z : Int} (hx : ev l x = some (.slice so n c)) (hi : ev l i = some (.int .i64 z)) (hz : z = (k : Nat)) (hso : so = some ⟨g, off, none⟩) (hk : k < n) :
    Does P l ⟨dst, .indexAddr t x i, ty, pos, after, guard⟩ w (.pointer (some ⟨g, off + k * sz, none⟩)) w := by
  subst hz hso
  exact kq (l := l) (dst := dst) (ty := ty) (pos := pos) (after := after) (guard := guard) (w := w) hx hi (qlg hu he hk)
end
/-- A child of a node. -/
theorem kid {w : World} {d : Nd} {ts : List Dt} (h : (Dt.mk d ts).rd w) {i : Nat} (hi : i < ts.length) : ∃ t b o, ts[i]? = some t ∧ t ∈ ts ∧ t.rd w ∧ d.lo = some ⟨b, o, none⟩ ∧ Here w b (o + i * 11) t.cells := by
  rw [Dt.rd_iff] at h
  have hne : ts ≠ [] := fun e => by subst e; simp at hi
  obtain ⟨b, o, e, h2⟩ := h.2.2.2.1 hne
  have ht := List.getElem?_eq_getElem hi
  exact ⟨ts[i], b, o, ht, List.getElem_mem hi, h.2.2.2.2 _ (List.getElem_mem hi), e, h2 i _ ht⟩
theorem ul {ts : List Dt} {i : Nat} {t : Dt} (h : ts[i]? = some t) : (ts.map Dt.tr).drop i = t.tr :: (ts.map Dt.tr).drop (i + 1) := by
  obtain ⟨hi, rfl⟩ := List.getElem?_eq_some_iff.1 h
  rw [List.drop_eq_getElem_cons (by simpa using hi)]
  simp
theorem qcc {ts : List Dt} {i : Nat} (h : ¬ i < ts.length) : (ts.map Dt.tr).drop i = [] := List.drop_of_length_le (by simp; omega)
theorem qtd : ∀ t : Tr, ∀ dp left : Int, (js dp left t).2 ≤ left := by
  refine Tr.indT fun k n q s rl ts ih dp left => ?_
  rw [js]
  split
  · show left - 1 ≤ left; omega
  · have key : ∀ (us : List Tr), (∀ t ∈ us, ∀ dp left : Int, (js dp left t).2 ≤ left) → ∀ (i : Nat) (m : Int), (uj dp (decide (k = 8)) i m us).2 ≤ m := by
      intro us
      induction us with
      | nil => intro _ i m; exact Int.le_refl _
      | cons t us ih2 =>
        intro hu i m
        rw [uj]
        generalize (if decide (k = 8) = true ∧ i = 1 then dp else dp + 1) = D
        have h1 := hu t List.mem_cons_self D m
        split
        · exact Int.le_trans (ih2 (fun x hx => hu x (List.mem_cons_of_mem _ hx)) _ _) h1
        · exact h1
    have := key ts ih 0 (left - 1)
    omega
theorem qte {dp m D : Int} {pr : Bool} {i : Nat} {ts : List Dt} {t : Dt} (hi : ts[i]? = some t) (hD : (if pr = true ∧ i = 1 then dp else dp + 1) = D) (h : (js D m t.tr).1 = true) : uj dp pr i m ((ts.map Dt.tr).drop i) = uj dp pr (i + 1) (js D m t.tr).2 ((ts.map Dt.tr).drop (i + 1)) := by
  rw [ul hi, uj, hD, if_pos h]
theorem qhg {dp m D : Int} {pr : Bool} {i : Nat} {ts : List Dt} {t : Dt} (hi : ts[i]? = some t) (hD : (if pr = true ∧ i = 1 then dp else dp + 1) = D) (h : (js D m t.tr).1 = false) : uj dp pr i m ((ts.map Dt.tr).drop i) = (false, (js D m t.tr).2) := by
  rw [ul hi, uj, hD, if_neg (by rw [h]; decide)]
theorem qji {dp left : Int} {d : Nd} {ts : List Dt} (h1 : ¬ left - 1 < 0) (h2 : ¬ 200 < dp) : js dp left (Dt.mk d ts).tr = uj dp (decide (d.k = 8)) 0 (left - 1) ((ts.map Dt.tr).drop 0) := by
  rw [Dt.tr_mk, js, if_neg (by omega), List.drop_zero]
theorem zfj {dp left : Int} {d : Nd} {ts : List Dt} (h : left - 1 < 0 ∨ 200 < dp) : js dp left (Dt.mk d ts).tr = (false, left - 1) := by
  rw [Dt.tr_mk, js, if_pos h]
theorem qtf {p : Tr → Bool} {d : Nd} {ts : List Dt} : qdi p (Dt.mk d ts).tr = (p (Dt.mk d ts).tr && qjf p ((ts.map Dt.tr).drop 0)) := by
  rw [Dt.tr_mk, qdi, List.drop_zero]
theorem zga {p : Tr → Bool} {i : Nat} {ts : List Dt} {t : Dt} (hi : ts[i]? = some t) : qjf p ((ts.map Dt.tr).drop i) = (qdi p t.tr && qjf p ((ts.map Dt.tr).drop (i + 1))) := by
  rw [ul hi, qjf]
theorem zgb {p : Tr → Bool} {dp left : Int} {d : Nd} {ts : List Dt} (h1 : ¬ 200 < dp) (h2 : ¬ left ≤ 0) (h3 : p (Dt.mk d ts).tr = true) : qcj p dp left (Dt.mk d ts).tr = qfd p dp (decide (d.k = 8)) 0 (left - 1) ((ts.map Dt.tr).drop 0) := by
  rw [Dt.tr_mk] at h3 ⊢
  rw [qcj, if_neg (by rw [h3]; simp; omega), List.drop_zero]
theorem qtg {p : Tr → Bool} {dp left : Int} {d : Nd} {ts : List Dt} (h : 200 < dp ∨ left ≤ 0 ∨ p (Dt.mk d ts).tr = false) : qcj p dp left (Dt.mk d ts).tr = -1 := by
  rw [Dt.tr_mk] at h ⊢
  rw [qcj, if_pos h]
theorem qth {p : Tr → Bool} {dp m D : Int} {pr : Bool} {i : Nat} {ts : List Dt} {t : Dt} (hi : ts[i]? = some t) (hm : ¬ m < 0) (hD : (if pr = true ∧ i = 1 then dp else dp + 1) = D) : qfd p dp pr i m ((ts.map Dt.tr).drop i) = qfd p dp pr (i + 1) (qcj p D m t.tr) ((ts.map Dt.tr).drop (i + 1)) := by
  rw [ul hi, qfd, if_neg hm, hD]
theorem zbd (p : Tr → Bool) (t : Tr) (dp left : Int) (h : 0 ≤ left) : -1 ≤ qcj p dp left t ∧ qcj p dp left t ≤ left := by
  rw [qqj p t dp left h]
  split
  · rename_i hc
    exact ⟨by have := qcb t _ _ hc.1; omega, qtd t _ _⟩
  · exact ⟨by omega, by omega⟩
/-- A fraction without words. -/
def kr (b : Bool) (m m' : Nat) : Bool := !b && (decide (m = 0) && decide (m' = 0))
/-- Nothing beside the kind. -/
def vx (n : Int) (b1 : Bool) (m1 m2 : Nat) (b2 : Bool) (m3 m4 : Nat) (s : ByteArray) (mr ml : Nat) : Bool := decide (n = 0) && (kr b1 m1 m2 && (kr b2 m3 m4 && (decide (s = ⟨#[]⟩) && (decide (mr = 0) && decide (ml = 0)))))
def kt (n : Int) : Bool := decide (0 ≤ n ∧ n ≤ 1114111 ∧ (n < 55296 ∨ 57343 < n))
/-- A text of characters. -/
def okS (s : ByteArray) : Bool := Lib.validD s.data.toList
/-- Sound by its kind. -/
def jp (k n : Int) (q : Q6) (s : ByteArray) (mr ml : Nat) : Bool :=
  if k = 1 ∨ k = 10 then vx n q.b1 q.t1.length q.q1.length q.b2 q.t2.length q.q2.length s mr ml
  else if k = 2 then decide (n = 0 ∨ n = 1) && vx 0 q.b1 q.t1.length q.q1.length q.b2 q.t2.length q.q2.length s mr ml
  else if k = 3 then vw q && vx n false 0 0 false 0 0 s mr ml
  else if k = 4 then kt n && vx 0 q.b1 q.t1.length q.q1.length q.b2 q.t2.length q.q2.length s mr ml
  else if k = 5 ∨ k = 6 ∨ k = 11 then okS s && vx n q.b1 q.t1.length q.q1.length q.b2 q.t2.length q.q2.length ⟨#[]⟩ mr ml
  else if k = 7 then vx n q.b1 q.t1.length q.q1.length q.b2 q.t2.length q.q2.length s 0 ml
  else if k = 8 then decide (ml = 2) && vx n q.b1 q.t1.length q.q1.length q.b2 q.t2.length q.q2.length s mr 0
  else if k = 9 then vx n q.b1 q.t1.length q.q1.length q.b2 q.t2.length q.q2.length s mr 0
  else false
def zx : Tr → Bool
  | .mk k n q s rl ts => jp k n q s rl.length ts.length
theorem yj {d : Nd} {ts : List Dt} : zx (Dt.mk d ts).tr = jp d.k d.n d.y.q d.s d.rl.length ts.length := by
  rw [Dt.tr_mk, zx, List.length_map]
mutual
/-- How much a datum holds. -/
def Tr.bulk : Tr → Nat
  | .mk _ _ q s rl ts => s.size + rl.length + (q.t1.length + q.q1.length + (q.t2.length + q.q2.length)) + 1 + Tr.bulks ts
def Tr.bulks : List Tr → Nat
  | [] => 0
  | t :: ts => t.bulk + Tr.bulks ts
end
theorem um {k n : Int} {q : Q6} {s : ByteArray} {rl : List UInt8} {ts : List Tr} : (Tr.mk k n q s rl ts).bulk = s.size + rl.length + (q.t1.length + q.q1.length + (q.t2.length + q.q2.length)) + 1 + Tr.bulks ts := by rw [Tr.bulk]
theorem qcd : ∀ {ts : List Tr} {t : Tr}, t ∈ ts → t.bulk ≤ Tr.bulks ts
  | u :: us, t, h => by
    rw [Tr.bulks]
    rcases List.mem_cons.1 h with e | e
    · subst e; omega
    · have := qcd e; omega
theorem qff {d : Nd} {ts : List Dt} {t : Dt} (h : t ∈ ts) : t.tr.bulk + d.s.size + 1 ≤ (Dt.mk d ts).tr.bulk := by
  rw [Dt.tr_mk, um]
  have := qcd (List.mem_map_of_mem (f := Dt.tr) h)
  omega
theorem qrc {d : Nd} {ts : List Dt} : d.s.size ≤ (Dt.mk d ts).tr.bulk := by
  rw [Dt.tr_mk, um]
  omega
open Go.RowKit Go.Lib
/-! ### The order of trees -/
/-! ### The same trees -/
def Q6.none : Q6 := ⟨false, [], [], false, [], []⟩
/-- What is not named by the kind is nothing. -/
structure Bare (k n : Int) (q : Q6) (s : ByteArray) (mr ml : Nat) : Prop where
  hn : k ≠ 2 → k ≠ 4 → n = 0
  hq : k ≠ 3 → q = Q6.none
  hs : k ≠ 5 → k ≠ 6 → k ≠ 11 → s = ⟨#[]⟩
  hr : k ≠ 7 → mr = 0
  hl : k ≠ 8 → k ≠ 9 → ml = 0
  h8 : k = 8 → ml = 2
  h3 : k = 3 → vw q = true
  h0 : 1 ≤ k
  h1 : k ≤ 11
  h2 : k = 2 → n = 0 ∨ n = 1
  h4 : k = 4 → kt n = true
  h5 : k = 5 ∨ k = 6 ∨ k = 11 → okS s = true
/-! ### Trees as they lie in memory -/
theorem Dt.eta (t : Dt) : Dt.mk t.d t.ts = t := by cases t; rfl
theorem Dt.tr_eta (t : Dt) : t.tr = .mk t.d.k t.d.n t.d.y.q t.d.s t.d.rl (t.ts.map Dt.tr) := by rw [← Dt.tr_mk, Dt.eta]
theorem zzj {w : World} {t : Dt} (h : t.rd w) {i : Nat} (hi : i < t.ts.length) : ∃ t1 b o, t.ts[i]? = some t1 ∧ t1 ∈ t.ts ∧ t1.rd w ∧ t.d.lo = some ⟨b, o, none⟩ ∧ Here w b (o + i * 11) (t1.d.cells t1.ts.length) := kid (d := t.d) (by rw [Dt.eta]; exact h) hi
theorem Dt.okT {w : World} {t : Dt} (h : t.rd w) : NdOk w t.d ∧ t.ts.length ≤ 9223372036854775807 := by
  rw [← Dt.eta t, Dt.rd_iff] at h
  exact ⟨h.1, Nat.le_trans h.2.1 h.2.2.1⟩
theorem zwe {t c : Dt} (h : c ∈ t.ts) : c.tr.bulk + t.d.s.size + 1 ≤ t.tr.bulk := by
  have := qff (d := t.d) h
  rwa [Dt.eta] at this
/-! ### The law -/
/-! ### The hash -/
/-- One more number in a hash. -/
def hw (h n : Int) : Int := bits .xor .u64 (IntKind.u64.wrap (bits .xor .u64 h n * 1099511628211)) (IntKind.u64.wrap (bits .xor .u64 h n * 1099511628211) / 2 ^ 32)
/-- A slice that has something lies in a block of p. -/
def In {α : Type} (p : Nat → Prop) (so : Option Addr) (l : List α) : Prop := l ≠ [] → ∀ b o, so = some ⟨b, o, none⟩ → p b
theorem In.mono {α : Type} {p q : Nat → Prop} {so : Option Addr} {l : List α} (h : In p so l) (hp : ∀ b, p b → q b) : In q so l := fun hne b o e => hp b (h hne b o e)
structure Nd.at_ (p : Nat → Prop) (d : Nd) : Prop where
  i1 : In p d.y.o1 d.y.q.t1
  i2 : In p d.y.o2 d.y.q.q1
  i3 : In p d.y.o3 d.y.q.t2
  i4 : In p d.y.o4 d.y.q.q2
  i5 : In p d.ro d.rl
mutual
/-- All memory of a datum lies in blocks of p. -/
def Dt.at_ (p : Nat → Prop) : Dt → Prop
  | .mk d ts => d.at_ p ∧ In p d.lo ts ∧ Dt.ats p ts
def Dt.ats (p : Nat → Prop) : List Dt → Prop
  | [] => True
  | t :: ts => t.at_ p ∧ Dt.ats p ts
end
theorem Dt.ats_iff {p : Nat → Prop} : ∀ {ts : List Dt}, Dt.ats p ts ↔ ∀ t ∈ ts, t.at_ p
  | [] => by simp [Dt.ats]
  | t :: ts => by simp [Dt.ats, Dt.ats_iff (ts := ts)]
theorem Dt.at_iff {p : Nat → Prop} {d : Nd} {ts : List Dt} : (Dt.mk d ts).at_ p ↔ d.at_ p ∧ In p d.lo ts ∧ ∀ t ∈ ts, t.at_ p := by
  rw [← Dt.ats_iff]; unfold Dt.at_; exact Iff.rfl
theorem Nd.at_mono {p q : Nat → Prop} {d : Nd} (h : d.at_ p) (hp : ∀ b, p b → q b) : d.at_ q := ⟨h.i1.mono hp, h.i2.mono hp, h.i3.mono hp, h.i4.mono hp, h.i5.mono hp⟩
theorem Dt.at_mono {p q : Nat → Prop} (hp : ∀ b, p b → q b) : ∀ t : Dt, t.at_ p → t.at_ q :=
  Dt.indT fun d ts ih h => by
    rw [Dt.at_iff] at h ⊢
    exact ⟨Nd.at_mono h.1 hp, h.2.1.mono hp, fun t ht => ih t ht (h.2.2 t ht)⟩
/-- The cells of these blocks are kept. -/
def Kept (p : Nat → Prop) (w w' : World) : Prop := w.heap.size ≤ w'.heap.size ∧ ∀ b i v, p b → w.cell? ⟨b, i, none⟩ = some v → w'.cell? ⟨b, i, none⟩ = some v
theorem zsi {p : Nat → Prop} {w w' : World} {so : Option Addr} {l : List Nat} (h : Rd w so l) (hi : In p so l) (hk : Kept p w w') : Rd w' so l := by
  refine ⟨h.dig, fun hne => ?_⟩
  obtain ⟨b, off, h1, h2, h3⟩ := h.pos hne
  exact ⟨b, off, h1, Nat.lt_of_lt_of_le h2 hk.1, fun j hj => hk.2 _ _ _ (hi hne _ _ h1) (h3 j hj)⟩
theorem zgc {p : Nat → Prop} {w w' : World} {so : Option Addr} {l : List UInt8} (h : Rb w so l) (hi : In p so l) (hk : Kept p w w') : Rb w' so l := by
  refine ⟨fun hne => ?_⟩
  obtain ⟨b, off, h1, h2, h3⟩ := h.pos hne
  exact ⟨b, off, h1, Nat.lt_of_lt_of_le h2 hk.1, fun j hj => hk.2 _ _ _ (hi hne _ _ h1) (h3 j hj)⟩
theorem ko {p : Nat → Prop} {w w' : World} {so : Option Addr} {c : Nat} {l : List Nat} (h : Sc w so c l) (hi : In p so l) (hk : Kept p w w') : Sc w' so c l := ⟨zsi h.rd hi hk, h.nil, h.cap⟩
theorem NdOk.kept {p : Nat → Prop} {w w' : World} {d : Nd} (h : NdOk w d) (hi : d.at_ p) (hk : Kept p w w') : NdOk w' d := { h with num := ⟨ko h.num.s1 hi.i1 hk, ko h.num.s2 hi.i2 hk, ko h.num.s3 hi.i3 hk, ko h.num.s4 hi.i4 hk⟩, raw := zgc h.raw hi.i5 hk }
theorem Rt.kept {p : Nat → Prop} {w w' : World} {lo : Option Addr} {ts : List Dt} (h : Rt w lo ts) (hi : In p lo ts) (hk : Kept p w w') : Rt w' lo ts := fun hne => by
  obtain ⟨b, o, e, h2⟩ := h hne
  exact ⟨b, o, e, fun i t hi' => ⟨Nat.lt_of_lt_of_le (h2 i t hi').1 hk.1, fun j v hj => hk.2 _ _ _ (hi hne _ _ e) ((h2 i t hi').2 j v hj)⟩⟩
/-- Where all its memory is kept, a datum kb. -/
theorem Dt.kept {p : Nat → Prop} {w w' : World} (hk : Kept p w w') : ∀ t : Dt, t.rd w → t.at_ p → t.rd w' :=
  Dt.indT fun d ts ih h hi => by
    rw [Dt.rd_iff] at h ⊢
    rw [Dt.at_iff] at hi
    exact ⟨h.1.kept hi.1 hk, h.2.1, h.2.2.1, h.2.2.2.1.kept hi.2.1 hk, fun t ht => ih t ht (h.2.2.2.2 t ht) (hi.2.2 t ht)⟩
theorem qce {w : World} {so : Option Addr} {l : List Nat} (h : Rd w so l) : In (· < w.heap.size) so l := fun hne b o e => by
  obtain ⟨b', off, h1, h2, _⟩ := h.pos hne
  rw [h1] at e; cases e; exact h2
theorem zbe {w : World} {so : Option Addr} {l : List UInt8} (h : Rb w so l) : In (· < w.heap.size) so l := fun hne b o e => by
  obtain ⟨b', off, h1, h2, _⟩ := h.pos hne
  rw [h1] at e; cases e; exact h2
theorem zij {w : World} {lo : Option Addr} {ts : List Dt} (h : Rt w lo ts) : In (· < w.heap.size) lo ts := fun hne b o e => by
  obtain ⟨b', o', h1, h2⟩ := h hne
  rw [h1] at e; cases e
  cases ts with
  | nil => exact absurd rfl hne
  | cons t ts => exact (h2 0 t rfl).1
/-- What is there lies in what there is. -/
theorem Dt.at_lt {w : World} : ∀ t : Dt, t.rd w → t.at_ (· < w.heap.size) :=
  Dt.indT fun d ts ih h => by
    rw [Dt.rd_iff] at h
    rw [Dt.at_iff]
    exact ⟨⟨qce h.1.num.s1.rd, qce h.1.num.s2.rd, qce h.1.num.s3.rd, qce h.1.num.s4.rd, zbe h.1.raw⟩, zij h.2.2.2.1, fun t ht => ih t ht (h.2.2.2.2 t ht)⟩
theorem Kept.trans {p : Nat → Prop} {w w' w'' : World} (h : Kept p w w') (k : Kept p w' w'') : Kept p w w'' := ⟨Nat.le_trans h.1 k.1, fun b i v hb hc => k.2 b i v hb (h.2 b i v hb hc)⟩
theorem Kept.mono {p q : Nat → Prop} {w w' : World} (h : Kept p w w') (hq : ∀ b, q b → p b) : Kept q w w' := ⟨h.1, fun b i v hb hc => h.2 b i v (hq b hb) hc⟩
theorem qlh (w : World) (g o : Nat) (cs : List Value) : Kept (· ≠ g) w (w.setCells g o cs) := by
  induction cs generalizing w o with
  | nil => exact ⟨Nat.le_refl _, fun _ _ _ _ h => h⟩
  | cons c cs ih =>
    refine Kept.trans ⟨by simp, fun b i v hb hc => ?_⟩ (ih (w.setCell ⟨g, o, none⟩ c) (o + 1))
    have : (w.setCell ⟨g, o, none⟩ c).cell? ⟨b, i, none⟩ = w.cell? ⟨b, i, none⟩ := by
      unfold World.cell?
      rw [Below.heap_setCell w ⟨g, o, none⟩ c b hb]
    rw [this]; exact hc
/-! ### Rows of data -/
def cellsOf (ts : List Dt) : List Value := ts.flatMap Dt.cells
theorem kj (t : Dt) : t.cells.length = 11 := rfl
theorem xx : ∀ ts : List Dt, (cellsOf ts).length = ts.length * 11
  | [] => rfl
  | t :: ts => by
    have := xx ts
    unfold cellsOf at this ⊢
    rw [List.flatMap_cons, List.length_append, kj, this, List.length_cons]; omega
theorem yq (a b : List Dt) : cellsOf (a ++ b) = cellsOf a ++ cellsOf b := List.flatMap_append
theorem qxb (t : Dt) : cellsOf [t] = t.cells := by unfold cellsOf; rw [List.flatMap_singleton]
theorem uy : ∀ (ts : List Dt) (i : Nat), (cellsOf ts).drop (i * 11) = cellsOf (ts.drop i)
  | ts, 0 => by rw [Nat.zero_mul]; rfl
  | [], i + 1 => by simp [cellsOf]
  | t :: ts, i + 1 => by
    have := uy ts i
    rw [List.drop_succ_cons, ← this]
    unfold cellsOf
    rw [List.flatMap_cons, show (i + 1) * 11 = t.cells.length + i * 11 by rw [kj]; omega, List.drop_append, List.drop_of_length_le (by omega), Nat.add_sub_cancel_left, List.nil_append]
theorem qfg : ∀ (ts : List Dt) (i : Nat), (cellsOf ts).take (i * 11) = cellsOf (ts.take i)
  | ts, 0 => by rw [Nat.zero_mul]; rfl
  | [], i + 1 => by simp [cellsOf]
  | t :: ts, i + 1 => by
    have := qfg ts i
    rw [List.take_succ_cons]
    unfold cellsOf at this ⊢
    rw [List.flatMap_cons, List.flatMap_cons, show (i + 1) * 11 = t.cells.length + i * 11 by rw [kj]; omega, List.take_length_add_append, this]
theorem qdj {ts : List Dt} {i : Nat} {t : Dt} (h : ts[i]? = some t) : ((cellsOf ts).drop (i * 11)).take 11 = t.cells := by
  obtain ⟨hi, rfl⟩ := List.getElem?_eq_some_iff.1 h
  rw [uy, List.drop_eq_getElem_cons hi]
  unfold cellsOf
  rw [List.flatMap_cons, show 11 = (ts[i]).cells.length from rfl, List.take_left]
theorem qti {ts : List Dt} {i j : Nat} {t : Dt} {v : Value} (h : ts[i]? = some t) (hj : t.cells[j]? = some v) : (cellsOf ts)[i * 11 + j]? = some v := by
  have hlt : j < 11 := by have := (List.getElem?_eq_some_iff.1 hj).1; rwa [kj] at this
  rw [← qdj h, List.getElem?_take, if_pos hlt, List.getElem?_drop] at hj
  exact hj
theorem qxc {ts : List Dt} {i : Nat} (t : Dt) (h : i < ts.length) : over (cellsOf ts) (i * 11) t.cells = cellsOf (ts.set i t) := by
  rw [qtc (by rw [xx, kj]; omega), kj, show i * 11 + 11 = (i + 1) * 11 by omega, uy, qfg, List.set_eq_take_append_cons_drop, if_pos h, yq]
  rw [show t :: ts.drop (i + 1) = [t] ++ ts.drop (i + 1) from rfl, yq, qxb, List.append_assoc]
theorem qea {w : World} {B : Nat} {e : TypeId} {so : Option Addr} {n cap : Nat} {ts : List Dt} (h : w.ownsRow B e 11 (.slice so n cap) n (cellsOf ts)) : Rt w so ts ∧ n = ts.length ∧ n ≤ cap ∧ cap ≤ 9223372036854775807 := by
  have hn : n = ts.length := by have := h.1; rw [xx] at this; omega
  refine ⟨fun hne => ?_, hn, ?_⟩
  · rcases h.2 with ⟨e1, e2⟩ | ⟨g, cap', cur, e1, hg, hc, h1, h2, h3, h4⟩
    · subst e2; exact absurd (List.length_eq_zero_iff.1 hn.symm) hne
    · cases e1
      refine ⟨g, 0, rfl, fun i t hi => ⟨(Array.getElem?_eq_some_iff.1 hc).1, fun j v hj => ?_⟩⟩
      have hlt : j < 11 := by have := (List.getElem?_eq_some_iff.1 hj).1; rwa [kj] at this
      have hil := (List.getElem?_eq_some_iff.1 hi).1
      have h5 := qti hi hj
      rw [← h4, List.getElem?_take, if_pos (by omega)] at h5
      rw [show (⟨g, 0 + i * 11 + j, none⟩ : Addr) = ⟨g, i * 11 + j, none⟩ by rw [Nat.zero_add], cell_of_row w g _ cur e (0, 0) hc]
      simpa using h5
  · rcases h.2 with ⟨e1, e2⟩ | ⟨g, cap', cur, e1, hg, hc, h1, h2, h3, h4⟩
    · cases e1; exact ⟨Nat.le_refl _, by omega⟩
    · cases e1; refine ⟨h1, Nat.le_trans h2 ?_⟩; decide
section
variable {P : Program} {w0 w : World} {L : List Ck} {l : List (Nat × Value)} {dst : Option Tmp} {ty : TypeId} {pos : String} {after : Array Edge} {guard : Option (Nat × Bool)} {v : Value}
/-- A slice reads as these cells, so many elements. -/
def Rc (w : World) (so : Option Addr) (cs : List Value) : Prop := cs ≠ [] → ∃ b off, so = some ⟨b, off, none⟩ ∧ ∀ p u, cs[p]? = some u → w.cell? ⟨b, off + p, none⟩ = some u
theorem Rc.below {w w' : World} {so : Option Addr} {cs : List Value} (h : Rc w so cs) (hb : Below w.heap.size w w') : Rc w' so cs := fun hne => by
  obtain ⟨b, off, e, h2⟩ := h hne
  exact ⟨b, off, e, fun p u hp => (hb.cell (cell_lt (h2 p u hp))).trans (h2 p u hp)⟩
theorem zne {w : World} {so : Option Addr} {ts : List Dt} (h : Rt w so ts) : Rc w so (cellsOf ts) := fun hne => by
  obtain ⟨b, o, e, h2⟩ := h (fun k => hne (by rw [k]; rfl))
  refine ⟨b, o, e, fun p u hp => ?_⟩
  have hlt : p < ts.length * 11 := by have := (List.getElem?_eq_some_iff.1 hp).1; rwa [xx] at this
  have hi : p / 11 < ts.length := by omega
  have ht := List.getElem?_eq_getElem hi
  have hp2 : p = p / 11 * 11 + p % 11 := by omega
  have h3 := (h2 (p / 11) _ ht).2 (p % 11) u (by
    have h4 := qdj ht
    rw [← h4, List.getElem?_take, if_pos (by omega), List.getElem?_drop, ← hp2]; exact hp)
  rw [show o + p = o + p / 11 * 11 + p % 11 by omega]; exact h3
theorem rc_own {w : World} {B : Nat} {e : TypeId} {sz n cap : Nat} {so : Option Addr} {xs : List Value} (h : w.ownsRow B e sz (.slice so n cap) n xs) : Rc w so xs := fun hne => by
  rcases h.2 with ⟨e1, e2⟩ | ⟨g, cap', cur, e1, hg, hc, h1, h2, h3, h4⟩
  · subst e2; exact absurd (List.length_eq_zero_iff.1 (by rw [h.1]; simp)) hne
  · cases e1
    exact ⟨g, 0, rfl, fun p u hp => by rw [Nat.zero_add, World.ownsRow.cellAt h p (by have := (List.getElem?_eq_some_iff.1 hp).1; rw [h.1] at this; exact this)]; exact hp⟩
theorem xb {e t : TypeId} {sz by_ : Nat} {z : Value} {x y : Operand} (ht : P.underlying t = some (.slice e)) (hinfo : (P.info? e).map (fun i => (i.zero, i.size, i.bytes)) = some (some z, sz, by_)) (hzc : z.cells.size = sz) (hsz : Nat.ble 1 sz = true) (hby : Nat.ble by_ 1000 = true) (hM : Mg w0 w L) (k : Nat) {q : Nat} {xs : List Value} (hk : L[k]? = some (.row e sz v q xs)) (hx : ev l x = some v) {so : Option Addr} {m c2 : Nat} {news : List Value} (hy : ev l y = some (.slice so m c2)) (hnl : news.length = m * sz) (hr : Rc w so news) (h1 : ∀ u ∈ news, u.oneCell' = true) (hlen : q + m ≤ 1000000000) :
    ∃ v' w', Does P l ⟨dst, .call ⟨.builtin .append, #[x, y], #[t, t]⟩, ty, pos, after, guard⟩ w v' w' ∧ Mg w0 w' (L.set k (.row e sz v' (q + m) (xs ++ news))) := by
  obtain ⟨i, hi, hzz⟩ := Option.map_eq_some_iff.1 hinfo
  simp only [Prod.mk.injEq] at hzz
  obtain ⟨hz, hs, hb⟩ := hzz
  have hrow := hM.has k hk
  by_cases hm : m = 0
  · subst hm
    have h0 : news = [] := List.length_eq_zero_iff.1 (by rw [hnl]; simp)
    subst h0
    obtain ⟨so1, cap, hle, rfl⟩ : ∃ so1 cap, q ≤ cap ∧ v = .slice so1 q cap := by
      rcases hrow.2 with ⟨rfl, rfl⟩ | ⟨g, cap, cur, rfl, _, _, h, _⟩
      · exact ⟨none, 0, Nat.le_refl _, rfl⟩
      · exact ⟨_, cap, h, rfl⟩
    have h2 : (sizeOf e).run P w = .ok sz w := by simp [sizeOf, typeInfo, hi, hs]
    refine ⟨.slice so1 q cap, w, ?_, ?_⟩
    · intro ρ h
      cases so <;> cases so1 <;> simp [execOp, resolve, invoke, builtin, h x _ hx, h y _ hy, Builtin.append_, run_underlying ht, h2, Builtin.lenOf, Builtin.firstCells, loadCells, loadCellsFrom, storeCells, hle]
    · rw [show L.set k (.row e sz (.slice so1 q cap) (q + 0) (xs ++ [])) = L from by rw [List.append_nil]; exact qlf hk]
      exact hM
  · have hne : news ≠ [] := fun e0 => by
      rw [e0] at hnl
      have h5 := Nat.le_of_ble_eq_true hsz
      have : 0 < m * sz := Nat.mul_pos (by omega) h5
      simp at hnl; omega
    obtain ⟨b, off, rfl, hcell⟩ := hr hne
    have hbig : (q + m) * by_ ≤ 140737488355328 := Nat.le_trans (Nat.mul_le_mul hlen (Nat.le_of_ble_eq_true hby)) (by decide)
    obtain ⟨g, cap, w', hr, hown, hgr, hat, hlt⟩ := run_append_lies (P := P) w t ty w0.heap.size e i z sz by_ ht hi hz hs hb hzc (Nat.le_of_ble_eq_true hsz) v q xs hrow ⟨b, off, none⟩ m c2 news hnl (fun p u hp => by
        rw [xi]
        exact hcell p u hp) h1 (by omega) (by unfold maxLen; omega) hbig hM.bel.size w.heap.size rfl
    refine ⟨.slice (some ⟨g, 0, none⟩) (q + m) cap, w', fun ρ h => ?_, hM.turn k hk (by simp) hgr hown (fun d hd ha => ?_)⟩
    · simp [execOp, resolve, invoke, builtin, h x _ hx, h y _ hy, hr]
    · have hl := Ck.lt (hM.all d hd)
      have key : ∀ z, d.at_ = some z → v.ownBlock ≠ some z → g ≠ z := fun z hz hne e => by
        subst e
        rcases hat with h | h
        · exact hne h
        · have := (hl g hz).2; omega
      cases d with
      | obj g' o' => exact fun e => key g' rfl ha (by simpa [Value.ownBlock] using e)
      | row e' sz' v' n' xs' =>
        right
        intro e
        have e2 : v'.ownBlock = some g := e.symm
        rcases ha with ha | ha
        · exact key g e2 (by rw [ha]; simp) rfl
        · exact key g e2 (fun h => ha (h.trans e2.symm)) rfl
      | bld b' bs' => exact ⟨ha.1, fun e => key b' rfl ha.2 (by simpa [Value.ownBlock] using e)⟩
/-- A row of nothing. -/
theorem Mg.nilRow (h : Mg w0 w L) (hb : jd L) (e : TypeId) (sz : Nat) : Mg w0 w (.row e sz (.slice none 0 0) 0 [] :: L) := by
  refine h.add (Below.refl _ _) ⟨by simp, .inl ⟨rfl, rfl⟩⟩ (fun k hk => by cases hk) (.inr (.inl ⟨_, _, _, _, _, rfl, .inr hb⟩))
theorem zbf {w : World} {B : Nat} {e : TypeId} {sz n cap : Nat} {so : Option Addr} {xs : List Value} (h : w.ownsRow B e sz (.slice so n cap) n xs) {α : Type} (l : List α) : In (B ≤ ·) so l := fun _ b o e1 => by
  rcases h.2 with ⟨e2, _⟩ | ⟨g, cap', cur, e2, hg, _⟩
  · cases e2; cases e1
  · cases e2; cases e1; exact hg
theorem qrd (t : Dt) : ∀ u ∈ t.cells, u.oneCell' = true := by
  intro u hu
  unfold Dt.cells Nd.cells at hu
  simp only [List.mem_cons, List.not_mem_nil, or_false] at hu
  rcases hu with h | h | h | h | h | h | h | h | h | h | h <;> subst h <;> rfl
theorem ye (ts : List Dt) : ∀ u ∈ cellsOf ts, u.oneCell' = true := by
  intro u hu
  unfold cellsOf at hu
  obtain ⟨t, _, ht⟩ := List.mem_flatMap.1 hu
  exact qrd t u ht
section
variable {ops : List Oper} {Q : Exit → Act → World → Prop} {a : Act} {n : Nat} {o : Oper} {rest : List Oper} {d : Nat}
/-- A new block: all that was there is kept. -/
theorem zxg (hA : Sl a n l) (hM : Mg w0 w L) (hg : zr l ops o = true) (hdst : o.dst = some d) (hd : Nat.blt d n = true) {vs : List Value} {t : TypeId} (val : Nat → Value) (he : Does P l o w (val w.heap.size) (w.alloc (.cells vs.toArray t))) (ht : t ≠ BY)
    (hk : ∀ g w', Mg w0 w' (.obj g (.cells vs.toArray t) :: L) → w.heap.size ≤ g → Below w.heap.size w w' → ∀ a', Sl a' n ((d, val g) :: l) → wpList P ops.toArray Q rest a' w') : wpList P ops.toArray Q (o :: rest) a w :=
  vt hA hg hdst hd he (hk _ _ (hM.addObj _ (yx ht)) (Nat.le_refl _) ((Below.refl _ w).alloc (Nat.le_refl _) _))
/-- A store into a block: the others are kept. -/
theorem qxd (hA : Sl a n l) (hM : Mg w0 w L) (hg : zr l ops o = true) (hdst : o.dst = none) {g q : Nat} {cs vs us : List Value} {e : TypeId} (he : Sets P l o w (w.setCells g q cs)) (k : Nat) (hk0 : L[k]? = some (.obj g (.cells vs.toArray e))) (hus : over vs q cs = us) {L' : List Ck} (hL : L.set k (.obj g (.cells us.toArray e)) = L')
    (hk : ∀ w', Mg w0 w' L' → Kept (· ≠ g) w w' → wpList P ops.toArray Q rest a w') : wpList P ops.toArray Q (o :: rest) a w :=
  qej hA hg hdst he (hk _ (by subst hus hL; exact Mg.puts cs w L vs q hM k hk0) (qlh _ _ _ _))
/-- .. into a row. -/
theorem qre (hA : Sl a n l) (hM : Mg w0 w L) (hg : zr l ops o = true) (hdst : o.dst = none) {g q m cap : Nat} {cs xs us : List Value} {e : TypeId} {sz : Nat} (he : Sets P l o w (w.setCells g q cs)) (k : Nat) (hk0 : L[k]? = some (.row e sz (.slice (some ⟨g, 0, none⟩) m cap) m xs)) (hus : over xs q cs = us) {L' : List Ck} (hL : L.set k (.row e sz (.slice (some ⟨g, 0, none⟩) m cap) m us) = L')
    (hk : ∀ w', Mg w0 w' L' → Kept (· ≠ g) w w' → wpList P ops.toArray Q rest a w') : wpList P ops.toArray Q (o :: rest) a w :=
  qej hA hg hdst he (hk _ (by subst hus hL; exact Mg.rowPuts cs w L xs q hM k hk0) (qlh _ _ _ _))
end
section
variable {ops : List Oper} {Q : Exit → Act → World → Prop} {a : Act} {n : Nat} {o : Oper} {S : World → Prop} {md : Region.Mode} {fuel : Nat} {listed : Array Bool}
theorem qxe (hA : Sl a n l) (hM : Mg w0 w L) (i : Nat) (hi : ops[i]? = some o) (hg : zr l ops o = true) (hdst : o.dst = none) {g q : Nat} {cs vs us : List Value} {e : TypeId} (he : Sets P l o w (w.setCells g q cs)) (k : Nat) (hk0 : L[k]? = some (.obj g (.cells vs.toArray e))) (hus : over vs q cs = us) {L' : List Ck} (hL : L.set k (.obj g (.cells us.toArray e)) = L')
    (hk : ∀ w', Mg w0 w' L' → Kept (· ≠ g) w w' → S w' ∧ wpAnyH P md ops.toArray Q S fuel (listed.setIfInBounds i true) a w') : wpOp P ops.toArray Q i (fun a' w' => S w' ∧ wpAnyH P md ops.toArray Q S fuel (listed.setIfInBounds i true) a' w') a w := by
  have h := hk _ (by subst hus hL; exact Mg.puts cs w L vs q hM k hk0) (qlh _ _ _ _)
  exact qsh hA i hi hg hdst he h.1 h.2
theorem zja (hA : Sl a n l) (hM : Mg w0 w L) (i : Nat) (hi : ops[i]? = some o) (hg : zr l ops o = true) (hdst : o.dst = none) {g q m cap : Nat} {cs xs us : List Value} {e : TypeId} {sz : Nat} (he : Sets P l o w (w.setCells g q cs)) (k : Nat) (hk0 : L[k]? = some (.row e sz (.slice (some ⟨g, 0, none⟩) m cap) m xs)) (hus : over xs q cs = us) {L' : List Ck} (hL : L.set k (.row e sz (.slice (some ⟨g, 0, none⟩) m cap) m us) = L')
    (hk : ∀ w', Mg w0 w' L' → S w' ∧ wpAnyH P md ops.toArray Q S fuel (listed.setIfInBounds i true) a w') : wpOp P ops.toArray Q i (fun a' w' => S w' ∧ wpAnyH P md ops.toArray Q S fuel (listed.setIfInBounds i true) a' w') a w := by
  have h := hk _ (by subst hus hL; exact Mg.rowPuts cs w L xs q hM k hk0)
  exact qsh hA i hi hg hdst he h.1 h.2
end
end
def xl (l : List Nat) : List Value := l.map fun n => .int .u32 ((n : Nat) : Int)
theorem zgd (l : List Nat) : (xl l).length = l.length * 1 := by unfold xl; simp
theorem qqi (l : List Nat) : ∀ u ∈ xl l, u.oneCell' = true := by
  intro u hu
  unfold xl at hu
  obtain ⟨n, _, rfl⟩ := List.mem_map.1 hu
  rfl
theorem zge (l : List UInt8) : (Lib.byteCells l).length = l.length * 1 := by unfold Lib.byteCells; simp
theorem zjb (l : List UInt8) : ∀ u ∈ Lib.byteCells l, u.oneCell' = true := by
  intro u hu
  unfold Lib.byteCells at hu
  obtain ⟨n, _, rfl⟩ := List.mem_map.1 hu
  rfl
theorem znf {w : World} {so : Option Addr} {l : List UInt8} (h : Rb w so l) : Rc w so (Lib.byteCells l) := fun hne => by
  obtain ⟨b, off, h1, h2, h3⟩ := h.pos (fun k => hne (by rw [k]; rfl))
  refine ⟨b, off, h1, fun p u hp => ?_⟩
  have hlt : p < l.length := by have := (List.getElem?_eq_some_iff.1 hp).1; rw [zge] at this; omega
  rw [h3 p hlt, ← hp]
  simp [Lib.byteCells, List.getD_eq_getElem?_getD, hlt]
theorem zng {w : World} {so : Option Addr} {l : List Nat} (h : Rd w so l) : Rc w so (xl l) := fun hne => by
  obtain ⟨b, off, h1, h2, h3⟩ := h.pos (fun k => hne (by rw [k]; rfl))
  refine ⟨b, off, h1, fun p u hp => ?_⟩
  have hlt : p < l.length := by have := (List.getElem?_eq_some_iff.1 hp).1; rw [zgd] at this; omega
  rw [h3 p hlt, ← hp]
  simp [xl, List.getD_eq_getElem?_getD, hlt]
theorem zgf {w : World} {B : Nat} {e : TypeId} {sz n cap : Nat} {so : Option Addr} {xs : List Value} (h : w.ownsRow B e sz (.slice so n cap) n xs) : n ≤ cap := by
  rcases h.2 with ⟨e1, e2⟩ | ⟨g, cap', cur, e1, hg, hc, h1, _⟩
  · cases e1; exact Nat.le_refl _
  · cases e1; exact h1
theorem zsj {w : World} {B : Nat} {e : TypeId} {sz n cap : Nat} {so : Option Addr} {xs : List Value} (h : w.ownsRow B e sz (.slice so n cap) n xs) : cap ≤ 9223372036854775807 := by
  rcases h.2 with ⟨e1, e2⟩ | ⟨g, cap', cur, e1, hg, hc, h1, h2, _⟩
  · cases e1; decide
  · cases e1; refine Nat.le_trans h2 ?_; decide
theorem zxh {w : World} {B : Nat} {e : TypeId} {cap : Nat} {so : Option Addr} {l : List Nat} (hd : Dig l) (h : w.ownsRow B e 1 (.slice so l.length cap) l.length (xl l)) : Sc w so cap l := by
  refine ⟨⟨hd, fun hne => ?_⟩, fun e0 => ?_, zgf h⟩
  · rcases h.2 with ⟨e1, e2⟩ | ⟨g, cap', cur, e1, hg, hc, h1, _⟩
    · exact absurd (List.length_eq_zero_iff.1 e2) hne
    · cases e1
      refine ⟨g, 0, rfl, (Array.getElem?_eq_some_iff.1 hc).1, fun j hj => ?_⟩
      rw [Nat.zero_add, World.ownsRow.cellAt h j (by omega)]
      simp [xl, List.getD_eq_getElem?_getD, hj]
  · rcases h.2 with ⟨e1, e2⟩ | ⟨g, cap', cur, e1, _⟩
    · simp only [Value.slice.injEq] at e1; exact e1.2.2
    · cases e1; cases e0
theorem jg {w : World} {B : Nat} {e : TypeId} {sz : Nat} {v : Value} {n : Nat} {xs : List Value} (h : w.ownsRow B e sz v n xs) : ∃ so cap, v = .slice so n cap := by
  rcases h.2 with ⟨rfl, rfl⟩ | ⟨g, cap, cur, rfl, _⟩
  · exact ⟨none, 0, rfl⟩
  · exact ⟨_, cap, rfl⟩
theorem qli {w : World} {B : Nat} {e : TypeId} {sz : Nat} {v : Value} {n : Nat} {xs : List Value} (h : w.ownsRow B e sz v n xs) (hn : n ≠ 0) : ∃ g cap, v = .slice (some ⟨g, 0, none⟩) n cap := by
  rcases h.2 with ⟨rfl, rfl⟩ | ⟨g, cap, cur, rfl, _⟩
  · exact absurd rfl hn
  · exact ⟨g, cap, rfl⟩
/-- New data, apart from a block. -/
def CsOk (B : Nat) (g : Nat) (w : World) (cs : List Dt) : Prop := ∀ t ∈ cs, t.rd w ∧ t.at_ (fun b => B ≤ b ∧ b ≠ g)
theorem znh {B g : Nat} {w : World} : CsOk B g w [] := fun t h => by cases h
theorem CsOk.below {B g : Nat} {w w' : World} {cs : List Dt} (h : CsOk B g w cs) (hb : Below w.heap.size w w') : CsOk B g w' cs := fun t ht => ⟨Dt.keep hb _ (h t ht).1, (h t ht).2⟩
theorem CsOk.new {B g g' : Nat} {w w' w'' : World} {cs : List Dt} (h : CsOk B g w cs) (hg : w.heap.size ≤ g') (hb : Below w.heap.size w w') (hk : Kept (· ≠ g') w' w'') : CsOk B g w'' cs := fun t ht => ⟨Dt.kept hk _ (Dt.keep hb _ (h t ht).1) (Dt.at_mono (fun b hb' => by intro e; omega) _ (Dt.at_lt _ (h t ht).1)), (h t ht).2⟩
theorem CsOk.snoc {B g : Nat} {w w' : World} {cs : List Dt} {t : Dt} (h : CsOk B g w cs) (hr : t.rd w) (ha : t.at_ (fun b => B ≤ b ∧ b ≠ g)) (hk : Kept (· ≠ g) w w') : CsOk B g w' (cs ++ [t]) := fun u hu => by
  rcases List.mem_append.1 hu with h1 | h1
  · exact ⟨Dt.kept hk _ (h u h1).1 (Dt.at_mono (fun b hb => hb.2) _ (h u h1).2), (h u h1).2⟩
  · rw [List.mem_singleton.1 h1]
    exact ⟨Dt.kept hk _ hr (Dt.at_mono (fun b hb => hb.2) _ ha), ha⟩
theorem zxi {ts cs : List Dt} {i : Nat} (hl : cs.length = i) (hi : i < ts.length) : ∃ t, ts[i]? = some t ∧ t ∈ ts ∧ (cs ++ ts.drop i)[i]? = some t := by
  have ht := List.getElem?_eq_getElem hi
  refine ⟨ts[i], ht, List.getElem_mem hi, ?_⟩
  rw [List.getElem?_append_right (by omega), List.getElem?_drop, hl, Nat.sub_self, Nat.add_zero, ht]
theorem zta {ts cs : List Dt} {i : Nat} (t : Dt) (hl : cs.length = i) (hi : i < ts.length) : (cs ++ ts.drop i).set i t = (cs ++ [t]) ++ ts.drop (i + 1) := by
  rw [List.set_append_right _ _ (by omega), hl, Nat.sub_self, List.drop_eq_getElem_cons hi, List.set_cons_zero, List.append_assoc]
  rfl
theorem ztb {ts cs : List Dt} {i : Nat} {t u : Dt} (h : cs.map Dt.tr = (ts.take i).map Dt.tr) (hi : ts[i]? = some t) (hu : u.tr = t.tr) : (cs ++ [u]).map Dt.tr = (ts.take (i + 1)).map Dt.tr := by
  obtain ⟨hl, rfl⟩ := List.getElem?_eq_some_iff.1 hi
  rw [List.map_append, h, List.take_succ_eq_append_getElem hl, List.map_append, List.map_singleton, List.map_singleton, hu]
theorem qfh {ts : List Dt} {t : Dt} (h : t ∈ ts) : t.tr.bulk ≤ Tr.bulks (ts.map Dt.tr) := qcd (List.mem_map_of_mem h)
theorem yk : ∀ ts : List Dt, ts.length ≤ Tr.bulks (ts.map Dt.tr)
  | [] => Nat.le_refl _
  | t :: ts => by
    have := yk ts
    have h2 : 1 ≤ t.tr.bulk := by cases t; rw [Dt.tr_mk, um]; omega
    rw [List.map_cons, Tr.bulks, List.length_cons]; omega
theorem zbg {d : Nd} {ts : List Dt} : (Dt.mk d ts).tr.bulk = d.s.size + d.rl.length + (d.y.q.t1.length + d.y.q.q1.length + (d.y.q.t2.length + d.y.q.q2.length)) + 1 + Tr.bulks (ts.map Dt.tr) := by rw [Dt.tr_mk, um]
theorem qcf (t : Dt) : t.cells.all Value.oneCell' = true := List.all_eq_true.2 (qrd t)
theorem qlj {ts : List Dt} {i : Nat} {t : Dt} {us : List Dt} (h : i < ts.length) (he : ts.set i t = us) : over (cellsOf ts) (i * 11) (t.d.cells t.ts.length) = cellsOf us := he ▸ qxc t h
def jq : Dt := .mk ⟨0, 0, ⟨Q6.zero, none, 0, none, 0, none, 0, none, 0⟩, ⟨#[]⟩, none, 0, [], none, 0⟩ []
theorem qrf : LenQ Q6.zero := ⟨by decide, by decide, by decide, by decide⟩
theorem ztc (w : World) (k : Int) (h0 : -9223372036854775808 ≤ k) (h1 : k ≤ 9223372036854775807) : (Dt.mk ⟨k, 0, ⟨Q6.zero, none, 0, none, 0, none, 0, none, 0⟩, ⟨#[]⟩, none, 0, [], none, 0⟩ []).rd w :=
  Dt.rd_iff.2 ⟨⟨⟨Sc.none w, Sc.none w, Sc.none w, Sc.none w⟩, qrf, ⟨fun h => absurd rfl h⟩, Nat.le_refl _, by show (0 : Nat) ≤ _; omega, h0, h1, by show (-9223372036854775808 : Int) ≤ 0; omega, by show (0 : Int) ≤ 9223372036854775807; omega, by show (0 : Nat) ≤ _; omega⟩, Nat.le_refl _, by show (0 : Nat) ≤ _; omega, fun h => absurd rfl h, fun t h => by cases h⟩
theorem qxf (w : World) : jq.rd w := ztc w 0 (by decide) (by decide)
theorem ztd (p : Nat → Prop) (k : Int) : (Dt.mk ⟨k, 0, ⟨Q6.zero, none, 0, none, 0, none, 0, none, 0⟩, ⟨#[]⟩, none, 0, [], none, 0⟩ []).at_ p :=
  Dt.at_iff.2 ⟨⟨fun h => absurd rfl h, fun h => absurd rfl h, fun h => absurd rfl h, fun h => absurd rfl h, fun h => absurd rfl h⟩, fun h => absurd rfl h, fun t h => by cases h⟩
theorem zni (p : Nat → Prop) : jq.at_ p := ztd p 0
/-! ### What a shape says -/
/-! ### Slices of data, and what is found in them -/
theorem zte {w : World} {so : Option Addr} {ts : List Dt} (hR : Rt w so ts) (hD : ∀ t ∈ ts, t.rd w) {i : Nat} (hi : i < ts.length) : ∃ t b o, ts[i]? = some t ∧ t ∈ ts ∧ t.rd w ∧ so = some ⟨b, o, none⟩ ∧ Here w b (o + i * 11) (t.d.cells t.ts.length) := by
  obtain ⟨b, o, e, h2⟩ := hR (fun k => by subst k; simp at hi)
  have ht := List.getElem?_eq_getElem hi
  exact ⟨ts[i], b, o, ht, List.getElem_mem hi, hD _ (List.getElem_mem hi), e, h2 i _ ht⟩
/-- Where the first such one stands, or -1. -/
def qxg (p : Dt → Bool) (ts : List Dt) : Int := if ts.any p = true then (ts.findIdx p : Int) else -1
theorem qjj {p : Dt → Bool} {ts : List Dt} {i : Nat} {t : Dt} (h : ∀ j u, j < i → ts[j]? = some u → p u = false) (hi : ts[i]? = some t) (hp : p t = true) : qxg p ts = i := by
  obtain ⟨hl, e⟩ := List.getElem?_eq_some_iff.1 hi
  unfold qxg
  rw [if_pos (List.any_eq_true.2 ⟨t, List.mem_of_getElem? hi, hp⟩)]
  congr 1
  rw [List.findIdx_eq hl]
  refine ⟨by rw [e]; exact hp, fun j hj => h j _ hj (List.getElem?_eq_getElem _)⟩
theorem qfi {p : Dt → Bool} {ts : List Dt} (h : ∀ j u, j < ts.length → ts[j]? = some u → p u = false) : qxg p ts = -1 := by
  unfold qxg
  rw [if_neg]
  intro k
  obtain ⟨t, ht, hp⟩ := List.any_eq_true.1 k
  obtain ⟨j, hj⟩ := List.mem_iff_getElem?.1 ht
  rw [h j t (List.getElem?_eq_some_iff.1 hj).1 hj] at hp
  cases hp
theorem zgg (p : Dt → Bool) (ts : List Dt) : decide (0 ≤ qxg p ts) = ts.any p := by
  unfold qxg
  by_cases h : ts.any p = true
  · rw [if_pos h, h]; exact decide_eq_true (by omega)
  · rw [if_neg h, Bool.eq_false_iff.2 h]; rfl
/-- A function that is asked of data: what it answers; it changes nothing. -/
structure Asks (P : Program) (f : FuncId) (cs : List Value) (w0 : World) (ts : List Dt) (p : Dt → Bool) : Prop where
  inv : ∀ (us : Array Value) (w : World), (callFunc f us).run P w = .ok (.enter f us) w
  run : ∀ (t : Dt) (w : World), t ∈ ts → Below w0.heap.size w0 w → Calls P f ([Value.agg (t.d.cells t.ts.length).toArray] ++ cs).toArray w fun e w' => e = .returned (.bool (p t)) ∧ Below w.heap.size w w'
/-! ### Lists that are joined -/
/-! ### A new pair -/
/-- The cells of these blocks stand there, too. -/
def Seen (p : Nat → Prop) (w w' : World) : Prop := ∀ b i v, p b → w.cell? ⟨b, i, none⟩ = some v → w'.cell? ⟨b, i, none⟩ = some v
theorem ztf {p : Nat → Prop} {w w' : World} {so : Option Addr} {l : List Nat} (h : Rd w so l) (hi : In p so l) (hk : Seen p w w') : Rd w' so l := by
  refine ⟨h.dig, fun hne => ?_⟩
  obtain ⟨b, off, h1, h2, h3⟩ := h.pos hne
  have h4 : ∀ j, j < l.length → w'.cell? ⟨b, off + j, none⟩ = some (.int .u32 ((l.getD j 0 : Nat) : Int)) := fun j hj => hk _ _ _ (hi hne _ _ h1) (h3 j hj)
  exact ⟨b, off, h1, cell_lt (h4 0 (List.length_pos_iff.2 hne)), h4⟩
theorem ztg {p : Nat → Prop} {w w' : World} {so : Option Addr} {l : List UInt8} (h : Rb w so l) (hi : In p so l) (hk : Seen p w w') : Rb w' so l := by
  refine ⟨fun hne => ?_⟩
  obtain ⟨b, off, h1, h2, h3⟩ := h.pos hne
  exact ⟨b, off, h1, cell_lt (hk _ _ _ (hi hne _ _ h1) (h3 0 (List.length_pos_iff.2 hne))), fun j hj => hk _ _ _ (hi hne _ _ h1) (h3 j hj)⟩
theorem qka {p : Nat → Prop} {w w' : World} {so : Option Addr} {c : Nat} {l : List Nat} (h : Sc w so c l) (hi : In p so l) (hk : Seen p w w') : Sc w' so c l := ⟨ztf h.rd hi hk, h.nil, h.cap⟩
theorem NdOk.seen {p : Nat → Prop} {w w' : World} {d : Nd} (h : NdOk w d) (hi : d.at_ p) (hk : Seen p w w') : NdOk w' d := { h with num := ⟨qka h.num.s1 hi.i1 hk, qka h.num.s2 hi.i2 hk, qka h.num.s3 hi.i3 hk, qka h.num.s4 hi.i4 hk⟩, raw := ztg h.raw hi.i5 hk }
theorem Rt.seen {p : Nat → Prop} {w w' : World} {lo : Option Addr} {ts : List Dt} (h : Rt w lo ts) (hi : In p lo ts) (hk : Seen p w w') : Rt w' lo ts := fun hne => by
  obtain ⟨b, o, e, h2⟩ := h hne
  refine ⟨b, o, e, fun i t hi' => ?_⟩
  have h4 : ∀ j v, t.cells[j]? = some v → w'.cell? ⟨b, o + i * 11 + j, none⟩ = some v := fun j v hj => hk _ _ _ (hi hne _ _ e) ((h2 i t hi').2 j v hj)
  exact ⟨cell_lt (h4 0 _ rfl), h4⟩
theorem Dt.seen {p : Nat → Prop} {w w' : World} (hk : Seen p w w') : ∀ t : Dt, t.rd w → t.at_ p → t.rd w' :=
  Dt.indT fun d ts ih h hi => by
    rw [Dt.rd_iff] at h ⊢
    rw [Dt.at_iff] at hi
    exact ⟨h.1.seen hi.1 hk, h.2.1, h.2.2.1, h.2.2.2.1.seen hi.2.1 hk, fun t ht => ih t ht (h.2.2.2.2 t ht) (hi.2.2 t ht)⟩
/-- A datum stands wherever these pieces stand. -/
def Lives (T : List Ck) (t : Dt) : Prop := ∀ w0 w, Mg w0 w T → t.rd w
theorem Lives.sub {T T' : List Ck} {t : Dt} (h : Lives T t) (hs : T.Sublist T') : Lives T' t := fun w0 w hM => h w0 w (hM.sub hs)
theorem Lives.cons {T : List Ck} {t : Dt} (h : Lives T t) (c : Ck) : Lives (c :: T) t := h.sub (List.sublist_cons_self _ _)
theorem Mg.dropn {w0 w : World} {L : List Ck} (h : Mg w0 w L) (n : Nat) : Mg w0 w (L.drop n) := h.sub (List.drop_sublist _ _)
/-- So many blocks, from one on, as pieces. -/
def froz (w : World) : Nat → Nat → List Ck
  | _, 0 => []
  | k, n + 1 => match w.heap[k]? with
    | some o => .obj k o :: froz w (k + 1) n
    | none => froz w (k + 1) n
theorem ku {w : World} : ∀ {n k : Nat} {c : Ck}, c ∈ froz w k n → ∃ b o, c = .obj b o ∧ k ≤ b ∧ w.heap[b]? = some o
  | 0, k, c, h => by cases h
  | n + 1, k, c, h => by
    rw [froz] at h
    cases e : w.heap[k]? with
    | none =>
      rw [e] at h
      obtain ⟨b, o, h1, h2, h3⟩ := ku (n := n) h
      exact ⟨b, o, h1, by omega, h3⟩
    | some o =>
      rw [e] at h
      rcases List.mem_cons.1 h with h | h
      · exact ⟨k, o, h, Nat.le_refl _, e⟩
      · obtain ⟨b, o, h1, h2, h3⟩ := ku (n := n) h
        exact ⟨b, o, h1, by omega, h3⟩
theorem qma {w : World} : ∀ {n k b : Nat} {o : Obj}, k ≤ b → b < k + n → w.heap[b]? = some o → Ck.obj b o ∈ froz w k n
  | 0, k, b, o, h1, h2, _ => by omega
  | n + 1, k, b, o, h1, h2, h => by
    rw [froz]
    by_cases e : k = b
    · subst e; rw [h]; exact List.mem_cons_self
    · have ih := qma (n := n) (k := k + 1) (b := b) (o := o) (by omega) (by omega) h
      cases w.heap[k]? with
      | none => exact ih
      | some o' => exact List.mem_cons_of_mem _ ih
theorem qcg {w : World} : ∀ (n k : Nat), (froz w k n).Pairwise Ap
  | 0, k => .nil
  | n + 1, k => by
    rw [froz]
    cases w.heap[k]? with
    | none => exact qcg n (k + 1)
    | some o =>
      refine List.pairwise_cons.2 ⟨fun c hc => ?_, qcg n (k + 1)⟩
      obtain ⟨b, o', rfl, h2, _⟩ := ku hc
      show k ≠ b
      omega
theorem qxh {w : World} {n k : Nat} : jd (froz w k n) := fun c hc b bs e => by
  obtain ⟨b', o', h, _⟩ := ku hc
  rw [h] at e; cases e
/-- What a call has made. -/
def made (w w' : World) : List Ck := froz w' w.heap.size (w'.heap.size - w.heap.size)
/-- What a call has made kb as it is. -/
theorem Mg.freeze {w0 w w' : World} {L : List Ck} (hM : Mg w0 w L) (hnb : jd L) (hb : Below w.heap.size w w') : Mg w0 w' (made w w' ++ L) := by
  have h2 := hM.call hb
  refine ⟨h2.bel, fun c hc => ?_, List.pairwise_append.2 ⟨qcg _ _, h2.dis, fun c hc d hd => ?_⟩⟩
  · rcases List.mem_append.1 hc with h | h
    · obtain ⟨b, o, rfl, h3, h4⟩ := ku h
      exact ⟨Nat.le_trans hM.bel.size h3, h4⟩
    · exact h2.all c h
  · obtain ⟨b, o, rfl, h3, h4⟩ := ku hc
    have hl := Ck.lt (hM.all d hd)
    cases d with
    | obj g' o' => intro e; subst e; have := (hl b rfl).2; omega
    | row e' sz' v' n' xs' => intro e; have := (hl b e).2; omega
    | bld b' bs' => exact absurd rfl (hnb _ hd b' bs')
theorem qmb {w w' : World} {t : Dt} (h : t.rd w') (ha : t.at_ (w.heap.size ≤ ·)) : Lives (made w w') t := fun w1 w2 hM => by
  have hlt := Dt.at_lt t h
  refine Dt.seen (p := fun b => w.heap.size ≤ b) (fun b i v hb hc => ?_) t h ha
  have h1 := cell_lt hc
  have h2 : w'.heap[b]? = some (w'.heap[b]'h1) := Array.getElem?_eq_getElem h1
  have h3 := (hM.all _ (qma (w := w') (k := w.heap.size) (n := w'.heap.size - w.heap.size) hb (by show b < _; simp only at *; omega) h2)).2
  unfold World.cell? at hc ⊢
  simp only at hc ⊢
  rw [h3, ← h2]; exact hc
theorem qxi {w w' : World} : jd (made w w') := qxh
theorem jz {L M : List Ck} (h : jd L) (k : jd M) : jd (L ++ M) := fun c hc => (List.mem_append.1 hc).elim (h c) (k c)
/-- .. between two parts of what there was. -/
theorem Mg.freezeAt {w0 w w' : World} {L : List Ck} (hM : Mg w0 w L) (n : Nat) (hnb : jd L) (hb : Below w.heap.size w w') : Mg w0 w' (L.take n ++ (made w w' ++ L.drop n)) := by
  refine (hM.freeze hnb hb).perm ?_
  rw [← List.append_assoc]
  refine List.Perm.trans ?_ (List.Perm.append_right _ List.perm_append_comm)
  rw [List.append_assoc, List.take_append_drop]
/-! ### Rows of structs -/
section
variable {α : Type} (f : α → List Value) (m : Nat)
def qt (xs : List α) : List Value := xs.flatMap f
variable {f m} (hf : ∀ x, (f x).length = m)
include hf in
theorem yt : ∀ xs : List α, (qt f xs).length = xs.length * m
  | [] => by simp [qt]
  | x :: xs => by
    have := yt xs
    unfold qt at this ⊢
    rw [List.flatMap_cons, List.length_append, hf, this, List.length_cons, Nat.add_mul, Nat.one_mul, Nat.add_comm]
theorem jx (a b : List α) : qt f (a ++ b) = qt f a ++ qt f b := List.flatMap_append
theorem znj (x : α) : qt f [x] = f x := by unfold qt; rw [List.flatMap_singleton]
include hf in
theorem qhh : ∀ (xs : List α) (i : Nat), (qt f xs).drop (i * m) = qt f (xs.drop i)
  | xs, 0 => by rw [Nat.zero_mul]; rfl
  | [], i + 1 => by simp [qt]
  | x :: xs, i + 1 => by
    have := qhh xs i
    rw [List.drop_succ_cons, ← this]
    unfold qt
    rw [List.flatMap_cons, show (i + 1) * m = (f x).length + i * m by rw [hf, Nat.add_mul, Nat.one_mul, Nat.add_comm], List.drop_append, List.drop_of_length_le (by omega), Nat.add_sub_cancel_left, List.nil_append]
include hf in
theorem qrg : ∀ (xs : List α) (i : Nat), (qt f xs).take (i * m) = qt f (xs.take i)
  | xs, 0 => by rw [Nat.zero_mul]; rfl
  | [], i + 1 => by simp [qt]
  | x :: xs, i + 1 => by
    have := qrg xs i
    rw [List.take_succ_cons]
    unfold qt at this ⊢
    rw [List.flatMap_cons, List.flatMap_cons, show (i + 1) * m = (f x).length + i * m by rw [hf, Nat.add_mul, Nat.one_mul, Nat.add_comm], List.take_length_add_append, this]
include hf in
theorem qkb {xs : List α} {i : Nat} {x : α} (h : xs[i]? = some x) : ((qt f xs).drop (i * m)).take m = f x := by
  obtain ⟨hi, rfl⟩ := List.getElem?_eq_some_iff.1 h
  rw [qhh hf, List.drop_eq_getElem_cons hi]
  unfold qt
  rw [List.flatMap_cons, show m = (f xs[i]).length from (hf _).symm, List.take_left]
include hf in
theorem qxj {xs : List α} {i : Nat} (x : α) (h : i < xs.length) : over (qt f xs) (i * m) (f x) = qt f (xs.set i x) := by
  rw [qtc (by rw [yt hf, hf]; have := Nat.mul_le_mul_right m (show i + 1 ≤ xs.length by omega); rw [Nat.add_mul, Nat.one_mul] at this; exact this), hf, show i * m + m = (i + 1) * m by rw [Nat.add_mul, Nat.one_mul], qhh hf, qrg hf, List.set_eq_take_append_cons_drop, if_pos h, jx]
  rw [show x :: xs.drop (i + 1) = [x] ++ xs.drop (i + 1) from rfl, jx, znj, List.append_assoc]
end
end Go.Proofs.YtokgmpjblnpjmaaGreatDoor.G
namespace Go.Proofs.YtokgmpjblnpjmaaGreatDoor.G.E
open Go.RowKit
set_option linter.unusedVariables false
set_option linter.unusedSimpArgs false
theorem un {w : World} {b o : Nat} {v : Value} (h : w.cell? ⟨b, o, none⟩ = some v) : b < w.heap.size := by
  apply Classical.byContradiction
  intro k
  simp [World.cell?, Array.getElem?_eq_none (Nat.le_of_not_lt k)] at h
theorem qmc {α : Type} : ∀ (L : List α) (k : Nat) (c : α), L[k]? = some c → L.Perm (c :: L.eraseIdx k)
  | [], _, _, h => by simp at h
  | a :: t, 0, c, h => by cases h; exact .refl _
  | a :: t, k + 1, c, h => ((qmc t k c (by simpa using h)).cons a).trans (.swap c a _)
/-- A piece is put first. -/
theorem _root_.Go.Proofs.YtokgmpjblnpjmaaGreatDoor.G.Mg.bring {w0 w : World} {L L' : List Ck} (h : Mg w0 w L) (k : Nat) {c : Ck} (hk : L[k]? = some c) (hL : c :: L.eraseIdx k = L') : Mg w0 w L' := by
  subst hL
  exact h.perm (qmc L k c hk)
section
variable {P : Program} {w0 w : World} {L : List Ck} {l : List (Nat × Value)} {dst : Option Tmp} {ty : TypeId} {pos : String} {after : Array Edge} {guard : Option (Nat × Bool)} {v : Value}
/-- A slice reads as these cells, so many elements. -/
def Rc (w : World) (so : Option Addr) (cs : List Value) : Prop := cs ≠ [] → ∃ b off, so = some ⟨b, off, none⟩ ∧ ∀ p u, cs[p]? = some u → w.cell? ⟨b, off + p, none⟩ = some u
theorem Rc.below {w w' : World} {so : Option Addr} {cs : List Value} (h : Rc w so cs) (hb : Below w.heap.size w w') : Rc w' so cs := fun hne => by
  obtain ⟨b, off, e, h2⟩ := h hne
  exact ⟨b, off, e, fun p u hp => (hb.cell (un (h2 p u hp))).trans (h2 p u hp)⟩
theorem rc_own {w : World} {B : Nat} {e : TypeId} {sz n cap : Nat} {so : Option Addr} {xs : List Value} (h : w.ownsRow B e sz (.slice so n cap) n xs) : Rc w so xs := fun hne => by
  rcases h.2 with ⟨e1, e2⟩ | ⟨g, cap', cur, e1, hg, hc, h1, h2, h3, h4⟩
  · subst e2; exact absurd (List.length_eq_zero_iff.1 (by rw [h.1]; simp)) hne
  · cases e1
    exact ⟨g, 0, rfl, fun p u hp => by rw [Nat.zero_add, World.ownsRow.cellAt h p (by have := (List.getElem?_eq_some_iff.1 hp).1; rw [h.1] at this; exact this)]; exact hp⟩
theorem xb {e t : TypeId} {sz by_ : Nat} {z : Value} {x y : Operand} (ht : P.underlying t = some (.slice e)) (hinfo : (P.info? e).map (fun i => (i.zero, i.size, i.bytes)) = some (some z, sz, by_)) (hzc : z.cells.size = sz) (hsz : Nat.ble 1 sz = true) (hby : Nat.ble 1 by_ = true) (hM : Mg w0 w L) (k : Nat) {q : Nat} {xs : List Value} (hk : L[k]? = some (.row e sz v q xs)) (hx : ev l x = some v) {so : Option Addr} {m c2 : Nat} {news : List Value} (hy : ev l y = some (.slice so m c2)) (hnl : news.length = m * sz) (hr : Rc w so news) (h1 : ∀ u ∈ news, u.oneCell' = true) (hlen : (q + m) * by_ ≤ 140737488355328) :
    ∃ v' w', Does P l ⟨dst, .call ⟨.builtin .append, #[x, y], #[t, t]⟩, ty, pos, after, guard⟩ w v' w' ∧ Mg w0 w' (L.set k (.row e sz v' (q + m) (xs ++ news))) := by
  obtain ⟨i, hi, hzz⟩ := Option.map_eq_some_iff.1 hinfo
  simp only [Prod.mk.injEq] at hzz
  obtain ⟨hz, hs, hb⟩ := hzz
  have hrow := hM.has k hk
  by_cases hm : m = 0
  · subst hm
    have h0 : news = [] := List.length_eq_zero_iff.1 (by rw [hnl]; simp)
    subst h0
    obtain ⟨so1, cap, hle, rfl⟩ : ∃ so1 cap, q ≤ cap ∧ v = .slice so1 q cap := by
      rcases hrow.2 with ⟨rfl, rfl⟩ | ⟨g, cap, cur, rfl, _, _, h, _⟩
      · exact ⟨none, 0, Nat.le_refl _, rfl⟩
      · exact ⟨_, cap, h, rfl⟩
    have h2 : (sizeOf e).run P w = .ok sz w := by simp [sizeOf, typeInfo, hi, hs]
    refine ⟨.slice so1 q cap, w, ?_, ?_⟩
    · intro ρ h
      cases so <;> cases so1 <;> simp [execOp, resolve, invoke, builtin, h x _ hx, h y _ hy, Builtin.append_, run_underlying ht, h2, Builtin.lenOf, Builtin.firstCells, loadCells, loadCellsFrom, storeCells, hle]
    · rw [show L.set k (.row e sz (.slice so1 q cap) (q + 0) (xs ++ [])) = L from by rw [List.append_nil]; exact qlf hk]
      exact hM
  · have hne : news ≠ [] := fun e0 => by
      rw [e0] at hnl
      have h5 := Nat.le_of_ble_eq_true hsz
      have : 0 < m * sz := Nat.mul_pos (by omega) h5
      simp at hnl; omega
    obtain ⟨b, off, rfl, hcell⟩ := hr hne
    have hq : q + m ≤ (q + m) * by_ := Nat.le_mul_of_pos_right _ (Nat.le_of_ble_eq_true hby)
    obtain ⟨g, cap, w', hr, hown, hgr, hat, hlt⟩ := run_append_lies (P := P) w t ty w0.heap.size e i z sz by_ ht hi hz hs hb hzc (Nat.le_of_ble_eq_true hsz) v q xs hrow ⟨b, off, none⟩ m c2 news hnl (fun p u hp => by
        rw [xi]
        exact hcell p u hp) h1 (by omega) (by unfold maxLen; omega) hlen hM.bel.size w.heap.size rfl
    refine ⟨.slice (some ⟨g, 0, none⟩) (q + m) cap, w', fun ρ h => ?_, hM.turn k hk (by simp) hgr hown (fun d hd ha => ?_)⟩
    · simp [execOp, resolve, invoke, builtin, h x _ hx, h y _ hy, hr]
    · have hl := Ck.lt (hM.all d hd)
      have key : ∀ z, d.at_ = some z → v.ownBlock ≠ some z → g ≠ z := fun z hz hne e => by
        subst e
        rcases hat with h | h
        · exact hne h
        · have := (hl g hz).2; omega
      cases d with
      | obj g' o' => exact fun e => key g' rfl ha (by simpa [Value.ownBlock] using e)
      | row e' sz' v' n' xs' =>
        right
        intro e
        have e2 : v'.ownBlock = some g := e.symm
        rcases ha with ha | ha
        · exact key g e2 (by rw [ha]; simp) rfl
        · exact key g e2 (fun h => ha (h.trans e2.symm)) rfl
      | bld b' bs' => exact ⟨ha.1, fun e => key b' rfl ha.2 (by simpa [Value.ownBlock] using e)⟩

/-- What stands in a row that was there. -/
theorem m_loadX (hM : Mg w0 w L) {b o : Nat} (hc : w0.cell? ⟨b, o, none⟩ = some v) {t : TypeId} (ht : Is1 P t) {x : Operand} (hx : ev l x = some (.pointer (some ⟨b, o, none⟩))) : Does P l ⟨dst, .load t x, ty, pos, after, guard⟩ w v w :=
  jn hx (jy ht ((hM.bel.cell (un hc)).trans hc))
end
/-- Texts and truth values as cells. -/
def strC (l : List ByteArray) : List Value := l.map Value.string
def boolC (l : List Bool) : List Value := l.map Value.bool
theorem zxj (l : List ByteArray) : (strC l).length = l.length * 1 := by simp [strC]
theorem boolC_n (l : List Bool) : (boolC l).length = l.length * 1 := by simp [boolC]
theorem zoa (l : List ByteArray) : ∀ u ∈ strC l, u.oneCell' = true := by
  intro u hu
  obtain ⟨x, _, rfl⟩ := List.mem_map.1 hu
  rfl
theorem boolC_one (l : List Bool) : ∀ u ∈ boolC l, u.oneCell' = true := by
  intro u hu
  obtain ⟨x, _, rfl⟩ := List.mem_map.1 hu
  rfl
abbrev Rs (w : World) (so : Option Addr) (l : List ByteArray) : Prop := Rc w so (strC l)
abbrev Rl (w : World) (so : Option Addr) (l : List Bool) : Prop := Rc w so (boolC l)
theorem Rs.at_ {w : World} {so : Option Addr} {l : List ByteArray} {i : Nat} (h : Rs w so l) (hi : i < l.length) : ∃ b off s, so = some ⟨b, off, none⟩ ∧ w.cell? ⟨b, off + i, none⟩ = some (.string s) ∧ l[i]? = some s := by
  obtain ⟨b, off, e, h2⟩ := h (fun k => by have := congrArg List.length k; simp [strC] at this; rw [this] at hi; exact absurd hi (Nat.not_lt_zero _))
  exact ⟨b, off, l[i], e, h2 i _ (by simp [strC, hi]), by simp [hi]⟩
theorem Rl.at_ {w : World} {so : Option Addr} {l : List Bool} {i : Nat} (h : Rl w so l) (hi : i < l.length) : ∃ b off s, so = some ⟨b, off, none⟩ ∧ w.cell? ⟨b, off + i, none⟩ = some (.bool s) ∧ l[i]? = some s := by
  obtain ⟨b, off, e, h2⟩ := h (fun k => by have := congrArg List.length k; simp [boolC] at this; rw [this] at hi; exact absurd hi (Nat.not_lt_zero _))
  exact ⟨b, off, l[i], e, h2 i _ (by simp [boolC, hi]), by simp [hi]⟩
theorem rs_nil {w : World} {so : Option Addr} : Rs w so [] := fun k => absurd rfl k
theorem rl_nil {w : World} {so : Option Addr} : Rl w so [] := fun k => absurd rfl k
/-- As the library's contracts say it. -/
theorem Rs.cells {w : World} {so : Option Addr} {l : List ByteArray} (h : Rs w so l) (hne : l ≠ []) : ∃ b off, so = some ⟨b, off, none⟩ ∧ ∀ j, j < l.length → w.cell? ⟨b, off + j, none⟩ = some (.string (l.getD j ByteArray.empty)) := by
  obtain ⟨b, off, e, h2⟩ := h (fun k => hne (by cases l with | nil => rfl | cons a t => cases k))
  exact ⟨b, off, e, fun j hj => h2 j _ (by simp [strC, hj])⟩
theorem jg {w : World} {B : Nat} {e : TypeId} {sz n : Nat} {v : Value} {xs : List Value} (h : w.ownsRow B e sz v n xs) : ∃ so ca, v = .slice so n ca := by
  rcases h.2 with ⟨rfl, rfl⟩ | ⟨g, cap, cur, rfl, _⟩
  · exact ⟨none, 0, rfl⟩
  · exact ⟨_, cap, rfl⟩
theorem qli {w : World} {B : Nat} {e : TypeId} {sz n : Nat} {v : Value} {xs : List Value} (h : w.ownsRow B e sz v n xs) (hn : n ≠ 0) : ∃ g ca, v = .slice (some ⟨g, 0, none⟩) n ca := by
  rcases h.2 with ⟨rfl, rfl⟩ | ⟨g, cap, cur, rfl, _⟩
  · exact absurd rfl hn
  · exact ⟨g, cap, rfl⟩
theorem qya {xs : List Value} {i : Nat} {v : Value} (h : i < xs.length) : over xs i [v] = xs.set i v := by simp [over]
/-- A question that is asked of texts. -/
structure AskS (P : Program) (f : FuncId) (cs : List Value) (w0 : World) (p : ByteArray → Bool) : Prop where
  inv : ∀ (us : Array Value) (w : World), (callFunc f us).run P w = .ok (.enter f us) w
  run : ∀ (s : ByteArray) (w : World), Below w0.heap.size w0 w → Calls P f ([Value.string s] ++ cs).toArray w fun e w' => e = .returned (.bool (p s)) ∧ Below w.heap.size w w'
theorem AskS.below {P : Program} {f : FuncId} {cs : List Value} {w0 w1 : World} {p : ByteArray → Bool} (h : AskS P f cs w0 p) (hb : Below w0.heap.size w0 w1) : AskS P f cs w1 p := ⟨h.inv, fun s w k => h.run s w (hb.trans (k.mono hb.size))⟩
open Go.Lib Go.Sort Go.Proofs
/-- A text stands twice. -/
def twS (l : List ByteArray) : Bool := !decide l.Nodup
def jaa (l : List ByteArray) (bs : List Bool) : List ByteArray := ((l.zip bs).filter (·.2)).map (·.1)
theorem zob {α : Type} {l : List α} (hn : l.Nodup) {i j : Nat} {a : α} (h1 : l[i]? = some a) (h2 : l[j]? = some a) : i = j := by
  obtain ⟨k1, k2⟩ := List.getElem?_eq_some_iff.1 h1
  obtain ⟨k3, k4⟩ := List.getElem?_eq_some_iff.1 h2
  unfold List.Nodup at hn
  rw [List.pairwise_iff_getElem] at hn
  rcases Nat.lt_trichotomy i j with h | h | h
  · exact absurd (k2.trans k4.symm) (hn i j k1 k3 h)
  · exact h
  · exact absurd (k4.trans k2.symm) (hn j i k3 k1 h)
theorem qyb {α : Type} {l : List α} (h : ∀ (i j : Nat) (a : α), i < j → l[i]? = some a → l[j]? = some a → False) : l.Nodup := by
  unfold List.Nodup
  rw [List.pairwise_iff_getElem]
  intro i j hi hj hij e
  exact h i j l[i] hij (List.getElem?_eq_getElem hi) (by rw [List.getElem?_eq_getElem hj, e])
theorem qtj {l : List ByteArray} {j : Nat} {s : ByteArray} (h : l[j]? = some s) : l.getD j ByteArray.empty = s := by rw [List.getD_eq_getElem?_getD, h]; rfl
theorem qjj {l : List ByteArray} {i : Nat} {s : ByteArray} (h : l[i]? = some s) (hne : ∀ j u, j < i → l[j]? = some u → u ≠ s) : idxOfS l s = ((i : Nat) : Int) := by
  have hi := (List.getElem?_eq_some_iff.1 h).1
  have := idxFromS_hit s l i 0 hi (qtj h) (fun j hj => by
    have h2 : l[j]? = some l[j] := List.getElem?_eq_getElem (by omega)
    rw [qtj h2]
    exact hne j _ hj h2)
  rw [Nat.zero_add] at this
  exact this
theorem qfi {l : List ByteArray} {s : ByteArray} (hne : ∀ j u, j < l.length → l[j]? = some u → u ≠ s) : idxOfS l s = -1 :=
  idxFromS_miss s l 0 (fun j hj => by
    have h2 : l[j]? = some l[j] := List.getElem?_eq_getElem hj
    rw [qtj h2]
    exact hne j _ hj h2)
theorem qrh (l : List ByteArray) (s : ByteArray) : (∃ i, l[i]? = some s ∧ (∀ j u, j < i → l[j]? = some u → u ≠ s) ∧ idxOfS l s = ((i : Nat) : Int)) ∨ (s ∉ l ∧ idxOfS l s = -1) := by
  by_cases hm : s ∈ l
  · left
    obtain ⟨i, hf⟩ : ∃ i, l.findIdx? (fun u => decide (u = s)) = some i := by
      cases h : l.findIdx? (fun u => decide (u = s)) with
      | none => rw [List.findIdx?_eq_none_iff] at h; have := h s hm; simp at this
      | some i => exact ⟨i, rfl⟩
    obtain ⟨h1, h2, h3⟩ := List.findIdx?_eq_some_iff_getElem.1 hf
    have e1 : l[i]? = some s := by rw [List.getElem?_eq_getElem h1]; simpa using h2
    have e2 : ∀ j u, j < i → l[j]? = some u → u ≠ s := fun j u hj hu => by
      have h4 := h3 j hj
      obtain ⟨h5, h6⟩ := List.getElem?_eq_some_iff.1 hu
      rw [h6] at h4
      simpa using h4
    exact ⟨i, e1, e2, qjj e1 e2⟩
  · exact .inr ⟨hm, qfi (fun j u hj hu e => hm (by rw [← e]; exact List.mem_of_getElem? hu))⟩
theorem mem_map (l : List ByteArray) (f : ByteArray → Bool) : jaa l (l.map f) = l.filter f := by
  unfold jaa
  induction l with
  | nil => rfl
  | cons a t ih =>
    rw [List.map_cons, List.zip_cons_cons, List.filter_cons, List.filter_cons]
    by_cases h : f a = true
    · rw [if_pos h, if_pos h, List.map_cons, ih]
    · rw [if_neg h, if_neg h, ih]
/-! ### Twice -/
theorem zya {l : List ByteArray} {i : Nat} {s : ByteArray} (h : l[i]? = some s) (hx : idxOfS l s < ((i : Nat) : Int)) : twS l = true := by
  unfold twS
  rw [Bool.not_eq_true', decide_eq_false_iff_not]
  intro hn
  rcases qrh l s with ⟨j, h1, _, h3⟩ | ⟨h2, _⟩
  · have := zob hn h h1
    omega
  · exact h2 (List.mem_of_getElem? h)
theorem zth {l : List ByteArray} (h : ∀ i s, l[i]? = some s → ((i : Nat) : Int) ≤ idxOfS l s) : twS l = false := by
  unfold twS
  rw [Bool.not_eq_false', decide_eq_true_eq]
  refine qyb (fun i j a hij h1 h2 => ?_)
  have h3 := h j a h2
  rcases qrh l a with ⟨k, k1, k2, k3⟩ | ⟨_, k3⟩
  · have : i < k := by omega
    exact k2 i a this h1 rfl
  · omega
theorem zbh {α : Type} [Inhabited α] [DecidableEq α] (zs : List α) : (compact zs).length < zs.length ↔ ∃ i a, zs[i]? = some a ∧ zs[i + 1]? = some a := by
  have e1 : (compact zs).length = ((List.range zs.length).filter (keeps zs.toArray)).length := by simp [compact, compactUpTo]
  rw [e1]
  constructor
  · intro h
    apply Classical.byContradiction
    intro hno
    have hall : ∀ j ∈ List.range zs.length, keeps zs.toArray j = true := by
      intro j hj
      have hj := List.mem_range.1 hj
      unfold keeps
      rw [decide_eq_true_eq]
      by_cases h0 : j = 0
      · exact .inl h0
      · right
        intro e
        refine hno ⟨j - 1, zs[j - 1], List.getElem?_eq_getElem (by omega), ?_⟩
        rw [show j - 1 + 1 = j by omega, List.getElem?_eq_getElem hj]
        have k1 : j < zs.toArray.size := by simpa using hj
        have k2 : j - 1 < zs.toArray.size := by simp; omega
        rw [getElem!_pos zs.toArray j k1, getElem!_pos zs.toArray (j - 1) k2] at e
        simpa using e
    rw [List.filter_eq_self.2 hall, List.length_range] at h
    omega
  · rintro ⟨i, a, h1, h2⟩
    obtain ⟨k1, k2⟩ := List.getElem?_eq_some_iff.1 h1
    obtain ⟨k3, k4⟩ := List.getElem?_eq_some_iff.1 h2
    have h5 : keeps zs.toArray (i + 1) = false := by
      refine keeps_neg (by omega) ?_
      have q1 : i + 1 < zs.toArray.size := by simpa using k3
      have q2 : i + 1 - 1 < zs.toArray.size := by simp; omega
      rw [getElem!_pos zs.toArray (i + 1) q1, getElem!_pos zs.toArray (i + 1 - 1) q2]
      simp [k2, k4]
    have h6 : ((List.range zs.length).filter (keeps zs.toArray)).length < (List.range zs.length).length := by
      rw [← List.countP_eq_length_filter]
      rcases Nat.lt_or_ge (List.countP (keeps zs.toArray) (List.range zs.length)) (List.range zs.length).length with h | h
      · exact h
      · have := List.countP_eq_length.1 (Nat.le_antisymm List.countP_le_length h) (i + 1) (List.mem_range.2 k3)
        rw [h5] at this
        cases this
    simpa using h6
/-- Texts as lists of bytes. -/
def byL (l : List ByteArray) : List (List UInt8) := l.map fun b => b.data.toList
theorem zti (l : List ByteArray) : (byL l).map encStr = strC l := by
  unfold byL strC
  rw [List.map_map]
  rfl
def qda (zs : List (List UInt8)) : List (List UInt8) := zs.mergeSort fun x y => decide (x ≤ y)
theorem zbi {zs : List (List UInt8)} (hp : zs.Pairwise (fun x y => x ≤ y)) : (¬ zs.Nodup) ↔ ∃ i a, zs[i]? = some a ∧ zs[i + 1]? = some a := by
  constructor
  · intro h
    apply Classical.byContradiction
    intro hno
    refine h (qyb (fun i j a hij h1 h2 => ?_))
    obtain ⟨k1, k2⟩ := List.getElem?_eq_some_iff.1 h1
    obtain ⟨k3, k4⟩ := List.getElem?_eq_some_iff.1 h2
    have hpg := List.pairwise_iff_getElem.1 hp
    have q1 : zs[i] ≤ zs[i + 1] := hpg i (i + 1) k1 (by omega) (by omega)
    have q2 : zs[i + 1] ≤ zs[j] := by
      by_cases e : i + 1 = j
      · subst e; exact List.le_refl _
      · exact hpg (i + 1) j (by omega) k3 (by omega)
    have q3 : zs[i + 1] = zs[i] := List.le_antisymm (by rw [k2, ← k4]; exact q2) q1
    exact hno ⟨i, a, h1, by rw [List.getElem?_eq_getElem (by omega), q3, k2]⟩
  · rintro ⟨i, a, h1, h2⟩ hn
    have := zob hn h1 h2
    omega
theorem zjc (l : List ByteArray) : (byL l).Nodup ↔ l.Nodup := by
  unfold byL List.Nodup
  rw [List.pairwise_map]
  refine ⟨fun h => h.imp fun hne e => hne (by rw [e]), fun h => h.imp fun hne e => hne ?_⟩
  exact ByteArray.ext (Array.toList_inj.mp e)
/-- A row that is sorted and made compact is shorter just if a text stands twice. -/
theorem qua (l : List ByteArray) : decide ((compact (qda (byL l))).length < l.length) = twS l := by
  have hperm : (qda (byL l)).Perm (byL l) := List.mergeSort_perm _ _
  have hlen : (qda (byL l)).length = l.length := by rw [hperm.length_eq]; simp [byL]
  have hsort : (qda (byL l)).Pairwise (fun x y => x ≤ y) := by
    have := List.pairwise_mergeSort (le := fun x y : List UInt8 => decide (x ≤ y)) (fun a b c h1 h2 => by
      simp only [decide_eq_true_eq] at *
      exact List.le_trans h1 h2) (fun a b => by
      simp only [Bool.or_eq_true, decide_eq_true_eq]
      exact List.le_total a b) (byL l)
    exact this.imp fun h => by simpa using h
  have key : (compact (qda (byL l))).length < l.length ↔ ¬ l.Nodup := by
    rw [← hlen, zbh, ← zbi hsort, ← zjc, hperm.nodup_iff]
  unfold twS
  by_cases h : l.Nodup
  · rw [decide_eq_true h, decide_eq_false (fun k => key.1 k h)]
    rfl
  · rw [decide_eq_false h, decide_eq_true (key.2 h)]
    rfl
end Go.Proofs.YtokgmpjblnpjmaaGreatDoor.G.E
namespace Go.Proofs.YtokgmpjblnpjmaaGreatDoor.G
open Go.RowKit
set_option linter.unusedVariables false
set_option linter.unusedSimpArgs false

/-- A type with the slices that hold its fields. -/
structure Ty where
  nm : ByteArray
  par : Int
  fo : Option Addr
  fc : Nat
  fs : List ByteArray
  mo : Option Addr
  mc : Nat
  ms : List Bool
  sl : Bool
  op : Bool
  ui : ByteArray
def Ty.c (t : Ty) : List Value := [.string t.nm, .int .i64 t.par, .slice t.fo t.fs.length t.fc, .slice t.mo t.ms.length t.mc, .bool t.sl, .bool t.op, .string t.ui]
/-- What a type is, wherever it lies. -/
structure TK where
  nm : ByteArray
  par : Int
  fs : List ByteArray
  ms : List Bool
  sl : Bool
  op : Bool
  ui : ByteArray
def Ty.k (t : Ty) : TK := ⟨t.nm, t.par, t.fs, t.ms, t.sl, t.op, t.ui⟩
/-- A record with the slice that holds its values. -/
structure Rk where
  kd : Nat
  vo : Option Addr
  vc : Nat
  vs : List Dt
def Rk.c (r : Rk) : List Value := [.int .i64 ((r.kd : Nat) : Int), .slice r.vo r.vs.length r.vc]
def Rk.k (r : Rk) : Nat × List Tr := (r.kd, r.vs.map Dt.tr)
/-- A store's two slices. -/
def sC (tz : Option Addr) (tc : Nat) (ts : List Ty) (ro : Option Addr) (rc : Nat) (rs : List Rk) : List Value := [.slice tz ts.length tc, .slice ro rs.length rc]
theorem qmd (t : Ty) : t.c.length = 7 := rfl
theorem uz (r : Rk) : r.c.length = 2 := rfl
theorem qme (ts : List Ty) : ∀ u ∈ qt Ty.c ts, u.oneCell' = true := by
  intro u hu
  unfold qt at hu
  obtain ⟨t, _, ht⟩ := List.mem_flatMap.1 hu
  unfold Ty.c at ht
  simp only [List.mem_cons, List.not_mem_nil, or_false] at ht
  rcases ht with h | h | h | h | h | h | h <;> subst h <;> rfl
theorem qhi (rs : List Rk) : ∀ u ∈ qt Rk.c rs, u.oneCell' = true := by
  intro u hu
  unfold qt at hu
  obtain ⟨t, _, ht⟩ := List.mem_flatMap.1 hu
  unfold Rk.c at ht
  simp only [List.mem_cons, List.not_mem_nil, or_false] at ht
  rcases ht with h | h <;> subst h <;> rfl
theorem uq {α : Type} {f : α → List Value} {m : Nat} (hf : ∀ x, (f x).length = m) (hm : 0 < m) {w : World} {so : Option Addr} {xs : List α} (h : Rc w so (qt f xs)) {i : Nat} {x : α} (hi : xs[i]? = some x) : ∃ b o, so = some ⟨b, o, none⟩ ∧ Here w b (o + i * m) (f x) := by
  have hl := (List.getElem?_eq_some_iff.1 hi).1
  have hlen := yt hf xs
  obtain ⟨b, o, e, h2⟩ := h (fun k => by
    rw [k] at hlen
    have : 0 < xs.length * m := Nat.mul_pos (by omega) hm
    simp only [List.length_nil] at hlen; omega)
  refine ⟨b, o, e, ?_⟩
  have key : ∀ (j : Nat) v, (f x)[j]? = some v → w.cell? ⟨b, o + i * m + j, none⟩ = some v := fun j v hj => by
    have hjm : j < m := by have := (List.getElem?_eq_some_iff.1 hj).1; rw [hf] at this; exact this
    have h4 := qkb hf hi
    rw [← h4, List.getElem?_take, if_pos hjm, List.getElem?_drop] at hj
    rw [Nat.add_assoc]
    exact h2 _ v hj
  have h0 : (f x)[0]? = some ((f x)[0]'(by rw [hf]; exact hm)) := List.getElem?_eq_getElem _
  exact ⟨cell_lt (key 0 _ h0), key⟩
/-- Types and records as they are read. -/
structure TyR (w : World) (t : Ty) : Prop where
  f : E.Rs w t.fo t.fs
  m : E.Rl w t.mo t.ms
theorem TyR.below {w w' : World} {t : Ty} (h : TyR w t) (hb : Below w.heap.size w w') : TyR w' t := ⟨h.f.below hb, h.m.below hb⟩
structure RkR (w : World) (r : Rk) : Prop where
  v : Rt w r.vo r.vs
  d : ∀ t ∈ r.vs, t.rd w
theorem RkR.below {w w' : World} {r : Rk} (h : RkR w r) (hb : Below w.heap.size w w') : RkR w' r := ⟨h.v.below hb, fun t ht => Dt.keep hb _ (h.d t ht)⟩
structure TR (w : World) (so : Option Addr) (ts : List Ty) : Prop where
  row : Rc w so (qt Ty.c ts)
  own : ∀ t ∈ ts, TyR w t
structure RR (w : World) (so : Option Addr) (rs : List Rk) : Prop where
  row : Rc w so (qt Rk.c rs)
  own : ∀ r ∈ rs, RkR w r
theorem TR.below {w w' : World} {so : Option Addr} {ts : List Ty} (h : TR w so ts) (hb : Below w.heap.size w w') : TR w' so ts := ⟨h.row.below hb, fun t ht => (h.own t ht).below hb⟩
theorem RR.below {w w' : World} {so : Option Addr} {rs : List Rk} (h : RR w so rs) (hb : Below w.heap.size w w') : RR w' so rs := ⟨h.row.below hb, fun t ht => (h.own t ht).below hb⟩
theorem TR.at_ {w : World} {so : Option Addr} {ts : List Ty} (h : TR w so ts) {i : Nat} (hi : i < ts.length) : ∃ t b o, ts[i]? = some t ∧ t ∈ ts ∧ TyR w t ∧ so = some ⟨b, o, none⟩ ∧ Here w b (o + i * 7) t.c := by
  have e : ts[i]? = some ts[i] := List.getElem?_eq_getElem hi
  obtain ⟨b, o, h1, h2⟩ := uq qmd (by decide) h.row e
  exact ⟨ts[i], b, o, e, List.getElem_mem hi, h.own _ (List.getElem_mem hi), h1, h2⟩
theorem RR.at_ {w : World} {so : Option Addr} {rs : List Rk} (h : RR w so rs) {i : Nat} (hi : i < rs.length) : ∃ r b o, rs[i]? = some r ∧ r ∈ rs ∧ RkR w r ∧ so = some ⟨b, o, none⟩ ∧ Here w b (o + i * 2) r.c := by
  have e : rs[i]? = some rs[i] := List.getElem?_eq_getElem hi
  obtain ⟨b, o, h1, h2⟩ := uq uz (by decide) h.row e
  exact ⟨rs[i], b, o, e, List.getElem_mem hi, h.own _ (List.getElem_mem hi), h1, h2⟩
/-! Chains of parents -/
def chn (ps : List Int) : Nat → Int → List Int
  | 0, _ => []
  | n + 1, t => if t < 0 then [] else t :: chn ps n (ps.getD t.toNat (-1))
def chT (ps : List Int) (t : Int) : List Int := chn ps (t + 1).toNat t
/-- Each parent stands ahead of what comes from it. -/
def Wf (ps : List Int) : Prop := ∀ (i : Nat) (p : Int), ps[i]? = some p → -1 ≤ p ∧ p < ((i : Nat) : Int)
theorem Wf.at_ {ps : List Int} (h : Wf ps) {t : Int} (h0 : 0 ≤ t) : -1 ≤ ps.getD t.toNat (-1) ∧ ps.getD t.toNat (-1) < t := by
  rw [List.getD_eq_getElem?_getD]
  cases e : ps[t.toNat]? with
  | none => exact ⟨Int.le_refl _, by show -1 < t; omega⟩
  | some p =>
    have := h _ _ e
    show -1 ≤ p ∧ p < t
    omega
theorem qmf {ps : List Int} (h : Wf ps) : ∀ (n m : Nat) (t : Int), -1 ≤ t → (t + 1).toNat ≤ n → (t + 1).toNat ≤ m → chn ps n t = chn ps m t
  | 0, 0, _, _, _, _ => rfl
  | 0, m + 1, t, h0, h1, h2 => by rw [chn, chn, if_pos (by omega)]
  | n + 1, 0, t, h0, h1, h2 => by rw [chn, chn, if_pos (by omega)]
  | n + 1, m + 1, t, h0, h1, h2 => by
    rw [chn, chn]
    by_cases ht : t < 0
    · rw [if_pos ht, if_pos ht]
    · rw [if_neg ht, if_neg ht]
      have := h.at_ (t := t) (by omega)
      rw [qmf h n m _ this.1 (by omega) (by omega)]
theorem qub {ps : List Int} {t : Int} (h : t < 0) : chT ps t = [] := by
  unfold chT
  cases e : (t + 1).toNat with
  | zero => rfl
  | succ n => rw [chn, if_pos h]
theorem qmg {ps : List Int} (hw : Wf ps) {t : Int} (h : 0 ≤ t) : chT ps t = t :: chT ps (ps.getD t.toNat (-1)) := by
  have := hw.at_ (t := t) h
  unfold chT
  rw [show (t + 1).toNat = t.toNat + 1 by omega, chn, if_neg (by omega), qmf hw t.toNat (ps.getD t.toNat (-1) + 1).toNat _ this.1 (by omega) (Nat.le_refl _)]
theorem zgh (ps : List Int) : ∀ (n : Nat) (t : Int), (chn ps n t).length ≤ n
  | 0, t => Nat.le_refl _
  | n + 1, t => by
    rw [chn]
    split
    · simp
    · have := zgh ps n (ps.getD t.toNat (-1))
      simp only [List.length_cons]; omega
theorem ub (ps : List Int) (t : Int) : (chT ps t).length ≤ (t + 1).toNat := zgh ps _ t
theorem zgi {ps : List Int} (hw : Wf ps) : ∀ (n : Nat) (t : Int), ∀ x ∈ chn ps n t, 0 ≤ x ∧ x ≤ t
  | 0, t, x, h => by cases h
  | n + 1, t, x, h => by
    rw [chn] at h
    split at h
    · cases h
    · rename_i ht
      rcases List.mem_cons.1 h with rfl | h
      · omega
      · have := hw.at_ (t := t) (by omega)
        have := zgi hw n _ x h
        omega
theorem qaa {ps : List Int} (hw : Wf ps) {t x : Int} (h : x ∈ chT ps t) : 0 ≤ x ∧ x ≤ t := zgi hw _ _ x h
def prs (ks : List TK) : List Int := ks.map TK.par
def nfs (ks : List TK) (x : Int) : Nat := ((ks[x.toNat]?).map fun k => k.fs.length).getD 0
def zjd (ks : List TK) (x : Int) : Bool := ((ks[x.toNat]?).map fun k => k.op).getD false
def qmh (ks : List TK) (l : List Int) : Nat := (l.map (nfs ks)).sum
def cnt (ks : List TK) (t : Int) : Nat := qmh ks (chT (prs ks) t)
def opq (ks : List TK) (t : Int) : Bool := (chT (prs ks) t).any (zjd ks)
theorem qhj {ks : List TK} {l : List Int} {i : Nat} {x : Int} (h : l[i]? = some x) : qmh ks (l.take (i + 1)) = qmh ks (l.take i) + nfs ks x := by
  unfold qmh
  rw [List.take_add_one, h, Option.toList_some, List.map_append, List.sum_append]
  simp
theorem qia {ks : List TK} {x : Int} {k : TK} (h : ks[x.toNat]? = some k) : nfs ks x = k.fs.length := by unfold nfs; rw [h]; rfl
theorem quc {ks : List TK} {x : Int} {k : TK} (h : ks[x.toNat]? = some k) : zjd ks x = k.op := by unfold zjd; rw [h]; rfl
theorem qud {ks : List TK} {x : Int} {k : TK} (h : ks[x.toNat]? = some k) : (prs ks).getD x.toNat (-1) = k.par := by
  unfold prs
  rw [List.getD_eq_getElem?_getD, List.getElem?_map, h]; rfl
theorem que {ks : List TK} {t : Int} (h : t < 0) : cnt ks t = 0 := by unfold cnt; rw [qub h]; rfl
theorem qmi {ks : List TK} (hw : Wf (prs ks)) {t : Int} (h : 0 ≤ t) {k : TK} (hk : ks[t.toNat]? = some k) : cnt ks t = k.fs.length + cnt ks k.par := by
  unfold cnt
  rw [qmg hw h, qud hk, qmh, List.map_cons, List.sum_cons, qia hk]
  rfl
theorem zn {ts : List Ty} {i : Nat} {t : Ty} (h : ts[i]? = some t) : (ts.map Ty.k)[i]? = some t.k := by rw [List.getElem?_map, h]; rfl
theorem xg {rs : List Rk} {i : Nat} {r : Rk} (h : rs[i]? = some r) : (rs.map Rk.k)[i]? = some r.k := by rw [List.getElem?_map, h]; rfl
/-- What is so of all types and records of a store. -/
structure WS (ks : List TK) (rr : List (Nat × List Tr)) : Prop where
  wf : Wf (prs ks)
  ml : ∀ k ∈ ks, k.ms.length = k.fs.length
  fl : ∀ (i : Nat), i < ks.length → cnt ks ((i : Nat) : Int) ≤ 16
  kl : ks.length ≤ 4096
  rk : ∀ r ∈ rr, r.1 < ks.length ∧ r.2.length = cnt ks ((r.1 : Nat) : Int)
  rl : rr.length ≤ 20000
  bk : ∀ r ∈ rr, ∀ d ∈ r.2, d.bulk ≤ 1000000000
  zs : ∀ k ∈ ks, k.nm.size ≤ 281474976710656 ∧ k.ui.size ≤ 281474976710656 ∧ ∀ s ∈ k.fs, s.size ≤ 281474976710656
theorem WS.cnt16 {ks : List TK} {rr : List (Nat × List Tr)} (h : WS ks rr) {t : Int} (ht : t < ((ks.length : Nat) : Int)) : cnt ks t ≤ 16 := by
  by_cases h0 : t < 0
  · rw [que h0]; omega
  · have := h.fl t.toNat (by omega)
    rwa [show ((t.toNat : Nat) : Int) = t by omega] at this
theorem WS.nf16 {ks : List TK} {rr : List (Nat × List Tr)} (h : WS ks rr) {i : Nat} {k : TK} (hk : ks[i]? = some k) : k.fs.length + cnt ks k.par ≤ 16 := by
  have hi := (List.getElem?_eq_some_iff.1 hk).1
  have := h.fl i hi
  rwa [qmi h.wf (by omega) (show ks[((i : Nat) : Int).toNat]? = some k from hk)] at this
theorem WS.par_lt {ks : List TK} {rr : List (Nat × List Tr)} (h : WS ks rr) {i : Nat} {k : TK} (hk : ks[i]? = some k) : -1 ≤ k.par ∧ k.par < ((i : Nat) : Int) := h.wf i k.par (by unfold prs; rw [List.getElem?_map, hk]; rfl)
/-! Rows of whole numbers, and what is found in rows -/
def inC (xs : List Int) : List Value := xs.map (.int .i64 ·)
theorem qmj (a b : List Int) : inC (a ++ b) = inC a ++ inC b := List.map_append
theorem zgj (l : List Int) : ∀ u ∈ inC l, u.oneCell' = true := by
  intro u hu
  obtain ⟨x, _, rfl⟩ := List.mem_map.1 hu
  rfl
theorem qna {w : World} {so : Option Addr} {l : List Int} (h : Rc w so (inC l)) {i : Nat} (hi : i < l.length) : ∃ b off z, so = some ⟨b, off, none⟩ ∧ w.cell? ⟨b, off + i, none⟩ = some (.int .i64 z) ∧ l[i]? = some z ∧ z ∈ l := by
  obtain ⟨b, off, e, h2⟩ := h (fun k => by have := congrArg List.length k; simp [inC] at this; rw [this] at hi; exact absurd hi (Nat.not_lt_zero _))
  exact ⟨b, off, l[i], e, h2 i _ (by simp [inC, hi]), by simp [hi], List.getElem_mem hi⟩
section
variable {P : Program} {w : World} {l : List (Nat × Value)} {dst : Option Tmp} {ty : TypeId} {pos : String} {after : Array Edge} {guard : Option (Nat × Bool)} {v : Value}
/-- What stands there now. -/
theorem qfj {b o : Nat} (hc : w.cell? ⟨b, o, none⟩ = some v) {t : TypeId} (ht : Is1 P t) {x : Operand} (hx : ev l x = some (.pointer (some ⟨b, o, none⟩))) : Does P l ⟨dst, .load t x, ty, pos, after, guard⟩ w v w := jn hx (jy ht hc)
theorem zje {b o n : Nat} {cs : List Value} (hH : Here w b o cs) {t : TypeId} (ht : IsS P t n) {x : Operand} (hx : ev l x = some (.pointer (some ⟨b, o, none⟩))) (hl : cs.length = n) : Does P l ⟨dst, .load t x, ty, pos, after, guard⟩ w (.agg cs.toArray) w := jn hx (kf ht cs hl fun j y hj => hH.2 j y hj)
end
def ixG {α : Type} (p : α → Bool) (l : List α) : Int := match l.findIdx? p with | some i => ((i : Nat) : Int) | none => -1
theorem qkc {α : Type} {p : α → Bool} {l : List α} {i : Nat} {s : α} (hb : ∀ (j : Nat) u, j < i → l[j]? = some u → p u = false) (h : l[i]? = some s) (hp : p s = true) : ixG p l = ((i : Nat) : Int) := by
  obtain ⟨h1, h2⟩ := List.getElem?_eq_some_iff.1 h
  have : l.findIdx? p = some i := List.findIdx?_eq_some_iff_getElem.2 ⟨h1, by rw [h2]; exact hp, fun j hj => by rw [hb j _ hj (List.getElem?_eq_getElem (by omega))]; decide⟩
  unfold ixG
  rw [this]
theorem qga {α : Type} {p : α → Bool} {l : List α} (hb : ∀ (j : Nat) u, j < l.length → l[j]? = some u → p u = false) : ixG p l = -1 := by
  have : l.findIdx? p = none := by
    rw [List.findIdx?_eq_none_iff]
    intro x hx
    obtain ⟨i, hi, rfl⟩ := List.getElem_of_mem hx
    exact hb i _ hi (List.getElem?_eq_getElem hi)
  unfold ixG
  rw [this]
theorem zha {α : Type} (p : α → Bool) (l : List α) : decide (0 ≤ ixG p l) = l.any p := by
  unfold ixG
  cases h : l.findIdx? p with
  | none =>
    rw [List.findIdx?_eq_none_iff] at h
    have : l.any p = false := by rw [List.any_eq_false]; intro x hx; rw [h x hx]; decide
    rw [this]; rfl
  | some i =>
    obtain ⟨h1, h2, _⟩ := List.findIdx?_eq_some_iff_getElem.1 h
    have : l.any p = true := List.any_eq_true.2 ⟨_, List.getElem_mem h1, h2⟩
    rw [this]
    simp
theorem zyb {α : Type} (p : α → Bool) (l : List α) : -1 ≤ ixG p l ∧ ixG p l < ((l.length : Nat) : Int) := by
  unfold ixG
  cases e : l.findIdx? p with
  | none => exact ⟨Int.le_refl _, by show (-1 : Int) < _; omega⟩
  | some i =>
    obtain ⟨h1, _⟩ := List.findIdx?_eq_some_iff_getElem.1 e
    exact ⟨by show (-1 : Int) ≤ ((i : Nat) : Int); omega, by show ((i : Nat) : Int) < _; omega⟩
theorem quf {α β : Type} (f : α → β) (p : β → Bool) (l : List α) : ixG p (l.map f) = ixG (fun x => p (f x)) l := by unfold ixG; rw [List.findIdx?_map]; rfl
/-- A question that is asked of what a row holds. -/
structure AskG {α : Type} (v : α → Value) (P : Program) (f : FuncId) (cs : List Value) (w0 : World) (l : List α) (p : α → Bool) : Prop where
  inv : ∀ (us : Array Value) (w : World), (callFunc f us).run P w = .ok (.enter f us) w
  run : ∀ (x : α) (w : World), x ∈ l → Below w0.heap.size w0 w → Calls P f ([v x] ++ cs).toArray w fun e w' => e = .returned (.bool (p x)) ∧ Below w.heap.size w w'
theorem AskG.below {α : Type} {v : α → Value} {P : Program} {f : FuncId} {cs : List Value} {w0 w1 : World} {l : List α} {p : α → Bool} (h : AskG v P f cs w0 l p) (hb : Below w0.heap.size w0 w1) : AskG v P f cs w1 l p := ⟨h.inv, fun s w hs k => h.run s w hs (hb.trans (k.mono hb.size))⟩
/-- A store as it is read. -/
structure SR (w : World) (b : Nat) (tz : Option Addr) (tc : Nat) (ts : List Ty) (ro : Option Addr) (rc : Nat) (rs : List Rk) : Prop where
  c0 : w.cell? ⟨b, 0, none⟩ = some (.slice tz ts.length tc)
  c1 : w.cell? ⟨b, 1, none⟩ = some (.slice ro rs.length rc)
  T : TR w tz ts
  R : RR w ro rs
theorem SR.below {w w' : World} {b : Nat} {tz : Option Addr} {tc : Nat} {ts : List Ty} {ro : Option Addr} {rc : Nat} {rs : List Rk} (h : SR w b tz tc ts ro rc rs) (hb : Below w.heap.size w w') : SR w' b tz tc ts ro rc rs := ⟨(hb.cell (cell_lt h.c0)).trans h.c0, (hb.cell (cell_lt h.c1)).trans h.c1, h.T.below hb, h.R.below hb⟩
def okT (n : Nat) (t : Int) : Bool := decide (0 ≤ t) && decide (t < ((n : Nat) : Int))
theorem ke {n : Nat} {t : Int} (h : okT n t = true) : 0 ≤ t ∧ t < ((n : Nat) : Int) := by unfold okT at h; simpa using h
theorem qgb {n : Nat} {t : Int} (h : okT n t = false) : t < 0 ∨ ((n : Nat) : Int) ≤ t := by unfold okT at h; simp at h; omega
/-! What the calls answer -/
def gdB (n : Nat) (k : TK) : Bool := decide (k.ms.length = k.fs.length) && !E.twS k.fs && decide (-1 ≤ k.par) && decide (k.par < ((n : Nat) : Int))
theorem zoc {n : Nat} {k : TK} (h : gdB n k = true) : k.ms.length = k.fs.length ∧ E.twS k.fs = false ∧ -1 ≤ k.par ∧ k.par < ((n : Nat) : Int) := by
  unfold gdB at h
  simp only [Bool.and_eq_true, decide_eq_true_eq, Bool.not_eq_true'] at h
  exact ⟨h.1.1.1, h.1.1.2, h.1.2, h.2⟩
theorem zod {n : Nat} {k : TK} (h1 : k.ms.length = k.fs.length) (h2 : E.twS k.fs = false) (h3 : -1 ≤ k.par) (h4 : k.par < ((n : Nat) : Int)) : gdB n k = true := by
  unfold gdB
  rw [decide_eq_true h1, h2, decide_eq_true h3, decide_eq_true h4]; rfl
theorem qbd {n : Nat} {k : TK} (h : k.ms.length ≠ k.fs.length ∨ E.twS k.fs = true ∨ k.par < -1 ∨ ((n : Nat) : Int) ≤ k.par) : gdB n k = false := by
  refine Bool.eq_false_iff.2 fun e => ?_
  obtain ⟨h1, h2, h3, h4⟩ := zoc e
  rcases h with h | h | h | h
  · exact h h1
  · rw [h2] at h; cases h
  · omega
  · omega
def xm (a b : TK) : Bool := decide (a.nm = b.nm) && (a.par == b.par) && decide (a.fs = b.fs) && decide (a.ms = b.ms) && (a.sl == b.sl) && (a.op == b.op) && decide (a.ui = b.ui)
theorem vz (a b : Ty) : xm a.k b.k = (decide (a.nm = b.nm) && (a.par == b.par) && decide (a.fs = b.fs) && decide (a.ms = b.ms) && (a.sl == b.sl) && (a.op == b.op) && decide (a.ui = b.ui)) := rfl
theorem zbj (a : TK) : xm a a = true := by unfold xm; simp
def uix (ks : List TK) (ui : ByteArray) : Int := if decide (ui = ⟨#[]⟩) = true then -1 else ixG (fun k => decide (k.ui = ui)) ks
theorem zoe (ks : List TK) (ui : ByteArray) : -1 ≤ uix ks ui ∧ uix ks ui < ((ks.length : Nat) : Int) := by
  unfold uix
  split
  · exact ⟨Int.le_refl _, by omega⟩
  · exact zyb _ _
/-- Is the parent sealed? -/
def slP (ks : List TK) (p : Int) : Bool := decide (0 ≤ p) && ((ks[p.toNat]?).map fun k => k.sl).getD false
theorem qbe {ks : List TK} {p : Int} {k : TK} (h0 : 0 ≤ p) (h : ks[p.toNat]? = some k) : slP ks p = k.sl := by unfold slP; rw [decide_eq_true h0, h]; rfl
theorem qgc {ks : List TK} {p : Int} (h : p < 0) : slP ks p = false := by unfold slP; rw [decide_eq_false (by omega)]; rfl
/-- Type: number, error, whether it is new. -/
def tyS (ks : List TK) (u : TK) : Int × Int × Bool :=
  if gdB ks.length u = true then
    if 0 ≤ uix ks u.ui then
      if ((ks[(uix ks u.ui).toNat]?).map fun k => xm k u).getD false = true then (uix ks u.ui, 0, false) else (0, 8, false)
    else if slP ks u.par = true then (0, 10, false)
    else if cnt ks u.par + u.fs.length ≤ 16 ∧ ks.length < 4096 then (((ks.length : Nat) : Int), 0, true) else (0, 4, false)
  else (0, 1, false)
theorem yf {ks : List TK} {u : TK} (h : gdB ks.length u = false) : tyS ks u = (0, 1, false) := by unfold tyS; rw [if_neg (by rw [h]; decide)]
theorem qug {ks : List TK} {u k : TK} (h : gdB ks.length u = true) (h0 : 0 ≤ uix ks u.ui) (hk : ks[(uix ks u.ui).toNat]? = some k) : tyS ks u = if xm k u = true then (uix ks u.ui, 0, false) else (0, 8, false) := by
  unfold tyS; rw [if_pos h, if_pos h0, hk]; rfl
theorem qnb {ks : List TK} {u : TK} (h : gdB ks.length u = true) (h0 : ¬ 0 ≤ uix ks u.ui) (hs : slP ks u.par = true) : tyS ks u = (0, 10, false) := by
  unfold tyS; rw [if_pos h, if_neg h0, if_pos hs]
theorem vn {ks : List TK} {u : TK} (h : gdB ks.length u = true) (h0 : ¬ 0 ≤ uix ks u.ui) (hs : slP ks u.par = false) (hl : ¬ (cnt ks u.par + u.fs.length ≤ 16 ∧ ks.length < 4096)) : tyS ks u = (0, 4, false) := by
  unfold tyS; rw [if_pos h, if_neg h0, if_neg (by rw [hs]; decide), if_neg hl]
theorem qkd {ks : List TK} {u : TK} (h : gdB ks.length u = true) (h0 : ¬ 0 ≤ uix ks u.ui) (hs : slP ks u.par = false) (hl : cnt ks u.par + u.fs.length ≤ 16 ∧ ks.length < 4096) : tyS ks u = (((ks.length : Nat) : Int), 0, true) := by
  unfold tyS; rw [if_pos h, if_neg h0, if_neg (by rw [hs]; decide), if_pos hl]
def rkd (rr : List (Nat × List Tr)) (r : Int) : Nat := ((rr[r.toNat]?).map Prod.fst).getD 0
theorem quh {rr : List (Nat × List Tr)} {r : Int} {x : Nat × List Tr} (h : rr[r.toNat]? = some x) : rkd rr r = x.1 := by unfold rkd; rw [h]; rfl
/-- Make, Is, place, TypeOf. -/
def mkS (ks : List TK) (n : Nat) (t : Int) (vs : List Tr) : Int × Int × Bool :=
  if okT ks.length t = true then
    if vs.length = cnt ks t then
      if vs.all (jh zx) = true then
        if n < 20000 then (((n : Nat) : Int), 0, true) else (0, 9, false)
      else (0, 2, false)
    else (0, 1, false)
  else (0, 7, false)
def isS (ks : List TK) (rr : List (Nat × List Tr)) (r t : Int) : Bool × Int :=
  if okT rr.length r = true ∧ okT ks.length t = true then ((chT (prs ks) ((rkd rr r : Nat) : Int)).any fun z => t == z, 0) else (false, 7)
def plS (ks : List TK) (rr : List (Nat × List Tr)) (r t i : Int) : Int × Int :=
  if (isS ks rr r t).2 = 0 then
    if (isS ks rr r t).1 = true then
      if 0 ≤ i ∧ i < ((nfs ks t : Nat) : Int) then (((cnt ks ((prs ks).getD t.toNat (-1)) : Nat) : Int) + i, 0) else (0, 1)
    else (0, 10)
  else (0, 7)
def yv (ks : List TK) (rr : List (Nat × List Tr)) (r : Int) : Int × Int :=
  if okT rr.length r = true then
    if opq ks ((rkd rr r : Nat) : Int) = true then (0, 10) else (((rkd rr r : Nat) : Int), 0)
  else (0, 7)
def flS (ks : List TK) (t : Int) : Int × Int := if okT ks.length t = true then (((cnt ks t : Nat) : Int), 0) else (0, 7)
/-- Set: the error. -/
def seS (ks : List TK) (rr : List (Nat × List Tr)) (r t i : Int) (v : Tr) : Int :=
  if (plS ks rr r t i).2 = 0 then
    if jh zx v = true then
      if (((ks[t.toNat]?).map fun k => (k.ms[i.toNat]?).getD false).getD false) = true then 0 else 8
    else 2
  else (plS ks rr r t i).2
set_option maxRecDepth 100000
theorem o93 : Is1 Tryz.prog 3 := ⟨⟨_, Tryz.underlying3, rfl⟩, by kernel_rfl⟩
theorem kw : Is1 Tryz.prog 34 := ⟨⟨_, Tryz.underlying34, rfl⟩, by kernel_rfl⟩
theorem vg : FieldAt Tryz.prog 42 0 0 := ⟨_, _, Tryz.underlying42, rfl, rfl, by kernel_rfl⟩
theorem xd : FieldAt Tryz.prog 42 5 10 := ⟨_, _, Tryz.underlying42, rfl, rfl, by kernel_rfl⟩
theorem zjf : Is1 Tryz.prog 35 := ⟨⟨_, Tryz.underlying35, rfl⟩, by kernel_rfl⟩
theorem o94 : Is1 Tryz.prog 4 := ⟨⟨_, Tryz.underlying4, rfl⟩, by kernel_rfl⟩
theorem qyc : Is1 Tryz.prog 40 := ⟨⟨_, Tryz.underlying40, rfl⟩, by kernel_rfl⟩
theorem o99 : Is1 Tryz.prog 9 := ⟨⟨_, Tryz.underlying9, rfl⟩, by kernel_rfl⟩
theorem zca : FieldAt Tryz.prog 37 0 0 := ⟨_, _, Tryz.underlying37, rfl, rfl, by kernel_rfl⟩
theorem zcb : FieldAt Tryz.prog 37 1 1 := ⟨_, _, Tryz.underlying37, rfl, rfl, by kernel_rfl⟩
theorem zcc : FieldAt Tryz.prog 37 2 2 := ⟨_, _, Tryz.underlying37, rfl, rfl, by kernel_rfl⟩
theorem zcd : FieldAt Tryz.prog 39 0 0 := ⟨_, _, Tryz.underlying39, rfl, rfl, by kernel_rfl⟩
theorem zce : FieldAt Tryz.prog 39 1 3 := ⟨_, _, Tryz.underlying39, rfl, rfl, by kernel_rfl⟩
theorem xy : FieldAt Tryz.prog 42 1 1 := ⟨_, _, Tryz.underlying42, rfl, rfl, by kernel_rfl⟩
theorem kx : FieldAt Tryz.prog 42 2 2 := ⟨_, _, Tryz.underlying42, rfl, rfl, by kernel_rfl⟩
theorem vl : FieldAt Tryz.prog 42 3 8 := ⟨_, _, Tryz.underlying42, rfl, rfl, by kernel_rfl⟩
theorem qab : FieldAt Tryz.prog 42 4 9 := ⟨_, _, Tryz.underlying42, rfl, rfl, by kernel_rfl⟩
theorem zcf : IsS Tryz.prog 37 3 := ⟨⟨_, Tryz.underlying37⟩, by kernel_rfl⟩
theorem ztj : IsS Tryz.prog 39 6 := ⟨⟨_, Tryz.underlying39⟩, by kernel_rfl⟩
theorem xz : IsS Tryz.prog 42 11 := ⟨⟨_, Tryz.underlying42⟩, by kernel_rfl⟩
theorem jab : Is1 Tryz.prog 24 := ⟨⟨_, Tryz.underlying24, rfl⟩, by kernel_rfl⟩
theorem xn : Is1 Tryz.prog 26 := ⟨⟨_, Tryz.underlying26, rfl⟩, by kernel_rfl⟩
theorem qai : Is1 Tryz.prog 30 := ⟨⟨_, Tryz.underlying30, rfl⟩, by kernel_rfl⟩
theorem qib : Is1 Tryz.prog 71 := ⟨⟨_, Tryz.underlying71, rfl⟩, by kernel_rfl⟩
theorem ju : FieldAt Tryz.prog 33 1 1 := ⟨_, _, Tryz.underlying33, rfl, rfl, by kernel_rfl⟩
theorem xu : FieldAt Tryz.prog 33 2 2 := ⟨_, _, Tryz.underlying33, rfl, rfl, by kernel_rfl⟩
theorem qeb : FieldAt Tryz.prog 33 5 5 := ⟨_, _, Tryz.underlying33, rfl, rfl, by kernel_rfl⟩
theorem jw : FieldAt Tryz.prog 73 0 0 := ⟨_, _, Tryz.underlying73, rfl, rfl, by kernel_rfl⟩
theorem ka : FieldAt Tryz.prog 73 1 1 := ⟨_, _, Tryz.underlying73, rfl, rfl, by kernel_rfl⟩
theorem qic : Is1 Tryz.prog 31 := ⟨⟨_, Tryz.underlying31, rfl⟩, by kernel_rfl⟩
theorem qnc : FieldAt Tryz.prog 33 0 0 := ⟨_, _, Tryz.underlying33, rfl, rfl, by kernel_rfl⟩
theorem kk : FieldAt Tryz.prog 33 3 3 := ⟨_, _, Tryz.underlying33, rfl, rfl, by kernel_rfl⟩
theorem qbf : FieldAt Tryz.prog 33 4 4 := ⟨_, _, Tryz.underlying33, rfl, rfl, by kernel_rfl⟩
theorem yu : FieldAt Tryz.prog 33 6 6 := ⟨_, _, Tryz.underlying33, rfl, rfl, by kernel_rfl⟩
theorem qaj : IsS Tryz.prog 33 7 := ⟨⟨_, Tryz.underlying33⟩, by kernel_rfl⟩
theorem zof : FieldAt Tryz.prog 86 0 0 := ⟨_, _, Tryz.underlying86, rfl, rfl, by kernel_rfl⟩
theorem zog : FieldAt Tryz.prog 86 1 1 := ⟨_, _, Tryz.underlying86, rfl, rfl, by kernel_rfl⟩
theorem zua : FieldAt Tryz.prog 134 1 1 := ⟨_, _, Tryz.underlying134, rfl, rfl, by kernel_rfl⟩
theorem o95 : Is1 Tryz.prog 5 := ⟨⟨_, Tryz.underlying5, rfl⟩, by kernel_rfl⟩
theorem qpj : Is1 Tryz.prog 27 := ⟨⟨_, Tryz.underlying27, rfl⟩, by kernel_rfl⟩
theorem xt : FieldAt Tryz.prog 29 0 0 := ⟨_, _, Tryz.underlying29, rfl, rfl, by kernel_rfl⟩
theorem ky : FieldAt Tryz.prog 29 1 1 := ⟨_, _, Tryz.underlying29, rfl, rfl, by kernel_rfl⟩
theorem zcg : FieldAt Tryz.prog 88 0 0 := ⟨_, _, Tryz.underlying88, rfl, rfl, by kernel_rfl⟩
theorem zch : FieldAt Tryz.prog 88 1 1 := ⟨_, _, Tryz.underlying88, rfl, rfl, by kernel_rfl⟩
theorem jr : IsS Tryz.prog 29 2 := ⟨⟨_, Tryz.underlying29⟩, by kernel_rfl⟩
theorem zyc : FieldAt Tryz.prog 44 0 0 := ⟨_, _, Tryz.underlying44, rfl, rfl, by kernel_rfl⟩
theorem qbg : FieldAt Tryz.prog 44 1 1 := ⟨_, _, Tryz.underlying44, rfl, rfl, by kernel_rfl⟩
theorem vb : FieldAt Tryz.prog 44 2 2 := ⟨_, _, Tryz.underlying44, rfl, rfl, by kernel_rfl⟩
theorem qui : FieldAt Tryz.prog 44 3 3 := ⟨_, _, Tryz.underlying44, rfl, rfl, by kernel_rfl⟩
theorem zoh : FieldAt Tryz.prog 44 4 4 := ⟨_, _, Tryz.underlying44, rfl, rfl, by kernel_rfl⟩
theorem zoi : FieldAt Tryz.prog 44 5 11 := ⟨_, _, Tryz.underlying44, rfl, rfl, by kernel_rfl⟩
theorem zci : FieldAt Tryz.prog 44 6 12 := ⟨_, _, Tryz.underlying44, rfl, rfl, by kernel_rfl⟩
theorem jbj : IsS Tryz.prog 44 23 := ⟨⟨_, Tryz.underlying44⟩, by kernel_rfl⟩
/-- The walk of the size of a datum. -/
def FitsAt (t : Dt) : Prop := ∀ {w0 w : World} {b o gl : Nat} {left dp : Int} {T : List Ck}, t.rd w0 → Here w0 b o t.cells → Mg w0 w (.obj gl (.cells #[iV left] 3) :: T) → 0 ≤ left → left ≤ 20000 → 0 ≤ dp → dp ≤ 201 → Calls Tryz.prog 75 #[pA b o, iV dp, pA gl 0] w fun e w' => e = .returned (bV (js dp left t.tr).1) ∧ Mg w0 w' (.obj gl (.cells #[iV (js dp left t.tr).2] 3) :: T)
theorem zcj : ∀ t : Dt, FitsAt t := Dt.indT fun d ts ih => by
 intro w0 w b o gl left dp T hrd hH hM0 hl0 hl1 hd0 hd1
 replace hH : Here w0 b o (d.cells ts.length) := hH
 have hok := (Dt.rd_iff.1 hrd)
 have hk0 := hok.1.k0
 have hk1 := hok.1.k1
 have hlen : ts.length ≤ 9223372036854775807 := Nat.le_trans hok.2.1 hok.2.2.1
 have M : Mg w0 w (.obj gl (.cells #[iV left] 3) :: T) := hM0
 refine qs (l := [(0, pA b o), (1, iV dp), (2, pA gl 0)]) Tryz.func75 rfl Tryz.ntmps75 rfl rfl ?_
 intro Q hret hnorm hP a A
 refine wsk fun K1 hK1 => wrl (sda A λa A↦?_)
 refine qa (hK1 _ _ (wsk fun K2 hK2 => wrl (sdm A λa A↦?_)))
 refine sdo A (zh rfl) λa A↦?_
 refine sdo A (qh M o93 rfl 0 rfl rfl) λa A↦?_
 refine sdo (v := iV (left - 1)) A (qg rfl rfl (kn (ji (by omega) (by omega)))) λa A↦?_
 refine sdo A (zh rfl) λa A↦?_
 refine zq (L' := (.obj gl (.cells #[iV (left - 1)] 3) :: T)) A M rfl rfl (za rfl rfl rfl (by kernel_rfl) M 0 rfl rfl rfl) 0 rfl rfl rfl ?_
 intro w3 M
 refine qa (hK2 _ _ (wsk fun K4 hK4 => wsk fun K5 hK5 => wrl (sdm A λa A↦?_)))
 refine sdo A (zh rfl) λa A↦?_
 refine sdo A (qh M o93 rfl 0 rfl rfl) λa A↦?_
 rcases tf (decide (left - 1 < 0)) with hb6 | hb6
 ·
  have hb6' := of_decide_eq_true hb6
  refine sdc A qw hb6 λa A↦?_
  refine sdm A λa A↦?_
  iterate 2 refine qj A rfl rfl rfl λa A↦?_
  refine sdk (v := bV true) A λa A↦?_
  refine qa (hK5 _ _ (wp_cond_true (A.ev rfl) ?_))
  refine wsk fun K7 hK7 => wrl (sda A λa A↦?_)
  refine qa (hK7 _ _ (wp_ret (hret _ _ (en1 A rfl (qf rfl) ?_))))
  rw [zfj (by omega)]
  exact ⟨rfl, M⟩
 ·
  have hb6' := of_decide_eq_false hb6
  refine sdc A qw hb6 λa A↦?_
  iterate 2 refine sdm A λa A↦?_
  rcases tf (decide (200 < dp)) with hb8 | hb8
  ·
   have hb8' := of_decide_eq_true hb8
   refine sdc A jk hb8 λa A↦?_
   refine sdk (v := bV true) A λa A↦?_
   refine qa (hK5 _ _ (wp_cond_true (A.ev rfl) ?_))
   refine wsk fun K9 hK9 => wrl (sda A λa A↦?_)
   refine qa (hK9 _ _ (wp_ret (hret _ _ (en1 A rfl (qf rfl) ?_))))
   rw [zfj (by omega)]
   exact ⟨rfl, M⟩
  ·
   have hb8' := of_decide_eq_false hb8
   refine sdc A jk hb8 λa A↦?_
   refine sdk (v := bV false) A λa A↦?_
   refine qa (hK5 _ _ (wp_cond_false (A.ev rfl) ?_))
   refine wp_skip (hK4 _ _ (wsk fun K10 hK10 => wsk fun K11 hK11 => wrl (sdm A λa A↦?_)))
   refine sdo A (zh rfl) λa A↦?_
   refine sdo (v := pA b (o + 10)) A (qb xd rfl rfl) λa A↦?_
   refine sdo A (jj (j := 10) M hH kw rfl rfl rfl) λa A↦?_
   refine sdo A (qn Tryz.underlying34 rfl) λa A↦?_
   refine sdm A λa A↦?_
   refine qa (hK11 _ _ (wp_block (zt (fun m_ a w1 => ∃ (i : Nat) (m : Int), m_ = 1 + (ts.length - i) ∧ (i ≤ ts.length ∧ uj dp (decide (d.k = 8)) 0 (left - 1) ((ts.map Dt.tr).drop 0) = uj dp (decide (d.k = 8)) i m ((ts.map Dt.tr).drop i) ∧ 0 ≤ m ∧ m ≤ 20000) ∧ Sl a 53 [(0, pA b o), (1, iV dp), (2, pA gl 0), (9, pA gl 0), (10, pA gl 0), (11, iV left), (12, iV (left - 1)), (13, pA gl 0), (14, pA gl 0), (15, pA gl 0), (16, iV (left - 1)), (17, bV false), (18, bV false), (19, iV dp), (20, bV false), (21, bV false), (22, pA b o), (23, pA b o), (24, pA b (o + 10)), (25, .slice d.lo ts.length d.lc), (26, iV (((ts.length : Nat) : Int))), (27, iV (((i : Nat) : Int)))] ∧ Mg w0 w1 (.obj gl (.cells #[iV m] 3) :: T)) _ ⟨0, left - 1, rfl, ⟨Nat.zero_le _, rfl, by omega, by omega⟩, A.keep _ (by repeat' constructor), M⟩ ?_)))
   clear M A
   rintro m_ a w12 ⟨i, m, rfl, hinv14, A, M⟩ K13 hK13
   obtain ⟨hi0, hin9, hm0, hm1⟩ := hinv14
   refine wsk fun K15 hK15 => wrl ?_
   rcases tf (decide (((i : Nat) : Int) < ((ts.length : Nat) : Int))) with hb16 | hb16
   ·
    have hb16' := of_decide_eq_true hb16
    refine sdc A qw hb16 λa A↦?_
    refine qa (hK15 _ _ (wsk fun K17 hK17 => wp_cond_true (A.ev rfl) ?_))
    refine wp_skip (hK17 _ _ (wsk fun K18 hK18 => wp_block (wsk fun K19 hK19 => wrl (sdm A λa A↦?_))))
    refine sda A λa A↦?_
    refine qa (hK19 _ _ (wsk fun K20 hK20 => wrl (sdm A λa A↦?_)))
    refine sdo (v := iV (dp + 1)) A (qg rfl rfl (ja (ji (by omega) (by omega)))) λa A↦?_
    refine sda A λa A↦?_
    refine qa (hK20 _ _ (wsk fun K21 hK21 => wsk fun K22 hK22 => wrl (sdm A λa A↦?_)))
    refine sdo A (zh rfl) λa A↦?_
    refine sdo (v := pA b o) A (qb vg rfl rfl) λa A↦?_
    refine sdo A (jj (j := 0) M hH o93 rfl rfl rfl) λa A↦?_
    rcases tf ((d.k == 8)) with hb23 | hb23
    ·
     have hb23' := eq_of_beq hb23
     refine sdc A qr hb23 λa A↦?_
     iterate 2 refine sdm A λa A↦?_
     rcases tf ((((i : Nat) : Int) == 1)) with hb24 | hb24
     ·
      have hb24' := eq_of_beq hb24
      refine sdc A qr hb24 λa A↦?_
      refine sdk (v := bV true) A λa A↦?_
      refine qa (hK22 _ _ (wp_cond_true (A.ev rfl) ?_))
      refine wrl (sdm A λa A↦?_)
      refine sda A λa A↦?_
      refine qa (hK21 _ _ (wsk fun K25 hK25 => ?_))
      obtain ⟨t1, b1, o1, hi1, hm1, hr1, hl1, hH1⟩ := kid hrd (i := i) (by omega)
      have hD : (if decide (d.k = 8) = true ∧ i = 1 then dp else dp + 1) = dp := if_pos ⟨decide_eq_true hb23', by omega⟩
      refine wrl (sdm A λa A↦?_)
      refine sdo A (zh rfl) λa A↦?_
      refine sdo (v := pA b (o + 10)) A (qb xd rfl rfl) λa A↦?_
      refine sdo A (jj (j := 10) M hH kw rfl rfl rfl) λa A↦?_
      refine sdm A λa A↦?_
      refine sdo (v := pA b1 (o1 + i * 11)) A (qx (k := i) Tryz.underlying34 (by kernel_rfl) rfl rfl rfl hl1 (by omega)) λa A↦?_
      iterate 2 refine sdm A λa A↦?_
      refine sct A (ef rfl rfl) (ih t1 hm1 hr1 hH1 M (by omega) (by omega) (by omega) (by omega)) ?_
      rintro _ w27 ⟨rfl, hM26⟩
      replace M : Mg w0 w27 (.obj gl (.cells #[iV ((js (dp) m t1.tr).2)] 3) :: T) := hM26
      refine ⟨_, rfl, ?_⟩
      intro a A
      refine sdo (v := bV (!((js (dp) m t1.tr).1))) A (zi rfl zm) λa A↦?_
      refine qa (hK25 _ _ ?_)
      refine wp_cond_split (t := !((js (dp) m t1.tr).1)) (A.ev rfl) (fun hc28 => ?_) (fun hc28 => ?_)
      ·
       refine wsk fun K29 hK29 => wrl (sda A λa A↦?_)
       refine qa (hK29 _ _ (wp_ret (hret _ _ (en1 A rfl (qf rfl) ?_))))
       have hr9 : (js (dp) m t1.tr).1 = false := by simpa using hc28
       have e9 : js dp left (Dt.mk d ts).tr = (false, (js (dp) m t1.tr).2) := by rw [qji (by omega) (by omega), hin9, qhg hi1 hD hr9]
       rw [e9]
       exact ⟨rfl, M⟩
      ·
       refine wp_skip (hK18 _ _ (wrl (sdo (v := iV (((i + 1 : Nat) : Int))) A (qg rfl rfl (fun w => (ja (ji (by omega) (by omega)) w).trans (by rw [show (((i : Nat) : Int) + 1 : Int) = ((i + 1 : Nat) : Int) from by omega]))) λa A↦?_)))
       refine sdm A λa A↦?_
       refine qa ?_
       have hr9 : (js (dp) m t1.tr).1 = true := by simpa using hc28
       have hp9 := qcb t1.tr _ _ hr9
       have hl9 := qtd t1.tr (dp) m
       refine hK13 _ _ _ (by omega) ⟨i + 1, (js (dp) m t1.tr).2, rfl, ⟨by omega, by rw [hin9, qte hi1 hD hr9], by omega, by omega⟩, A.keep _ (by repeat' constructor), M⟩
     ·
      have hb24' := ne_of_beq_false hb24
      refine sdc A qr hb24 λa A↦?_
      refine sdk (v := bV false) A λa A↦?_
      refine qa (hK22 _ _ (wp_cond_false (A.ev rfl) ?_))
      refine wp_skip (hK21 _ _ (wsk fun K30 hK30 => ?_))
      obtain ⟨t1, b1, o1, hi1, hm1, hr1, hl1, hH1⟩ := kid hrd (i := i) (by omega)
      have hD : (if decide (d.k = 8) = true ∧ i = 1 then dp else dp + 1) = dp + 1 := if_neg (fun e => by omega)
      refine wrl (sdm A λa A↦?_)
      refine sdo A (zh rfl) λa A↦?_
      refine sdo (v := pA b (o + 10)) A (qb xd rfl rfl) λa A↦?_
      refine sdo A (jj (j := 10) M hH kw rfl rfl rfl) λa A↦?_
      refine sdm A λa A↦?_
      refine sdo (v := pA b1 (o1 + i * 11)) A (qx (k := i) Tryz.underlying34 (by kernel_rfl) rfl rfl rfl hl1 (by omega)) λa A↦?_
      iterate 2 refine sdm A λa A↦?_
      refine sct A (ef rfl rfl) (ih t1 hm1 hr1 hH1 M (by omega) (by omega) (by omega) (by omega)) ?_
      rintro _ w32 ⟨rfl, hM31⟩
      replace M : Mg w0 w32 (.obj gl (.cells #[iV ((js (dp + 1) m t1.tr).2)] 3) :: T) := hM31
      refine ⟨_, rfl, ?_⟩
      intro a A
      refine sdo (v := bV (!((js (dp + 1) m t1.tr).1))) A (zi rfl zm) λa A↦?_
      refine qa (hK30 _ _ ?_)
      refine wp_cond_split (t := !((js (dp + 1) m t1.tr).1)) (A.ev rfl) (fun hc33 => ?_) (fun hc33 => ?_)
      ·
       refine wsk fun K34 hK34 => wrl (sda A λa A↦?_)
       refine qa (hK34 _ _ (wp_ret (hret _ _ (en1 A rfl (qf rfl) ?_))))
       have hr9 : (js (dp + 1) m t1.tr).1 = false := by simpa using hc33
       have e9 : js dp left (Dt.mk d ts).tr = (false, (js (dp + 1) m t1.tr).2) := by rw [qji (by omega) (by omega), hin9, qhg hi1 hD hr9]
       rw [e9]
       exact ⟨rfl, M⟩
      ·
       refine wp_skip (hK18 _ _ (wrl (sdo (v := iV (((i + 1 : Nat) : Int))) A (qg rfl rfl (fun w => (ja (ji (by omega) (by omega)) w).trans (by rw [show (((i : Nat) : Int) + 1 : Int) = ((i + 1 : Nat) : Int) from by omega]))) λa A↦?_)))
       refine sdm A λa A↦?_
       refine qa ?_
       have hr9 : (js (dp + 1) m t1.tr).1 = true := by simpa using hc33
       have hp9 := qcb t1.tr _ _ hr9
       have hl9 := qtd t1.tr (dp + 1) m
       refine hK13 _ _ _ (by omega) ⟨i + 1, (js (dp + 1) m t1.tr).2, rfl, ⟨by omega, by rw [hin9, qte hi1 hD hr9], by omega, by omega⟩, A.keep _ (by repeat' constructor), M⟩
    ·
     have hb23' := ne_of_beq_false hb23
     refine sdc A qr hb23 λa A↦?_
     refine sdm A λa A↦?_
     iterate 2 refine qj A rfl rfl rfl λa A↦?_
     refine sdk (v := bV false) A λa A↦?_
     refine qa (hK22 _ _ (wp_cond_false (A.ev rfl) ?_))
     refine wp_skip (hK21 _ _ (wsk fun K35 hK35 => ?_))
     obtain ⟨t1, b1, o1, hi1, hm1, hr1, hl1, hH1⟩ := kid hrd (i := i) (by omega)
     have hD : (if decide (d.k = 8) = true ∧ i = 1 then dp else dp + 1) = dp + 1 := if_neg (fun e => hb23' (of_decide_eq_true e.1))
     refine wrl (sdm A λa A↦?_)
     refine sdo A (zh rfl) λa A↦?_
     refine sdo (v := pA b (o + 10)) A (qb xd rfl rfl) λa A↦?_
     refine sdo A (jj (j := 10) M hH kw rfl rfl rfl) λa A↦?_
     refine sdm A λa A↦?_
     refine sdo (v := pA b1 (o1 + i * 11)) A (qx (k := i) Tryz.underlying34 (by kernel_rfl) rfl rfl rfl hl1 (by omega)) λa A↦?_
     iterate 2 refine sdm A λa A↦?_
     refine sct A (ef rfl rfl) (ih t1 hm1 hr1 hH1 M (by omega) (by omega) (by omega) (by omega)) ?_
     rintro _ w37 ⟨rfl, hM36⟩
     replace M : Mg w0 w37 (.obj gl (.cells #[iV ((js (dp + 1) m t1.tr).2)] 3) :: T) := hM36
     refine ⟨_, rfl, ?_⟩
     intro a A
     refine sdo (v := bV (!((js (dp + 1) m t1.tr).1))) A (zi rfl zm) λa A↦?_
     refine qa (hK35 _ _ ?_)
     refine wp_cond_split (t := !((js (dp + 1) m t1.tr).1)) (A.ev rfl) (fun hc38 => ?_) (fun hc38 => ?_)
     ·
      refine wsk fun K39 hK39 => wrl (sda A λa A↦?_)
      refine qa (hK39 _ _ (wp_ret (hret _ _ (en1 A rfl (qf rfl) ?_))))
      have hr9 : (js (dp + 1) m t1.tr).1 = false := by simpa using hc38
      have e9 : js dp left (Dt.mk d ts).tr = (false, (js (dp + 1) m t1.tr).2) := by rw [qji (by omega) (by omega), hin9, qhg hi1 hD hr9]
      rw [e9]
      exact ⟨rfl, M⟩
     ·
      refine wp_skip (hK18 _ _ (wrl (sdo (v := iV (((i + 1 : Nat) : Int))) A (qg rfl rfl (fun w => (ja (ji (by omega) (by omega)) w).trans (by rw [show (((i : Nat) : Int) + 1 : Int) = ((i + 1 : Nat) : Int) from by omega]))) λa A↦?_)))
      refine sdm A λa A↦?_
      refine qa ?_
      have hr9 : (js (dp + 1) m t1.tr).1 = true := by simpa using hc38
      have hp9 := qcb t1.tr _ _ hr9
      have hl9 := qtd t1.tr (dp + 1) m
      refine hK13 _ _ _ (by omega) ⟨i + 1, (js (dp + 1) m t1.tr).2, rfl, ⟨by omega, by rw [hin9, qte hi1 hD hr9], by omega, by omega⟩, A.keep _ (by repeat' constructor), M⟩
   ·
    have hb16' := of_decide_eq_false hb16
    refine sdc A qw hb16 λa A↦?_
    refine qa (hK15 _ _ (wsk fun K40 hK40 => wp_cond_false (A.ev rfl) ?_))
    refine wp_exit (hK10 _ _ (wsk fun K41 hK41 => wrl (sda A λa A↦?_)))
    refine qa (hK41 _ _ (wp_ret (hret _ _ (en1 A rfl (qf rfl) ?_))))
    have e9 : js dp left (Dt.mk d ts).tr = (true, m) := by rw [qji (by omega) (by omega), hin9, qcc (by omega), uj]
    rw [e9]
    exact ⟨rfl, M⟩
end Go.Proofs.YtokgmpjblnpjmaaGreatDoor.G
namespace Go.Proofs
open Go.Shelf
def Tryz.lays119_ren : Go.Shelf.Ren := ⟨fun | 119 => 95 | n => n, fun | 21 => 21 | 4 => 4 | n => n, fun | n => n⟩
theorem Tryz.lays119 : Go.Proofs.Lays.n119 Tryz.prog Tryz.lays119_ren := {
  mixed := by kernel_rfl
  f119 := Tryz.func95.trans (congrArg some (by kernel_rfl))
  t4 := Tryz.underlying4
  a4 := Tryz.isAgg4
  z4 := Tryz.sizeOf4
  v4 := Tryz.zeroValue4
  t21 := Tryz.underlying21
  a21 := Tryz.isAgg21
  z21 := Tryz.sizeOf21
  v21 := Tryz.zeroValue21 }
theorem Tryz.utf8_ValidRune (r : Int) (w : World) :
    Calls Tryz.prog 95 #[.int .i32 r] w fun e w' => e = .returned (.bool (Lib.validRune r)) ∧ w' = w := Any.utf8_ValidRune Tryz.lays119 r w
def Tryz.laysValid_ren : Go.Shelf.Ren := ⟨fun | 196 => 87 | 259 => 96 | n => n, fun | 9 => 9 | 4 => 4 | 3 => 3 | 5 => 5 | 12 => 12 | 119 => 137 | 0 => 0 | 46 => 141 | 139 => 140 | 138 => 139 | 53 => 148 | n => n, fun | 3 => 0 | 4 => 1 | n => n⟩
theorem Tryz.laysValid : Go.Proofs.Lays.n196 Tryz.prog Tryz.laysValid_ren := {
  mixed := by kernel_rfl
  f196 := Tryz.func87.trans (congrArg some (by kernel_rfl))
  f259 := Tryz.func96.trans (congrArg some (by kernel_rfl))
  t0 := Tryz.underlying0
  a0 := Tryz.isAgg0
  z0 := Tryz.sizeOf0
  v0 := Tryz.zeroValue0
  t3 := Tryz.underlying3
  a3 := Tryz.isAgg3
  z3 := Tryz.sizeOf3
  v3 := Tryz.zeroValue3
  t4 := Tryz.underlying4
  a4 := Tryz.isAgg4
  z4 := Tryz.sizeOf4
  v4 := Tryz.zeroValue4
  t5 := Tryz.underlying5
  a5 := Tryz.isAgg5
  z5 := Tryz.sizeOf5
  v5 := Tryz.zeroValue5
  t9 := Tryz.underlying9
  a9 := Tryz.isAgg9
  z9 := Tryz.sizeOf9
  v9 := Tryz.zeroValue9
  t12 := Tryz.underlying12
  a12 := Tryz.isAgg12
  z12 := Tryz.sizeOf12
  v12 := Tryz.zeroValue12
  t46 := Tryz.underlying141
  a46 := Tryz.isAgg141
  z46 := Tryz.sizeOf141
  v46 := Tryz.zeroValue141
  t53 := Tryz.underlying148
  a53 := Tryz.isAgg148
  z53 := Tryz.sizeOf148
  v53 := Tryz.zeroValue148
  t119 := Tryz.underlying137
  a119 := Tryz.isAgg137
  z119 := Tryz.sizeOf137
  t138 := Tryz.underlying139
  a138 := Tryz.isAgg139
  z138 := Tryz.sizeOf139
  v138 := Tryz.zeroValue139
  t139 := Tryz.underlying140
  a139 := Tryz.isAgg140
  z139 := Tryz.sizeOf140
  v139 := Tryz.zeroValue140
  g3 := by kernel_rfl
  g4 := by kernel_rfl }
end Go.Proofs
namespace Go.Proofs.YtokgmpjblnpjmaaGreatDoor.G
open Go.RowKit
set_option linter.unusedVariables false
set_option linter.unusedSimpArgs false
set_option maxRecDepth 100000
/-- The library's tables of characters are there. -/
def Tabs8 (w : World) : Prop := Lib.Utf8Tabs (Tryz.laysValid_ren.g 3) (Tryz.laysValid_ren.g 4) w
theorem Tabs8.below {w w' : World} (h : Tabs8 w) (hb : Below w.heap.size w w') : Tabs8 w' := Utf8Tabs_below h hb
theorem ym {w : World} {s : ByteArray} (hs : s.size ≤ 9223372036854775807) (hT : Tabs8 w) {b : Bool} (h : okS s = b) : Calls Tryz.prog 87 #[.string s] w fun e w' => e = .returned (bV b) ∧ Below w.heap.size w w' := h ▸ Any.utf8_ValidString Tryz.laysValid s w hs hT
theorem zjg {w : World} {r : Int} : Calls Tryz.prog 95 #[.int .i32 r] w fun e w' => e = .returned (bV (Lib.validRune r)) ∧ Below w.heap.size w w' := (Tryz.utf8_ValidRune r w).mono fun e w' ⟨h, e2⟩ => ⟨h, e2 ▸ Below.refl _ _⟩
theorem quj {P : Program} {s d : TypeId} (hs : P.underlying s = some (.int .i64)) (hd : P.underlying d = some (.int .i32)) {n : Int} (h0 : 0 ≤ n) (h1 : n ≤ 1114111) : ∀ w, (convert s d (iV n)).run P w = .ok (.int .i32 n) w := fun w => by
 simp [go_sem, run_underlying hs, run_underlying hd, convert]
 exact in_i32 (by omega) (by omega)
theorem qyd {w : World} {n : Int} : Calls Tryz.prog 86 #[iV n] w fun e w' => e = .returned (bV (kt n)) ∧ Below w.heap.size w w' := by
 have M : Mg w w ([]) := Mg.start w
 refine qs (l := [(0, iV n)]) Tryz.func86 rfl Tryz.ntmps86 rfl rfl ?_
 intro Q hret hnorm hP a A
 refine wsk fun K1 hK1 => wrl (sda A λa A↦?_)
 refine qa (hK1 _ _ (wsk fun K2 hK2 => wrl (sdm A λa A↦?_)))
 rcases tf (decide (0 ≤ n)) with hb3 | hb3
 ·
  have hb3' := of_decide_eq_true hb3
  refine sdc A zl hb3 λa A↦?_
  iterate 2 refine sdm A λa A↦?_
  rcases tf (decide (n ≤ 1114111)) with hb4 | hb4
  ·
   have hb4' := of_decide_eq_true hb4
   refine sdc A vv hb4 λa A↦?_
   refine sdk (v := bV true) A λa A↦?_
   iterate 2 refine sdm A λa A↦?_
   refine sdo (v := .int .i32 n) A (xq rfl (quj Tryz.underlying3 Tryz.underlying21 (by omega) (by omega))) λa A↦?_
   refine gcl A M (ef rfl rfl) (zjg) fun w5 hbv M a A => ?_
   refine sdo (v := bV (Lib.validRune n)) A (jc rfl rfl rfl rfl) λa A↦?_
   refine sda A λa A↦?_
   refine qa (hK2 _ _ (wp_ret (hret _ _ (en1 A rfl (qf rfl) ?_))))
   exact ⟨by rw [show kt n = Lib.validRune n from by unfold kt; unfold Lib.validRune; exact decide_eq_decide.2 (by omega)], M.bel⟩
  ·
   have hb4' := of_decide_eq_false hb4
   refine sdc A vv hb4 λa A↦?_
   refine sdk (v := bV false) A λa A↦?_
   refine sdm A λa A↦?_
   iterate 3 refine qj A rfl rfl rfl λa A↦?_
   refine sdk (v := bV false) A λa A↦?_
   refine sda A λa A↦?_
   refine qa (hK2 _ _ (wp_ret (hret _ _ (en1 A rfl (qf rfl) ?_))))
   exact ⟨by rw [show kt n = false from by unfold kt; apply decide_eq_false; omega], M.bel⟩
 ·
  have hb3' := of_decide_eq_false hb3
  refine sdc A zl hb3 λa A↦?_
  refine sdm A λa A↦?_
  iterate 2 refine qj A rfl rfl rfl λa A↦?_
  refine sdk (v := bV false) A λa A↦?_
  refine sdm A λa A↦?_
  iterate 3 refine qj A rfl rfl rfl λa A↦?_
  refine sdk (v := bV false) A λa A↦?_
  refine sda A λa A↦?_
  refine qa (hK2 _ _ (wp_ret (hret _ _ (en1 A rfl (qf rfl) ?_))))
  exact ⟨by rw [show kt n = false from by unfold kt; apply decide_eq_false; omega], M.bel⟩
theorem qnd {m1 m2 : Nat} (h1 : m1 ≤ 9223372036854775807) (h2 : m2 ≤ 9223372036854775807) : (IntKind.i64.wrap (((m1 : Nat) : Int) + ((m2 : Nat) : Int)) == 0) = (decide (m1 = 0) && decide (m2 = 0)) := by
 rw [IntKind.wrap_i64]
 by_cases a1 : m1 = 0
 ·
  subst a1
  by_cases a2 : m2 = 0
  ·
   subst a2; rfl
  ·
   simp [a2]; omega
 ·
  simp [a1]; omega
theorem yg {w : World} {b : Bool} {o1 o2 : Option Addr} {m1 m2 c1 c2 : Nat} (h1 : m1 ≤ 9223372036854775807) (h2 : m2 ≤ 9223372036854775807) {r : Bool} (hr : kr b m1 m2 = r) : Calls Tryz.prog 97 #[.agg #[bV b, .slice o1 m1 c1, .slice o2 m2 c2]] w fun e w' => e = .returned (bV r) ∧ Below w.heap.size w w' := by
 have M : Mg w w ([]) := Mg.start w
 refine qs (l := [(0, .agg #[bV b, .slice o1 m1 c1, .slice o2 m2 c2])]) Tryz.func97 rfl Tryz.ntmps97 rfl rfl ?_
 intro Q hret hnorm hP a A
 refine wsk fun K1 hK1 => wrl (zy (vs := [bV b, .slice o1 m1 c1, .slice o2 m2 c2]) (t := 37) A M rfl rfl rfl pg (zf rfl rfl) (by decide) ?_)
 intro g2 w3 M a A
 refine sda A λa A↦?_
 refine qa (hK1 _ _ (wsk fun K4 hK4 => wrl (sdo (v := pA g2 0) A (qb zca rfl rfl) λa A↦?_)))
 refine sdo A (qh M o94 rfl 0 rfl rfl) λa A↦?_
 rcases b with _ | _
 ·
  refine sdo (v := bV true) A (zi rfl zm) λa A↦?_
  refine sdm A λa A↦?_
  refine sdo (v := pA g2 1) A (qb zcb rfl rfl) λa A↦?_
  refine sdo A (qh M zjf rfl 0 rfl rfl) λa A↦?_
  refine sdo A (qn Tryz.underlying35 rfl) λa A↦?_
  rcases tf ((((m1 : Nat) : Int) == 0)) with hb5 | hb5
  ·
   have hb5' := eq_of_beq hb5
   refine sdc A qr hb5 λa A↦?_
   refine sdk (v := bV true) A λa A↦?_
   refine sdm A λa A↦?_
   refine sdo (v := pA g2 2) A (qb zcc rfl rfl) λa A↦?_
   refine sdo A (qh M zjf rfl 0 rfl rfl) λa A↦?_
   refine sdo A (qn Tryz.underlying35 rfl) λa A↦?_
   rcases tf ((((m2 : Nat) : Int) == 0)) with hb6 | hb6
   ·
    have hb6' := eq_of_beq hb6
    refine sdc A qr hb6 λa A↦?_
    refine sdk (v := bV true) A λa A↦?_
    refine sda A λa A↦?_
    refine qa (hK4 _ _ (wp_ret (hret _ _ (en1 A rfl (qf rfl) ?_))))
    subst hr
    exact ⟨by unfold kr; simp_all; try omega, M.bel⟩
   ·
    have hb6' := ne_of_beq_false hb6
    refine sdc A qr hb6 λa A↦?_
    refine sdk (v := bV false) A λa A↦?_
    refine sda A λa A↦?_
    refine qa (hK4 _ _ (wp_ret (hret _ _ (en1 A rfl (qf rfl) ?_))))
    subst hr
    exact ⟨by unfold kr; simp_all; try omega, M.bel⟩
  ·
   have hb5' := ne_of_beq_false hb5
   refine sdc A qr hb5 λa A↦?_
   refine sdk (v := bV false) A λa A↦?_
   refine sdm A λa A↦?_
   iterate 4 refine qj A rfl rfl rfl λa A↦?_
   refine sdk (v := bV false) A λa A↦?_
   refine sda A λa A↦?_
   refine qa (hK4 _ _ (wp_ret (hret _ _ (en1 A rfl (qf rfl) ?_))))
   subst hr
   exact ⟨by unfold kr; simp_all; try omega, M.bel⟩
 ·
  refine sdo (v := bV false) A (zi rfl zm) λa A↦?_
  refine sdm A λa A↦?_
  iterate 4 refine qj A rfl rfl rfl λa A↦?_
  refine sdk (v := bV false) A λa A↦?_
  refine sdm A λa A↦?_
  iterate 4 refine qj A rfl rfl rfl λa A↦?_
  refine sdk (v := bV false) A λa A↦?_
  refine sda A λa A↦?_
  refine qa (hK4 _ _ (wp_ret (hret _ _ (en1 A rfl (qf rfl) ?_))))
  subst hr
  exact ⟨by unfold kr; simp_all; try omega, M.bel⟩
theorem qch {w : World} {b : Bool} {o1 o2 : Option Addr} {m1 m2 c1 c2 : Nat} (h1 : m1 ≤ 9223372036854775807) (h2 : m2 ≤ 9223372036854775807) {r : Bool} (hr : kr b m1 m2 = r) : Calls Tryz.prog 83 #[.agg #[bV b, .slice o1 m1 c1, .slice o2 m2 c2]] w fun e w' => e = .returned (bV r) ∧ Below w.heap.size w w' := by
 have M : Mg w w ([]) := Mg.start w
 refine qs (l := [(0, .agg #[bV b, .slice o1 m1 c1, .slice o2 m2 c2])]) Tryz.func83 rfl Tryz.ntmps83 rfl rfl ?_
 intro Q hret hnorm hP a A
 refine wsk fun K1 hK1 => wrl (zy (vs := [bV b, .slice o1 m1 c1, .slice o2 m2 c2]) (t := 37) A M rfl rfl rfl pg (zf rfl rfl) (by decide) ?_)
 intro g2 w3 M a A
 refine sda A λa A↦?_
 refine qa (hK1 _ _ (wsk fun K4 hK4 => wrl (sdo (v := pA g2 0) A (qb zca rfl rfl) λa A↦?_)))
 refine sdo A (qh M o94 rfl 0 rfl rfl) λa A↦?_
 rcases b with _ | _
 ·
  refine sdo (v := bV true) A (zi rfl zm) λa A↦?_
  refine sdm A λa A↦?_
  refine sdo (v := pA g2 1) A (qb zcb rfl rfl) λa A↦?_
  refine sdo A (qh M zjf rfl 0 rfl rfl) λa A↦?_
  refine sdo A (qn Tryz.underlying35 rfl) λa A↦?_
  refine sdo (v := pA g2 2) A (qb zcc rfl rfl) λa A↦?_
  refine sdo A (qh M zjf rfl 0 rfl rfl) λa A↦?_
  refine sdo A (qn Tryz.underlying35 rfl) λa A↦?_
  refine sdo (v := iV (IntKind.i64.wrap (((m1 : Nat) : Int) + ((m2 : Nat) : Int)))) A (qg rfl rfl (ar_add rfl)) λa A↦?_
  rcases tf ((IntKind.i64.wrap (((m1 : Nat) : Int) + ((m2 : Nat) : Int)) == 0)) with hb5 | hb5
  ·
   have hb5' := eq_of_beq hb5
   refine sdc A qr hb5 λa A↦?_
   refine sdk (v := bV true) A λa A↦?_
   refine sda A λa A↦?_
   refine qa (hK4 _ _ (wp_ret (hret _ _ (en1 A rfl (qf rfl) ?_))))
   subst hr
   have e9 := qnd h1 h2
   try rw [e9] at hb5
   exact ⟨by unfold kr; simp_all; try omega, M.bel⟩
  ·
   have hb5' := ne_of_beq_false hb5
   refine sdc A qr hb5 λa A↦?_
   refine sdk (v := bV false) A λa A↦?_
   refine sda A λa A↦?_
   refine qa (hK4 _ _ (wp_ret (hret _ _ (en1 A rfl (qf rfl) ?_))))
   subst hr
   have e9 := qnd h1 h2
   try rw [e9] at hb5
   exact ⟨by unfold kr; simp_all; try omega, M.bel⟩
 ·
  refine sdo (v := bV false) A (zi rfl zm) λa A↦?_
  refine sdm A λa A↦?_
  iterate 8 refine qj A rfl rfl rfl λa A↦?_
  refine sdk (v := bV false) A λa A↦?_
  refine sda A λa A↦?_
  refine qa (hK4 _ _ (wp_ret (hret _ _ (en1 A rfl (qf rfl) ?_))))
  subst hr
  have e9 := qnd h1 h2
  exact ⟨by unfold kr; simp_all; try omega, M.bel⟩
theorem zoj {w : World} {k n : Int} {b1 b2 : Bool} {o1 o2 o3 o4 ro lo : Option Addr} {m1 m2 m3 m4 mr ml c1 c2 c3 c4 rc lc : Nat} {s : ByteArray} (h1 : m1 ≤ 9223372036854775807) (h2 : m2 ≤ 9223372036854775807) (h3 : m3 ≤ 9223372036854775807) (h4 : m4 ≤ 9223372036854775807) {r : Bool} (hr : vx n b1 m1 m2 b2 m3 m4 s mr ml = r) : Calls Tryz.prog 88 #[.agg #[iV k, iV n, bV b1, .slice o1 m1 c1, .slice o2 m2 c2, bV b2, .slice o3 m3 c3, .slice o4 m4 c4, .string s, .slice ro mr rc, .slice lo ml lc]] w fun e w' => e = .returned (bV r) ∧ Below w.heap.size w w' := by
 have M : Mg w w ([]) := Mg.start w
 refine qs (l := [(0, .agg #[iV k, iV n, bV b1, .slice o1 m1 c1, .slice o2 m2 c2, bV b2, .slice o3 m3 c3, .slice o4 m4 c4, .string s, .slice ro mr rc, .slice lo ml lc])]) Tryz.func88 rfl Tryz.ntmps88 rfl rfl ?_
 intro Q hret hnorm hP a A
 refine wsk fun K1 hK1 => wrl (zy (vs := [iV k, iV n, bV b1, .slice o1 m1 c1, .slice o2 m2 c2, bV b2, .slice o3 m3 c3, .slice o4 m4 c4, .string s, .slice ro mr rc, .slice lo ml lc]) (t := 42) A M rfl rfl rfl pg (zf rfl rfl) (by decide) ?_)
 intro g2 w3 M a A
 refine sda A λa A↦?_
 refine qa (hK1 _ _ (wsk fun K4 hK4 => wrl (sdo (v := pA g2 1) A (qb xy rfl rfl) λa A↦?_)))
 refine sdo A (qh M o93 rfl 0 rfl rfl) λa A↦?_
 rcases tf ((n == 0)) with hb5 | hb5
 ·
  have hb5' := eq_of_beq hb5
  refine sdc A qr hb5 λa A↦?_
  refine sdm A λa A↦?_
  refine sdo (v := pA g2 2) A (qb kx rfl rfl) λa A↦?_
  refine sdo (v := pA g2 2) A (qb zcd rfl rfl) λa A↦?_
  refine sdo A (qz M zcf rfl 0 rfl (cs := [bV b1, .slice o1 m1 c1, .slice o2 m2 c2]) rfl rfl) λa A↦?_
  rcases tf (kr b1 m1 m2) with hb6 | hb6
  ·
   refine gcl A M (ef rfl rfl) (yg h1 h2 hb6) fun w8 hb7 M a A => ?_
   refine sdk (v := bV true) A λa A↦?_
   refine sdm A λa A↦?_
   refine sdo (v := pA g2 2) A (qb kx rfl rfl) λa A↦?_
   refine sdo (v := pA g2 5) A (qb zce rfl rfl) λa A↦?_
   refine sdo A (qz M zcf rfl 0 rfl (cs := [bV b2, .slice o3 m3 c3, .slice o4 m4 c4]) rfl rfl) λa A↦?_
   rcases tf (kr b2 m3 m4) with hb9 | hb9
   ·
    refine gcl A M (ef rfl rfl) (yg h3 h4 hb9) fun w11 hb10 M a A => ?_
    refine sdk (v := bV true) A λa A↦?_
    refine sdm A λa A↦?_
    refine sdo (v := pA g2 8) A (qb vl rfl rfl) λa A↦?_
    refine sdo A (qh M o99 rfl 0 rfl rfl) λa A↦?_
    rcases tf (decide (s = ⟨#[]⟩)) with hb12 | hb12
    ·
     have hb12' := of_decide_eq_true hb12
     refine sdo (v := bV true) A (qg rfl rfl (fun w => (xk Tryz.underlying9 w).trans (by rw [hb12] <;> rfl))) λa A↦?_
     refine sdk (v := bV true) A λa A↦?_
     refine sdm A λa A↦?_
     refine sdo (v := pA g2 9) A (qb qab rfl rfl) λa A↦?_
     refine sdo A (qh M qyc rfl 0 rfl rfl) λa A↦?_
     refine sdo A (qn Tryz.underlying40 rfl) λa A↦?_
     rcases tf ((((mr : Nat) : Int) == 0)) with hb13 | hb13
     ·
      have hb13' := eq_of_beq hb13
      refine sdc A qr hb13 λa A↦?_
      refine sdk (v := bV true) A λa A↦?_
      refine sdm A λa A↦?_
      refine sdo (v := pA g2 10) A (qb xd rfl rfl) λa A↦?_
      refine sdo A (qh M kw rfl 0 rfl rfl) λa A↦?_
      refine sdo A (qn Tryz.underlying34 rfl) λa A↦?_
      rcases tf ((((ml : Nat) : Int) == 0)) with hb14 | hb14
      ·
       have hb14' := eq_of_beq hb14
       refine sdc A qr hb14 λa A↦?_
       refine sdk (v := bV true) A λa A↦?_
       refine sda A λa A↦?_
       refine qa (hK4 _ _ (wp_ret (hret _ _ (en1 A rfl (qf rfl) ?_))))
       subst hr
       exact ⟨by unfold vx; simp_all, M.bel⟩
      ·
       have hb14' := ne_of_beq_false hb14
       refine sdc A qr hb14 λa A↦?_
       refine sdk (v := bV false) A λa A↦?_
       refine sda A λa A↦?_
       refine qa (hK4 _ _ (wp_ret (hret _ _ (en1 A rfl (qf rfl) ?_))))
       subst hr
       exact ⟨by unfold vx; simp_all, M.bel⟩
     ·
      have hb13' := ne_of_beq_false hb13
      refine sdc A qr hb13 λa A↦?_
      refine sdk (v := bV false) A λa A↦?_
      refine sdm A λa A↦?_
      iterate 4 refine qj A rfl rfl rfl λa A↦?_
      refine sdk (v := bV false) A λa A↦?_
      refine sda A λa A↦?_
      refine qa (hK4 _ _ (wp_ret (hret _ _ (en1 A rfl (qf rfl) ?_))))
      subst hr
      exact ⟨by unfold vx; simp_all, M.bel⟩
    ·
     have hb12' := of_decide_eq_false hb12
     refine sdo (v := bV false) A (qg rfl rfl (fun w => (xk Tryz.underlying9 w).trans (by rw [hb12] <;> rfl))) λa A↦?_
     refine sdk (v := bV false) A λa A↦?_
     refine sdm A λa A↦?_
     iterate 4 refine qj A rfl rfl rfl λa A↦?_
     refine sdk (v := bV false) A λa A↦?_
     refine sdm A λa A↦?_
     iterate 4 refine qj A rfl rfl rfl λa A↦?_
     refine sdk (v := bV false) A λa A↦?_
     refine sda A λa A↦?_
     refine qa (hK4 _ _ (wp_ret (hret _ _ (en1 A rfl (qf rfl) ?_))))
     subst hr
     exact ⟨by unfold vx; simp_all, M.bel⟩
   ·
    refine gcl A M (ef rfl rfl) (yg h3 h4 hb9) fun w16 hb15 M a A => ?_
    refine sdk (v := bV false) A λa A↦?_
    refine sdm A λa A↦?_
    iterate 3 refine qj A rfl rfl rfl λa A↦?_
    refine sdk (v := bV false) A λa A↦?_
    refine sdm A λa A↦?_
    iterate 4 refine qj A rfl rfl rfl λa A↦?_
    refine sdk (v := bV false) A λa A↦?_
    refine sdm A λa A↦?_
    iterate 4 refine qj A rfl rfl rfl λa A↦?_
    refine sdk (v := bV false) A λa A↦?_
    refine sda A λa A↦?_
    refine qa (hK4 _ _ (wp_ret (hret _ _ (en1 A rfl (qf rfl) ?_))))
    subst hr
    exact ⟨by unfold vx; simp_all, M.bel⟩
  ·
   refine gcl A M (ef rfl rfl) (yg h1 h2 hb6) fun w18 hb17 M a A => ?_
   refine sdk (v := bV false) A λa A↦?_
   refine sdm A λa A↦?_
   iterate 4 refine qj A rfl rfl rfl λa A↦?_
   refine sdk (v := bV false) A λa A↦?_
   refine sdm A λa A↦?_
   iterate 3 refine qj A rfl rfl rfl λa A↦?_
   refine sdk (v := bV false) A λa A↦?_
   refine sdm A λa A↦?_
   iterate 4 refine qj A rfl rfl rfl λa A↦?_
   refine sdk (v := bV false) A λa A↦?_
   refine sdm A λa A↦?_
   iterate 4 refine qj A rfl rfl rfl λa A↦?_
   refine sdk (v := bV false) A λa A↦?_
   refine sda A λa A↦?_
   refine qa (hK4 _ _ (wp_ret (hret _ _ (en1 A rfl (qf rfl) ?_))))
   subst hr
   exact ⟨by unfold vx; simp_all, M.bel⟩
 ·
  have hb5' := ne_of_beq_false hb5
  refine sdc A qr hb5 λa A↦?_
  refine sdm A λa A↦?_
  iterate 4 refine qj A rfl rfl rfl λa A↦?_
  refine sdk (v := bV false) A λa A↦?_
  refine sdm A λa A↦?_
  iterate 4 refine qj A rfl rfl rfl λa A↦?_
  refine sdk (v := bV false) A λa A↦?_
  refine sdm A λa A↦?_
  iterate 3 refine qj A rfl rfl rfl λa A↦?_
  refine sdk (v := bV false) A λa A↦?_
  refine sdm A λa A↦?_
  iterate 4 refine qj A rfl rfl rfl λa A↦?_
  refine sdk (v := bV false) A λa A↦?_
  refine sdm A λa A↦?_
  iterate 4 refine qj A rfl rfl rfl λa A↦?_
  refine sdk (v := bV false) A λa A↦?_
  refine sda A λa A↦?_
  refine qa (hK4 _ _ (wp_ret (hret _ _ (en1 A rfl (qf rfl) ?_))))
  subst hr
  exact ⟨by unfold vx; simp_all, M.bel⟩
theorem qne {w : World} {d : Nd} {ts : List Dt} (hok : NdOk w d) (hT : Tabs8 w) : Calls Tryz.prog 76 #[.agg (d.cells ts.length).toArray] w fun e w' => e = .returned (bV (jp d.k d.n d.y.q d.s d.rl.length ts.length)) ∧ Below w.heap.size w w' := by
 have hq1 := hok.len.l1
 have hq2 := hok.len.l2
 have hq3 := hok.len.l3
 have hq4 := hok.len.l4
 have M : Mg w w ([]) := Mg.start w
 refine qs (l := [(0, .agg (d.cells ts.length).toArray)]) Tryz.func76 rfl Tryz.ntmps76 rfl rfl ?_
 intro Q hret hnorm hP a A
 refine wsk fun K1 hK1 => wrl (zy (vs := [iV d.k, iV d.n, bV d.y.q.b1, .slice d.y.o1 d.y.q.t1.length d.y.c1, .slice d.y.o2 d.y.q.q1.length d.y.c2, bV d.y.q.b2, .slice d.y.o3 d.y.q.t2.length d.y.c3, .slice d.y.o4 d.y.q.q2.length d.y.c4, .string d.s, .slice d.ro d.rl.length d.rc, .slice d.lo ts.length d.lc]) (t := 42) A M rfl rfl rfl pg (zf rfl rfl) (by decide) ?_)
 intro g2 w3 M a A
 refine sda A λa A↦?_
 refine qa (hK1 _ _ (wsk fun K4 hK4 => wrl (sda A λa A↦?_)))
 refine qa (hK4 _ _ (wsk fun K5 hK5 => ?_))
 have hJ6 : ∀ a w1, (∃ (ok : Bool) (z1 : Int) (z2 : Bool) (y1 : Option Addr) (m1 : Nat) (e1 : Nat) (y2 : Option Addr) (m2 : Nat) (e2 : Nat) (z3 : Bool) (y3 : Option Addr) (m3 : Nat) (e3 : Nat) (y4 : Option Addr) (m4 : Nat) (e4 : Nat) (zs : ByteArray) (yr : Option Addr) (mr : Nat) (er : Nat) (yl : Option Addr) (ml : Nat) (el : Nat), (jp d.k d.n d.y.q d.s d.rl.length ts.length = (ok && vx z1 z2 m1 m2 z3 m3 m4 zs mr ml) ∧ m1 ≤ 9223372036854775807 ∧ m2 ≤ 9223372036854775807 ∧ m3 ≤ 9223372036854775807 ∧ m4 ≤ 9223372036854775807) ∧ Sl a 59 [(0, .agg (d.cells ts.length).toArray), (1, pA g2 0), (2, bV false), (3, bV ok)] ∧ Mg w w1 (.obj g2 (.cells #[iV d.k, iV z1, bV z2, .slice y1 m1 e1, .slice y2 m2 e2, bV z3, .slice y3 m3 e3, .slice y4 m4 e4, .string zs, .slice yr mr er, .slice yl ml el] 42) :: [])) → K5 a w1 := by
  clear A M
  rintro a w7 ⟨ok, z1, z2, y1, m1, e1, y2, m2, e2, z3, y3, m3, e3, y4, m4, e4, zs, yr, mr, er, yl, ml, el, hf8, A, M⟩
  obtain ⟨hsh, hq1, hq2, hq3, hq4⟩ := hf8
  refine hK5 _ _ (wsk fun K9 hK9 => wrl ?_)
  iterate 2 refine sdm A λa A↦?_
  rcases ok with _ | _
  ·
   iterate 2 refine qj A rfl rfl rfl λa A↦?_
   refine sdk (v := bV false) A λa A↦?_
   refine sda A λa A↦?_
   refine qa (hK9 _ _ (wp_ret (hret _ _ (en1 A rfl (qf rfl) ?_))))
   exact ⟨by rw [hsh]; rfl, M.bel⟩
  ·
   refine sdo A (qz M xz rfl 0 rfl (cs := [iV d.k, iV z1, bV z2, .slice y1 m1 e1, .slice y2 m2 e2, bV z3, .slice y3 m3 e3, .slice y4 m4 e4, .string zs, .slice yr mr er, .slice yl ml el]) rfl rfl) λa A↦?_
   refine gcl A M (ef rfl rfl) (zoj (by first | exact hq1 | omega) (by first | exact hq2 | omega) (by first | exact hq3 | omega) (by first | exact hq4 | omega) rfl) fun w11 hb10 M a A => ?_
   refine sdo (v := bV (vx z1 z2 m1 m2 z3 m3 m4 zs mr ml)) A (jc rfl rfl rfl rfl) λa A↦?_
   refine sda A λa A↦?_
   refine qa (hK9 _ _ (wp_ret (hret _ _ (en1 A rfl (qf rfl) ?_))))
   exact ⟨by rw [hsh]; rfl, M.bel⟩
 refine wsk fun K12 hK12 => wrl (sdo (v := pA g2 0) A (qb vg rfl rfl) λa A↦?_)
 refine sdo A (qh M o93 rfl 0 rfl rfl) λa A↦?_
 refine qa (hK12 _ _ (wp_block (wsk fun K13 hK13 => wsk fun K14 hK14 => wrl ?_)))
 rcases tf ((d.k == 1)) with hb15 | hb15
 ·
  have hb15' := eq_of_beq hb15
  refine sdc A qr hb15 λa A↦?_
  refine sda A λa A↦?_
  refine qa (hK14 _ _ (wp_cond_true (A.ev rfl) ?_))
  refine wp_skip (hK13 _ _ (wp_cond_true (A.ev rfl) ?_))
  refine wp_skip ?_
  exact hJ6 _ _ ⟨true, d.n, d.y.q.b1, d.y.o1, d.y.q.t1.length, d.y.c1, d.y.o2, d.y.q.q1.length, d.y.c2, d.y.q.b2, d.y.o3, d.y.q.t2.length, d.y.c3, d.y.o4, d.y.q.q2.length, d.y.c4, d.s, d.ro, d.rl.length, d.rc, d.lo, ts.length, d.lc, ⟨by
   unfold jp
   repeat (first | rw [if_pos (by omega)] | rw [if_neg (by omega)])
   first | rfl, by first | exact hq1 | decide, by first | exact hq2 | decide, by first | exact hq3 | decide, by first | exact hq4 | decide⟩, A.keep _ ⟨rfl, rfl, rfl, rfl, trivial⟩, M⟩
 ·
  have hb15' := ne_of_beq_false hb15
  refine sdc A qr hb15 λa A↦?_
  refine sda A λa A↦?_
  refine qa (hK14 _ _ (wp_cond_false (A.ev rfl) ?_))
  refine wrl ?_
  rcases tf ((d.k == 10)) with hb16 | hb16
  ·
   have hb16' := eq_of_beq hb16
   refine sdc A qr hb16 λa A↦?_
   refine sda A λa A↦?_
   refine qa (hK13 _ _ (wp_cond_true (A.ev rfl) ?_))
   refine wp_skip ?_
   exact hJ6 _ _ ⟨true, d.n, d.y.q.b1, d.y.o1, d.y.q.t1.length, d.y.c1, d.y.o2, d.y.q.q1.length, d.y.c2, d.y.q.b2, d.y.o3, d.y.q.t2.length, d.y.c3, d.y.o4, d.y.q.q2.length, d.y.c4, d.s, d.ro, d.rl.length, d.rc, d.lo, ts.length, d.lc, ⟨by
    unfold jp
    repeat (first | rw [if_pos (by omega)] | rw [if_neg (by omega)])
    first | rfl, by first | exact hq1 | decide, by first | exact hq2 | decide, by first | exact hq3 | decide, by first | exact hq4 | decide⟩, A.keep _ ⟨rfl, rfl, rfl, rfl, trivial⟩, M⟩
  ·
   have hb16' := ne_of_beq_false hb16
   refine sdc A qr hb16 λa A↦?_
   refine sda A λa A↦?_
   refine qa (hK13 _ _ (wp_cond_false (A.ev rfl) ?_))
   refine wsk fun K17 hK17 => wrl ?_
   rcases tf ((d.k == 2)) with hb18 | hb18
   ·
    have hb18' := eq_of_beq hb18
    refine sdc A qr hb18 λa A↦?_
    refine sda A λa A↦?_
    refine qa (hK17 _ _ (wp_cond_true (A.ev rfl) ?_))
    refine wrl (sdo (v := pA g2 1) A (qb xy rfl rfl) λa A↦?_)
    refine sdo A (qh M o93 rfl 0 rfl rfl) λa A↦?_
    rcases tf ((d.n == 0)) with hb19 | hb19
    ·
     have hb19' := eq_of_beq hb19
     refine sdc A qr hb19 λa A↦?_
     refine sdm A λa A↦?_
     iterate 3 refine qj A rfl rfl rfl λa A↦?_
     refine sdk (v := bV true) A λa A↦?_
     refine sda A λa A↦?_
     refine sdo (v := pA g2 1) A (qb xy rfl rfl) λa A↦?_
     refine zq (L' := (.obj g2 (.cells #[iV d.k, iV 0, bV d.y.q.b1, .slice d.y.o1 d.y.q.t1.length d.y.c1, .slice d.y.o2 d.y.q.q1.length d.y.c2, bV d.y.q.b2, .slice d.y.o3 d.y.q.t2.length d.y.c3, .slice d.y.o4 d.y.q.q2.length d.y.c4, .string d.s, .slice d.ro d.rl.length d.rc, .slice d.lo ts.length d.lc] 42) :: [])) A M rfl rfl (za rfl rfl rfl (by kernel_rfl) M 0 rfl rfl rfl) 0 rfl rfl rfl ?_
     intro w20 M
     refine qa ?_
     exact hJ6 _ _ ⟨true, 0, d.y.q.b1, d.y.o1, d.y.q.t1.length, d.y.c1, d.y.o2, d.y.q.q1.length, d.y.c2, d.y.q.b2, d.y.o3, d.y.q.t2.length, d.y.c3, d.y.o4, d.y.q.q2.length, d.y.c4, d.s, d.ro, d.rl.length, d.rc, d.lo, ts.length, d.lc, ⟨by
      unfold jp
      repeat (first | rw [if_pos (by omega)] | rw [if_neg (by omega)])
      first | rfl | (rw [decide_eq_true (show (d.n = 0 ∨ d.n = 1) by omega)]), by first | exact hq1 | decide, by first | exact hq2 | decide, by first | exact hq3 | decide, by first | exact hq4 | decide⟩, A.keep _ ⟨rfl, rfl, rfl, rfl, trivial⟩, M⟩
    ·
     have hb19' := ne_of_beq_false hb19
     refine sdc A qr hb19 λa A↦?_
     refine sdm A λa A↦?_
     refine sdo (v := pA g2 1) A (qb xy rfl rfl) λa A↦?_
     refine sdo A (qh M o93 rfl 0 rfl rfl) λa A↦?_
     rcases tf ((d.n == 1)) with hb21 | hb21
     ·
      have hb21' := eq_of_beq hb21
      refine sdc A qr hb21 λa A↦?_
      refine sdk (v := bV true) A λa A↦?_
      refine sda A λa A↦?_
      refine sdo (v := pA g2 1) A (qb xy rfl rfl) λa A↦?_
      refine zq (L' := (.obj g2 (.cells #[iV d.k, iV 0, bV d.y.q.b1, .slice d.y.o1 d.y.q.t1.length d.y.c1, .slice d.y.o2 d.y.q.q1.length d.y.c2, bV d.y.q.b2, .slice d.y.o3 d.y.q.t2.length d.y.c3, .slice d.y.o4 d.y.q.q2.length d.y.c4, .string d.s, .slice d.ro d.rl.length d.rc, .slice d.lo ts.length d.lc] 42) :: [])) A M rfl rfl (za rfl rfl rfl (by kernel_rfl) M 0 rfl rfl rfl) 0 rfl rfl rfl ?_
      intro w22 M
      refine qa ?_
      exact hJ6 _ _ ⟨true, 0, d.y.q.b1, d.y.o1, d.y.q.t1.length, d.y.c1, d.y.o2, d.y.q.q1.length, d.y.c2, d.y.q.b2, d.y.o3, d.y.q.t2.length, d.y.c3, d.y.o4, d.y.q.q2.length, d.y.c4, d.s, d.ro, d.rl.length, d.rc, d.lo, ts.length, d.lc, ⟨by
       unfold jp
       repeat (first | rw [if_pos (by omega)] | rw [if_neg (by omega)])
       first | rfl | (rw [decide_eq_true (show (d.n = 0 ∨ d.n = 1) by omega)]), by first | exact hq1 | decide, by first | exact hq2 | decide, by first | exact hq3 | decide, by first | exact hq4 | decide⟩, A.keep _ ⟨rfl, rfl, rfl, rfl, trivial⟩, M⟩
     ·
      have hb21' := ne_of_beq_false hb21
      refine sdc A qr hb21 λa A↦?_
      refine sdk (v := bV false) A λa A↦?_
      refine sda A λa A↦?_
      refine sdo (v := pA g2 1) A (qb xy rfl rfl) λa A↦?_
      refine zq (L' := (.obj g2 (.cells #[iV d.k, iV 0, bV d.y.q.b1, .slice d.y.o1 d.y.q.t1.length d.y.c1, .slice d.y.o2 d.y.q.q1.length d.y.c2, bV d.y.q.b2, .slice d.y.o3 d.y.q.t2.length d.y.c3, .slice d.y.o4 d.y.q.q2.length d.y.c4, .string d.s, .slice d.ro d.rl.length d.rc, .slice d.lo ts.length d.lc] 42) :: [])) A M rfl rfl (za rfl rfl rfl (by kernel_rfl) M 0 rfl rfl rfl) 0 rfl rfl rfl ?_
      intro w23 M
      refine qa ?_
      exact hJ6 _ _ ⟨false, 0, d.y.q.b1, d.y.o1, d.y.q.t1.length, d.y.c1, d.y.o2, d.y.q.q1.length, d.y.c2, d.y.q.b2, d.y.o3, d.y.q.t2.length, d.y.c3, d.y.o4, d.y.q.q2.length, d.y.c4, d.s, d.ro, d.rl.length, d.rc, d.lo, ts.length, d.lc, ⟨by
       unfold jp
       repeat (first | rw [if_pos (by omega)] | rw [if_neg (by omega)])
       first | rfl | (rw [decide_eq_false (show ¬ (d.n = 0 ∨ d.n = 1) by omega)]), by first | exact hq1 | decide, by first | exact hq2 | decide, by first | exact hq3 | decide, by first | exact hq4 | decide⟩, A.keep _ ⟨rfl, rfl, rfl, rfl, trivial⟩, M⟩
   ·
    have hb18' := ne_of_beq_false hb18
    refine sdc A qr hb18 λa A↦?_
    refine sda A λa A↦?_
    refine qa (hK17 _ _ (wp_cond_false (A.ev rfl) ?_))
    refine wsk fun K24 hK24 => wrl ?_
    rcases tf ((d.k == 3)) with hb25 | hb25
    ·
     have hb25' := eq_of_beq hb25
     refine sdc A qr hb25 λa A↦?_
     refine sda A λa A↦?_
     refine qa (hK24 _ _ (wp_cond_true (A.ev rfl) ?_))
     refine wrl (sdo (v := pA g2 2) A (qb kx rfl rfl) λa A↦?_)
     refine sdo A (qz M ztj rfl 0 rfl (cs := [bV d.y.q.b1, .slice d.y.o1 d.y.q.t1.length d.y.c1, .slice d.y.o2 d.y.q.q1.length d.y.c2, bV d.y.q.b2, .slice d.y.o3 d.y.q.t2.length d.y.c3, .slice d.y.o4 d.y.q.q2.length d.y.c4]) rfl rfl) λa A↦?_
     rcases tf (vw d.y.q) with hb26 | hb26
     ·
      refine gcl A M (ef rfl rfl) (qlb (Nu.below hok.num M.bel) hok.len hb26) fun w28 hb27 M a A => ?_
      refine sdo (v := .agg #[bV false, .slice none 0 0, .slice none 0 0, bV false, .slice none 0 0, .slice none 0 0]) A (jb rfl (fun w => by kernel_rfl)) λa A↦?_
      refine sda A λa A↦?_
      refine sdo (v := pA g2 2) A (qb kx rfl rfl) λa A↦?_
      refine zq (L' := (.obj g2 (.cells #[iV d.k, iV d.n, bV false, .slice none 0 0, .slice none 0 0, bV false, .slice none 0 0, .slice none 0 0, .string d.s, .slice d.ro d.rl.length d.rc, .slice d.lo ts.length d.lc] 42) :: [])) A M rfl rfl (za rfl rfl rfl (by kernel_rfl) M 0 rfl rfl rfl) 0 rfl rfl rfl ?_
      intro w29 M
      refine qa ?_
      exact hJ6 _ _ ⟨true, d.n, false, none, 0, 0, none, 0, 0, false, none, 0, 0, none, 0, 0, d.s, d.ro, d.rl.length, d.rc, d.lo, ts.length, d.lc, ⟨by
       unfold jp
       repeat (first | rw [if_pos (by omega)] | rw [if_neg (by omega)])
       first | rfl | rw [hb26], by first | exact hq1 | decide, by first | exact hq2 | decide, by first | exact hq3 | decide, by first | exact hq4 | decide⟩, A.keep _ ⟨rfl, rfl, rfl, rfl, trivial⟩, M⟩
     ·
      refine gcl A M (ef rfl rfl) (qlb (Nu.below hok.num M.bel) hok.len hb26) fun w31 hb30 M a A => ?_
      refine sdo (v := .agg #[bV false, .slice none 0 0, .slice none 0 0, bV false, .slice none 0 0, .slice none 0 0]) A (jb rfl (fun w => by kernel_rfl)) λa A↦?_
      refine sda A λa A↦?_
      refine sdo (v := pA g2 2) A (qb kx rfl rfl) λa A↦?_
      refine zq (L' := (.obj g2 (.cells #[iV d.k, iV d.n, bV false, .slice none 0 0, .slice none 0 0, bV false, .slice none 0 0, .slice none 0 0, .string d.s, .slice d.ro d.rl.length d.rc, .slice d.lo ts.length d.lc] 42) :: [])) A M rfl rfl (za rfl rfl rfl (by kernel_rfl) M 0 rfl rfl rfl) 0 rfl rfl rfl ?_
      intro w32 M
      refine qa ?_
      exact hJ6 _ _ ⟨false, d.n, false, none, 0, 0, none, 0, 0, false, none, 0, 0, none, 0, 0, d.s, d.ro, d.rl.length, d.rc, d.lo, ts.length, d.lc, ⟨by
       unfold jp
       repeat (first | rw [if_pos (by omega)] | rw [if_neg (by omega)])
       first | rfl | rw [hb26], by first | exact hq1 | decide, by first | exact hq2 | decide, by first | exact hq3 | decide, by first | exact hq4 | decide⟩, A.keep _ ⟨rfl, rfl, rfl, rfl, trivial⟩, M⟩
    ·
     have hb25' := ne_of_beq_false hb25
     refine sdc A qr hb25 λa A↦?_
     refine sda A λa A↦?_
     refine qa (hK24 _ _ (wp_cond_false (A.ev rfl) ?_))
     refine wsk fun K33 hK33 => wrl ?_
     rcases tf ((d.k == 4)) with hb34 | hb34
     ·
      have hb34' := eq_of_beq hb34
      refine sdc A qr hb34 λa A↦?_
      refine sda A λa A↦?_
      refine qa (hK33 _ _ (wp_cond_true (A.ev rfl) ?_))
      refine wrl (sdo (v := pA g2 1) A (qb xy rfl rfl) λa A↦?_)
      refine sdo A (qh M o93 rfl 0 rfl rfl) λa A↦?_
      rcases tf (kt d.n) with hb35 | hb35
      ·
       refine gcl A M (ef rfl rfl) ((hb35 ▸ qyd)) fun w37 hb36 M a A => ?_
       refine sda A λa A↦?_
       refine sdo (v := pA g2 1) A (qb xy rfl rfl) λa A↦?_
       refine zq (L' := (.obj g2 (.cells #[iV d.k, iV 0, bV d.y.q.b1, .slice d.y.o1 d.y.q.t1.length d.y.c1, .slice d.y.o2 d.y.q.q1.length d.y.c2, bV d.y.q.b2, .slice d.y.o3 d.y.q.t2.length d.y.c3, .slice d.y.o4 d.y.q.q2.length d.y.c4, .string d.s, .slice d.ro d.rl.length d.rc, .slice d.lo ts.length d.lc] 42) :: [])) A M rfl rfl (za rfl rfl rfl (by kernel_rfl) M 0 rfl rfl rfl) 0 rfl rfl rfl ?_
       intro w38 M
       refine qa ?_
       exact hJ6 _ _ ⟨true, 0, d.y.q.b1, d.y.o1, d.y.q.t1.length, d.y.c1, d.y.o2, d.y.q.q1.length, d.y.c2, d.y.q.b2, d.y.o3, d.y.q.t2.length, d.y.c3, d.y.o4, d.y.q.q2.length, d.y.c4, d.s, d.ro, d.rl.length, d.rc, d.lo, ts.length, d.lc, ⟨by
        unfold jp
        repeat (first | rw [if_pos (by omega)] | rw [if_neg (by omega)])
        first | rfl | rw [hb35], by first | exact hq1 | decide, by first | exact hq2 | decide, by first | exact hq3 | decide, by first | exact hq4 | decide⟩, A.keep _ ⟨rfl, rfl, rfl, rfl, trivial⟩, M⟩
      ·
       refine gcl A M (ef rfl rfl) ((hb35 ▸ qyd)) fun w40 hb39 M a A => ?_
       refine sda A λa A↦?_
       refine sdo (v := pA g2 1) A (qb xy rfl rfl) λa A↦?_
       refine zq (L' := (.obj g2 (.cells #[iV d.k, iV 0, bV d.y.q.b1, .slice d.y.o1 d.y.q.t1.length d.y.c1, .slice d.y.o2 d.y.q.q1.length d.y.c2, bV d.y.q.b2, .slice d.y.o3 d.y.q.t2.length d.y.c3, .slice d.y.o4 d.y.q.q2.length d.y.c4, .string d.s, .slice d.ro d.rl.length d.rc, .slice d.lo ts.length d.lc] 42) :: [])) A M rfl rfl (za rfl rfl rfl (by kernel_rfl) M 0 rfl rfl rfl) 0 rfl rfl rfl ?_
       intro w41 M
       refine qa ?_
       exact hJ6 _ _ ⟨false, 0, d.y.q.b1, d.y.o1, d.y.q.t1.length, d.y.c1, d.y.o2, d.y.q.q1.length, d.y.c2, d.y.q.b2, d.y.o3, d.y.q.t2.length, d.y.c3, d.y.o4, d.y.q.q2.length, d.y.c4, d.s, d.ro, d.rl.length, d.rc, d.lo, ts.length, d.lc, ⟨by
        unfold jp
        repeat (first | rw [if_pos (by omega)] | rw [if_neg (by omega)])
        first | rfl | rw [hb35], by first | exact hq1 | decide, by first | exact hq2 | decide, by first | exact hq3 | decide, by first | exact hq4 | decide⟩, A.keep _ ⟨rfl, rfl, rfl, rfl, trivial⟩, M⟩
     ·
      have hb34' := ne_of_beq_false hb34
      refine sdc A qr hb34 λa A↦?_
      refine sda A λa A↦?_
      refine qa (hK33 _ _ (wp_cond_false (A.ev rfl) ?_))
      refine wsk fun K42 hK42 => wsk fun K43 hK43 => wrl ?_
      rcases tf ((d.k == 5)) with hb44 | hb44
      ·
       have hb44' := eq_of_beq hb44
       refine sdc A qr hb44 λa A↦?_
       refine sda A λa A↦?_
       refine qa (hK43 _ _ (wp_cond_true (A.ev rfl) ?_))
       refine wp_skip (hK42 _ _ (wp_cond_true (A.ev rfl) ?_))
       refine wrl (sdo (v := pA g2 8) A (qb vl rfl rfl) λa A↦?_)
       refine sdo A (qh M o99 rfl 0 rfl rfl) λa A↦?_
       rcases tf (okS d.s) with hb45 | hb45
       ·
        refine gcl A M (ef rfl rfl) (ym hok.smax (hT.below M.bel) hb45) fun w47 hb46 M a A => ?_
        refine sda A λa A↦?_
        refine sdo (v := pA g2 8) A (qb vl rfl rfl) λa A↦?_
        refine zq (L' := (.obj g2 (.cells #[iV d.k, iV d.n, bV d.y.q.b1, .slice d.y.o1 d.y.q.t1.length d.y.c1, .slice d.y.o2 d.y.q.q1.length d.y.c2, bV d.y.q.b2, .slice d.y.o3 d.y.q.t2.length d.y.c3, .slice d.y.o4 d.y.q.q2.length d.y.c4, .string (⟨#[]⟩), .slice d.ro d.rl.length d.rc, .slice d.lo ts.length d.lc] 42) :: [])) A M rfl rfl (za rfl rfl rfl (by kernel_rfl) M 0 rfl rfl rfl) 0 rfl rfl rfl ?_
        intro w48 M
        refine qa ?_
        exact hJ6 _ _ ⟨true, d.n, d.y.q.b1, d.y.o1, d.y.q.t1.length, d.y.c1, d.y.o2, d.y.q.q1.length, d.y.c2, d.y.q.b2, d.y.o3, d.y.q.t2.length, d.y.c3, d.y.o4, d.y.q.q2.length, d.y.c4, ⟨#[]⟩, d.ro, d.rl.length, d.rc, d.lo, ts.length, d.lc, ⟨by
         unfold jp
         repeat (first | rw [if_pos (by omega)] | rw [if_neg (by omega)])
         first | rfl | rw [hb45], by first | exact hq1 | decide, by first | exact hq2 | decide, by first | exact hq3 | decide, by first | exact hq4 | decide⟩, A.keep _ ⟨rfl, rfl, rfl, rfl, trivial⟩, M⟩
       ·
        refine gcl A M (ef rfl rfl) (ym hok.smax (hT.below M.bel) hb45) fun w50 hb49 M a A => ?_
        refine sda A λa A↦?_
        refine sdo (v := pA g2 8) A (qb vl rfl rfl) λa A↦?_
        refine zq (L' := (.obj g2 (.cells #[iV d.k, iV d.n, bV d.y.q.b1, .slice d.y.o1 d.y.q.t1.length d.y.c1, .slice d.y.o2 d.y.q.q1.length d.y.c2, bV d.y.q.b2, .slice d.y.o3 d.y.q.t2.length d.y.c3, .slice d.y.o4 d.y.q.q2.length d.y.c4, .string (⟨#[]⟩), .slice d.ro d.rl.length d.rc, .slice d.lo ts.length d.lc] 42) :: [])) A M rfl rfl (za rfl rfl rfl (by kernel_rfl) M 0 rfl rfl rfl) 0 rfl rfl rfl ?_
        intro w51 M
        refine qa ?_
        exact hJ6 _ _ ⟨false, d.n, d.y.q.b1, d.y.o1, d.y.q.t1.length, d.y.c1, d.y.o2, d.y.q.q1.length, d.y.c2, d.y.q.b2, d.y.o3, d.y.q.t2.length, d.y.c3, d.y.o4, d.y.q.q2.length, d.y.c4, ⟨#[]⟩, d.ro, d.rl.length, d.rc, d.lo, ts.length, d.lc, ⟨by
         unfold jp
         repeat (first | rw [if_pos (by omega)] | rw [if_neg (by omega)])
         first | rfl | rw [hb45], by first | exact hq1 | decide, by first | exact hq2 | decide, by first | exact hq3 | decide, by first | exact hq4 | decide⟩, A.keep _ ⟨rfl, rfl, rfl, rfl, trivial⟩, M⟩
      ·
       have hb44' := ne_of_beq_false hb44
       refine sdc A qr hb44 λa A↦?_
       refine sda A λa A↦?_
       refine qa (hK43 _ _ (wp_cond_false (A.ev rfl) ?_))
       refine wsk fun K52 hK52 => wrl ?_
       rcases tf ((d.k == 6)) with hb53 | hb53
       ·
        have hb53' := eq_of_beq hb53
        refine sdc A qr hb53 λa A↦?_
        refine sda A λa A↦?_
        refine qa (hK52 _ _ (wp_cond_true (A.ev rfl) ?_))
        refine wp_skip (hK42 _ _ (wp_cond_true (A.ev rfl) ?_))
        refine wrl (sdo (v := pA g2 8) A (qb vl rfl rfl) λa A↦?_)
        refine sdo A (qh M o99 rfl 0 rfl rfl) λa A↦?_
        rcases tf (okS d.s) with hb54 | hb54
        ·
         refine gcl A M (ef rfl rfl) (ym hok.smax (hT.below M.bel) hb54) fun w56 hb55 M a A => ?_
         refine sda A λa A↦?_
         refine sdo (v := pA g2 8) A (qb vl rfl rfl) λa A↦?_
         refine zq (L' := (.obj g2 (.cells #[iV d.k, iV d.n, bV d.y.q.b1, .slice d.y.o1 d.y.q.t1.length d.y.c1, .slice d.y.o2 d.y.q.q1.length d.y.c2, bV d.y.q.b2, .slice d.y.o3 d.y.q.t2.length d.y.c3, .slice d.y.o4 d.y.q.q2.length d.y.c4, .string (⟨#[]⟩), .slice d.ro d.rl.length d.rc, .slice d.lo ts.length d.lc] 42) :: [])) A M rfl rfl (za rfl rfl rfl (by kernel_rfl) M 0 rfl rfl rfl) 0 rfl rfl rfl ?_
         intro w57 M
         refine qa ?_
         exact hJ6 _ _ ⟨true, d.n, d.y.q.b1, d.y.o1, d.y.q.t1.length, d.y.c1, d.y.o2, d.y.q.q1.length, d.y.c2, d.y.q.b2, d.y.o3, d.y.q.t2.length, d.y.c3, d.y.o4, d.y.q.q2.length, d.y.c4, ⟨#[]⟩, d.ro, d.rl.length, d.rc, d.lo, ts.length, d.lc, ⟨by
          unfold jp
          repeat (first | rw [if_pos (by omega)] | rw [if_neg (by omega)])
          first | rfl | rw [hb54], by first | exact hq1 | decide, by first | exact hq2 | decide, by first | exact hq3 | decide, by first | exact hq4 | decide⟩, A.keep _ ⟨rfl, rfl, rfl, rfl, trivial⟩, M⟩
        ·
         refine gcl A M (ef rfl rfl) (ym hok.smax (hT.below M.bel) hb54) fun w59 hb58 M a A => ?_
         refine sda A λa A↦?_
         refine sdo (v := pA g2 8) A (qb vl rfl rfl) λa A↦?_
         refine zq (L' := (.obj g2 (.cells #[iV d.k, iV d.n, bV d.y.q.b1, .slice d.y.o1 d.y.q.t1.length d.y.c1, .slice d.y.o2 d.y.q.q1.length d.y.c2, bV d.y.q.b2, .slice d.y.o3 d.y.q.t2.length d.y.c3, .slice d.y.o4 d.y.q.q2.length d.y.c4, .string (⟨#[]⟩), .slice d.ro d.rl.length d.rc, .slice d.lo ts.length d.lc] 42) :: [])) A M rfl rfl (za rfl rfl rfl (by kernel_rfl) M 0 rfl rfl rfl) 0 rfl rfl rfl ?_
         intro w60 M
         refine qa ?_
         exact hJ6 _ _ ⟨false, d.n, d.y.q.b1, d.y.o1, d.y.q.t1.length, d.y.c1, d.y.o2, d.y.q.q1.length, d.y.c2, d.y.q.b2, d.y.o3, d.y.q.t2.length, d.y.c3, d.y.o4, d.y.q.q2.length, d.y.c4, ⟨#[]⟩, d.ro, d.rl.length, d.rc, d.lo, ts.length, d.lc, ⟨by
          unfold jp
          repeat (first | rw [if_pos (by omega)] | rw [if_neg (by omega)])
          first | rfl | rw [hb54], by first | exact hq1 | decide, by first | exact hq2 | decide, by first | exact hq3 | decide, by first | exact hq4 | decide⟩, A.keep _ ⟨rfl, rfl, rfl, rfl, trivial⟩, M⟩
       ·
        have hb53' := ne_of_beq_false hb53
        refine sdc A qr hb53 λa A↦?_
        refine sda A λa A↦?_
        refine qa (hK52 _ _ (wp_cond_false (A.ev rfl) ?_))
        refine wrl ?_
        rcases tf ((d.k == 11)) with hb61 | hb61
        ·
         have hb61' := eq_of_beq hb61
         refine sdc A qr hb61 λa A↦?_
         refine sda A λa A↦?_
         refine qa (hK42 _ _ (wp_cond_true (A.ev rfl) ?_))
         refine wrl (sdo (v := pA g2 8) A (qb vl rfl rfl) λa A↦?_)
         refine sdo A (qh M o99 rfl 0 rfl rfl) λa A↦?_
         rcases tf (okS d.s) with hb62 | hb62
         ·
          refine gcl A M (ef rfl rfl) (ym hok.smax (hT.below M.bel) hb62) fun w64 hb63 M a A => ?_
          refine sda A λa A↦?_
          refine sdo (v := pA g2 8) A (qb vl rfl rfl) λa A↦?_
          refine zq (L' := (.obj g2 (.cells #[iV d.k, iV d.n, bV d.y.q.b1, .slice d.y.o1 d.y.q.t1.length d.y.c1, .slice d.y.o2 d.y.q.q1.length d.y.c2, bV d.y.q.b2, .slice d.y.o3 d.y.q.t2.length d.y.c3, .slice d.y.o4 d.y.q.q2.length d.y.c4, .string (⟨#[]⟩), .slice d.ro d.rl.length d.rc, .slice d.lo ts.length d.lc] 42) :: [])) A M rfl rfl (za rfl rfl rfl (by kernel_rfl) M 0 rfl rfl rfl) 0 rfl rfl rfl ?_
          intro w65 M
          refine qa ?_
          exact hJ6 _ _ ⟨true, d.n, d.y.q.b1, d.y.o1, d.y.q.t1.length, d.y.c1, d.y.o2, d.y.q.q1.length, d.y.c2, d.y.q.b2, d.y.o3, d.y.q.t2.length, d.y.c3, d.y.o4, d.y.q.q2.length, d.y.c4, ⟨#[]⟩, d.ro, d.rl.length, d.rc, d.lo, ts.length, d.lc, ⟨by
           unfold jp
           repeat (first | rw [if_pos (by omega)] | rw [if_neg (by omega)])
           first | rfl | rw [hb62], by first | exact hq1 | decide, by first | exact hq2 | decide, by first | exact hq3 | decide, by first | exact hq4 | decide⟩, A.keep _ ⟨rfl, rfl, rfl, rfl, trivial⟩, M⟩
         ·
          refine gcl A M (ef rfl rfl) (ym hok.smax (hT.below M.bel) hb62) fun w67 hb66 M a A => ?_
          refine sda A λa A↦?_
          refine sdo (v := pA g2 8) A (qb vl rfl rfl) λa A↦?_
          refine zq (L' := (.obj g2 (.cells #[iV d.k, iV d.n, bV d.y.q.b1, .slice d.y.o1 d.y.q.t1.length d.y.c1, .slice d.y.o2 d.y.q.q1.length d.y.c2, bV d.y.q.b2, .slice d.y.o3 d.y.q.t2.length d.y.c3, .slice d.y.o4 d.y.q.q2.length d.y.c4, .string (⟨#[]⟩), .slice d.ro d.rl.length d.rc, .slice d.lo ts.length d.lc] 42) :: [])) A M rfl rfl (za rfl rfl rfl (by kernel_rfl) M 0 rfl rfl rfl) 0 rfl rfl rfl ?_
          intro w68 M
          refine qa ?_
          exact hJ6 _ _ ⟨false, d.n, d.y.q.b1, d.y.o1, d.y.q.t1.length, d.y.c1, d.y.o2, d.y.q.q1.length, d.y.c2, d.y.q.b2, d.y.o3, d.y.q.t2.length, d.y.c3, d.y.o4, d.y.q.q2.length, d.y.c4, ⟨#[]⟩, d.ro, d.rl.length, d.rc, d.lo, ts.length, d.lc, ⟨by
           unfold jp
           repeat (first | rw [if_pos (by omega)] | rw [if_neg (by omega)])
           first | rfl | rw [hb62], by first | exact hq1 | decide, by first | exact hq2 | decide, by first | exact hq3 | decide, by first | exact hq4 | decide⟩, A.keep _ ⟨rfl, rfl, rfl, rfl, trivial⟩, M⟩
        ·
         have hb61' := ne_of_beq_false hb61
         refine sdc A qr hb61 λa A↦?_
         refine sda A λa A↦?_
         refine qa (hK42 _ _ (wp_cond_false (A.ev rfl) ?_))
         refine wsk fun K69 hK69 => wrl ?_
         rcases tf ((d.k == 7)) with hb70 | hb70
         ·
          have hb70' := eq_of_beq hb70
          refine sdc A qr hb70 λa A↦?_
          refine sda A λa A↦?_
          refine qa (hK69 _ _ (wp_cond_true (A.ev rfl) ?_))
          refine wrl (sdo (v := pA g2 9) A (qb qab rfl rfl) λa A↦?_)
          refine zq (L' := (.obj g2 (.cells #[iV d.k, iV d.n, bV d.y.q.b1, .slice d.y.o1 d.y.q.t1.length d.y.c1, .slice d.y.o2 d.y.q.q1.length d.y.c2, bV d.y.q.b2, .slice d.y.o3 d.y.q.t2.length d.y.c3, .slice d.y.o4 d.y.q.q2.length d.y.c4, .string d.s, .slice none 0 0, .slice d.lo ts.length d.lc] 42) :: [])) A M rfl rfl (za rfl rfl rfl (by kernel_rfl) M 0 rfl rfl rfl) 0 rfl rfl rfl ?_
          intro w71 M
          refine qa ?_
          exact hJ6 _ _ ⟨true, d.n, d.y.q.b1, d.y.o1, d.y.q.t1.length, d.y.c1, d.y.o2, d.y.q.q1.length, d.y.c2, d.y.q.b2, d.y.o3, d.y.q.t2.length, d.y.c3, d.y.o4, d.y.q.q2.length, d.y.c4, d.s, none, 0, 0, d.lo, ts.length, d.lc, ⟨by
           unfold jp
           repeat (first | rw [if_pos (by omega)] | rw [if_neg (by omega)])
           first | rfl, by first | exact hq1 | decide, by first | exact hq2 | decide, by first | exact hq3 | decide, by first | exact hq4 | decide⟩, A.keep _ ⟨rfl, rfl, rfl, rfl, trivial⟩, M⟩
         ·
          have hb70' := ne_of_beq_false hb70
          refine sdc A qr hb70 λa A↦?_
          refine sda A λa A↦?_
          refine qa (hK69 _ _ (wp_cond_false (A.ev rfl) ?_))
          refine wsk fun K72 hK72 => wrl ?_
          rcases tf ((d.k == 8)) with hb73 | hb73
          ·
           have hb73' := eq_of_beq hb73
           refine sdc A qr hb73 λa A↦?_
           refine sda A λa A↦?_
           refine qa (hK72 _ _ (wp_cond_true (A.ev rfl) ?_))
           refine wrl (sdo (v := pA g2 10) A (qb xd rfl rfl) λa A↦?_)
           refine sdo A (qh M kw rfl 0 rfl rfl) λa A↦?_
           refine sdo A (qn Tryz.underlying34 rfl) λa A↦?_
           rcases tf ((((ts.length : Nat) : Int) == 2)) with hb74 | hb74
           ·
            have hb74' := eq_of_beq hb74
            refine sdc A qr hb74 λa A↦?_
            refine sda A λa A↦?_
            refine sdo (v := pA g2 10) A (qb xd rfl rfl) λa A↦?_
            refine zq (L' := (.obj g2 (.cells #[iV d.k, iV d.n, bV d.y.q.b1, .slice d.y.o1 d.y.q.t1.length d.y.c1, .slice d.y.o2 d.y.q.q1.length d.y.c2, bV d.y.q.b2, .slice d.y.o3 d.y.q.t2.length d.y.c3, .slice d.y.o4 d.y.q.q2.length d.y.c4, .string d.s, .slice d.ro d.rl.length d.rc, .slice none 0 0] 42) :: [])) A M rfl rfl (za rfl rfl rfl (by kernel_rfl) M 0 rfl rfl rfl) 0 rfl rfl rfl ?_
            intro w75 M
            refine qa ?_
            exact hJ6 _ _ ⟨true, d.n, d.y.q.b1, d.y.o1, d.y.q.t1.length, d.y.c1, d.y.o2, d.y.q.q1.length, d.y.c2, d.y.q.b2, d.y.o3, d.y.q.t2.length, d.y.c3, d.y.o4, d.y.q.q2.length, d.y.c4, d.s, d.ro, d.rl.length, d.rc, none, 0, 0, ⟨by
             unfold jp
             repeat (first | rw [if_pos (by omega)] | rw [if_neg (by omega)])
             first | rfl | (rw [decide_eq_true (show (ts.length = 2) by omega)]), by first | exact hq1 | decide, by first | exact hq2 | decide, by first | exact hq3 | decide, by first | exact hq4 | decide⟩, A.keep _ ⟨rfl, rfl, rfl, rfl, trivial⟩, M⟩
           ·
            have hb74' := ne_of_beq_false hb74
            refine sdc A qr hb74 λa A↦?_
            refine sda A λa A↦?_
            refine sdo (v := pA g2 10) A (qb xd rfl rfl) λa A↦?_
            refine zq (L' := (.obj g2 (.cells #[iV d.k, iV d.n, bV d.y.q.b1, .slice d.y.o1 d.y.q.t1.length d.y.c1, .slice d.y.o2 d.y.q.q1.length d.y.c2, bV d.y.q.b2, .slice d.y.o3 d.y.q.t2.length d.y.c3, .slice d.y.o4 d.y.q.q2.length d.y.c4, .string d.s, .slice d.ro d.rl.length d.rc, .slice none 0 0] 42) :: [])) A M rfl rfl (za rfl rfl rfl (by kernel_rfl) M 0 rfl rfl rfl) 0 rfl rfl rfl ?_
            intro w76 M
            refine qa ?_
            exact hJ6 _ _ ⟨false, d.n, d.y.q.b1, d.y.o1, d.y.q.t1.length, d.y.c1, d.y.o2, d.y.q.q1.length, d.y.c2, d.y.q.b2, d.y.o3, d.y.q.t2.length, d.y.c3, d.y.o4, d.y.q.q2.length, d.y.c4, d.s, d.ro, d.rl.length, d.rc, none, 0, 0, ⟨by
             unfold jp
             repeat (first | rw [if_pos (by omega)] | rw [if_neg (by omega)])
             first | rfl | (rw [decide_eq_false (show ¬ (ts.length = 2) by omega)]), by first | exact hq1 | decide, by first | exact hq2 | decide, by first | exact hq3 | decide, by first | exact hq4 | decide⟩, A.keep _ ⟨rfl, rfl, rfl, rfl, trivial⟩, M⟩
          ·
           have hb73' := ne_of_beq_false hb73
           refine sdc A qr hb73 λa A↦?_
           refine sda A λa A↦?_
           refine qa (hK72 _ _ (wp_cond_false (A.ev rfl) ?_))
           refine wsk fun K77 hK77 => wrl ?_
           rcases tf ((d.k == 9)) with hb78 | hb78
           ·
            have hb78' := eq_of_beq hb78
            refine sdc A qr hb78 λa A↦?_
            refine sda A λa A↦?_
            refine qa (hK77 _ _ (wp_cond_true (A.ev rfl) ?_))
            refine wrl (sdo (v := pA g2 10) A (qb xd rfl rfl) λa A↦?_)
            refine zq (L' := (.obj g2 (.cells #[iV d.k, iV d.n, bV d.y.q.b1, .slice d.y.o1 d.y.q.t1.length d.y.c1, .slice d.y.o2 d.y.q.q1.length d.y.c2, bV d.y.q.b2, .slice d.y.o3 d.y.q.t2.length d.y.c3, .slice d.y.o4 d.y.q.q2.length d.y.c4, .string d.s, .slice d.ro d.rl.length d.rc, .slice none 0 0] 42) :: [])) A M rfl rfl (za rfl rfl rfl (by kernel_rfl) M 0 rfl rfl rfl) 0 rfl rfl rfl ?_
            intro w79 M
            refine qa ?_
            exact hJ6 _ _ ⟨true, d.n, d.y.q.b1, d.y.o1, d.y.q.t1.length, d.y.c1, d.y.o2, d.y.q.q1.length, d.y.c2, d.y.q.b2, d.y.o3, d.y.q.t2.length, d.y.c3, d.y.o4, d.y.q.q2.length, d.y.c4, d.s, d.ro, d.rl.length, d.rc, none, 0, 0, ⟨by
             unfold jp
             repeat (first | rw [if_pos (by omega)] | rw [if_neg (by omega)])
             first | rfl, by first | exact hq1 | decide, by first | exact hq2 | decide, by first | exact hq3 | decide, by first | exact hq4 | decide⟩, A.keep _ ⟨rfl, rfl, rfl, rfl, trivial⟩, M⟩
           ·
            have hb78' := ne_of_beq_false hb78
            refine sdc A qr hb78 λa A↦?_
            refine sda A λa A↦?_
            refine qa (hK77 _ _ (wp_cond_false (A.ev rfl) ?_))
            refine wrl (sda A λa A↦?_)
            refine qa ?_
            exact hJ6 _ _ ⟨false, d.n, d.y.q.b1, d.y.o1, d.y.q.t1.length, d.y.c1, d.y.o2, d.y.q.q1.length, d.y.c2, d.y.q.b2, d.y.o3, d.y.q.t2.length, d.y.c3, d.y.o4, d.y.q.q2.length, d.y.c4, d.s, d.ro, d.rl.length, d.rc, d.lo, ts.length, d.lc, ⟨by
             unfold jp
             repeat (first | rw [if_pos (by omega)] | rw [if_neg (by omega)])
             first | rfl, by first | exact hq1 | decide, by first | exact hq2 | decide, by first | exact hq3 | decide, by first | exact hq4 | decide⟩, A.keep _ ⟨rfl, rfl, rfl, rfl, trivial⟩, M⟩
theorem Mg.here {w0 w : World} {L : List Ck} (h : Mg w0 w L) (k : Nat) {g : Nat} {cs : List Value} {t : TypeId} (hk : L[k]? = some (.obj g (.cells cs.toArray t))) : Here w g 0 cs := ⟨(Array.getElem?_eq_some_iff.1 (h.obj k hk)).1, fun j v hj => by rw [Nat.zero_add]; exact h.cell k hk j hj⟩
def Through (t : Dt) : Prop := ∀ {w : World}, t.rd w → Tabs8 w → Calls Tryz.prog 63 #[.agg t.cells.toArray] w fun e w' => e = .returned (bV (qdi zx t.tr)) ∧ Below w.heap.size w w'
theorem qij : ∀ t : Dt, Through t := Dt.indT fun d ts ih => by
 intro w hrd hT
 have hok := (Dt.rd_iff.1 hrd)
 have hlen : ts.length ≤ 9223372036854775807 := Nat.le_trans hok.2.1 hok.2.2.1
 have M : Mg w w ([]) := Mg.start w
 refine qs (l := [(0, .agg (d.cells ts.length).toArray)]) Tryz.func63 rfl Tryz.ntmps63 rfl rfl ?_
 intro Q hret hnorm hP a A
 refine wsk fun K1 hK1 => wrl (zy (vs := [iV d.k, iV d.n, bV d.y.q.b1, .slice d.y.o1 d.y.q.t1.length d.y.c1, .slice d.y.o2 d.y.q.q1.length d.y.c2, bV d.y.q.b2, .slice d.y.o3 d.y.q.t2.length d.y.c3, .slice d.y.o4 d.y.q.q2.length d.y.c4, .string d.s, .slice d.ro d.rl.length d.rc, .slice d.lo ts.length d.lc]) (t := 42) A M rfl rfl rfl pg (zf rfl rfl) (by decide) ?_)
 intro g2 w3 M a A
 refine sda A λa A↦?_
 refine qa (hK1 _ _ (wsk fun K4 hK4 => wsk fun K5 hK5 => wrl (sdo A (qz M xz rfl 0 rfl (cs := [iV d.k, iV d.n, bV d.y.q.b1, .slice d.y.o1 d.y.q.t1.length d.y.c1, .slice d.y.o2 d.y.q.q1.length d.y.c2, bV d.y.q.b2, .slice d.y.o3 d.y.q.t2.length d.y.c3, .slice d.y.o4 d.y.q.q2.length d.y.c4, .string d.s, .slice d.ro d.rl.length d.rc, .slice d.lo ts.length d.lc]) rfl rfl) λa A↦?_)))
 rcases tf (jp d.k d.n d.y.q d.s d.rl.length ts.length) with hb6 | hb6
 ·
  refine gcl A M (ef rfl rfl) ((hb6 ▸ qne (ts := ts) (hok.1.below M.bel) (hT.below M.bel))) fun w8 hb7 M a A => ?_
  refine sdo (v := bV false) A (zi rfl zm) λa A↦?_
  refine qa (hK5 _ _ (wp_cond_false (A.ev rfl) ?_))
  refine wp_skip (hK4 _ _ (wsk fun K9 hK9 => wsk fun K10 hK10 => wrl (sdo (v := pA g2 10) A (qb xd rfl rfl) λa A↦?_)))
  refine sdo A (qh M kw rfl 0 rfl rfl) λa A↦?_
  refine sdo A (qn Tryz.underlying34 rfl) λa A↦?_
  refine sdm A λa A↦?_
  refine qa (hK10 _ _ (wp_block (zt (fun m_ a w1 => ∃ (i : Nat), m_ = 1 + (ts.length - i) ∧ (i ≤ ts.length ∧ qjf zx ((ts.map Dt.tr).drop 0) = qjf zx ((ts.map Dt.tr).drop i)) ∧ Sl a 19 [(0, .agg (d.cells ts.length).toArray), (1, pA g2 0), (5, .agg (d.cells ts.length).toArray), (6, bV true), (7, bV false), (8, pA g2 10), (9, .slice d.lo ts.length d.lc), (10, iV (((ts.length : Nat) : Int))), (11, iV (((i : Nat) : Int)))] ∧ Mg w w1 (.obj g2 (.cells (d.cells ts.length).toArray 42) :: [])) _ ⟨0, rfl, ⟨Nat.zero_le _, rfl⟩, A.keep _ (by repeat' constructor), M⟩ ?_)))
  clear M A
  rintro m_ a w11 ⟨i, rfl, hinv13, A, M⟩ K12 hK12
  obtain ⟨hi0, hin9⟩ := hinv13
  refine wsk fun K14 hK14 => wrl ?_
  rcases tf (decide (((i : Nat) : Int) < ((ts.length : Nat) : Int))) with hb15 | hb15
  ·
   have hb15' := of_decide_eq_true hb15
   refine sdc A qw hb15 λa A↦?_
   refine qa (hK14 _ _ (wsk fun K16 hK16 => wp_cond_true (A.ev rfl) ?_))
   refine wp_skip (hK16 _ _ (wsk fun K17 hK17 => wp_block (wsk fun K18 hK18 => ?_)))
   obtain ⟨t1, b1, o1, hi1, hm1, hr1, hl1, hH1⟩ := kid hrd (i := i) (by omega)
   refine wrl (sdo (v := pA b1 (o1 + i * 11)) A (qx (k := i) Tryz.underlying34 (by kernel_rfl) rfl rfl rfl hl1 (by omega)) λa A↦?_)
   refine sdo A (xa M hH1 xz rfl rfl) λa A↦?_
   refine zy (vs := [iV 0, iV 0, bV false, .slice none 0 0, .slice none 0 0, bV false, .slice none 0 0, .slice none 0 0, .string (⟨#[]⟩), .slice none 0 0, .slice none 0 0]) (t := 42) A M rfl rfl rfl pg (zv (z := .agg #[iV 0, iV 0, bV false, .slice none 0 0, .slice none 0 0, bV false, .slice none 0 0, .slice none 0 0, .string (⟨#[]⟩), .slice none 0 0, .slice none 0 0]) (by kernel_rfl) rfl) (by decide) ?_
   intro g19 w20 M a A
   refine zq (L' := (.obj g19 (.cells (t1.d.cells t1.ts.length).toArray 42) :: .obj g2 (.cells (d.cells ts.length).toArray 42) :: [])) A M rfl rfl (za rfl rfl rfl (by kernel_rfl) M 0 rfl rfl rfl) 0 rfl rfl rfl ?_
   intro w21 M
   refine qa (hK18 _ _ (wsk fun K22 hK22 => wrl (sdo A (qz M xz rfl 0 rfl (cs := [iV t1.d.k, iV t1.d.n, bV t1.d.y.q.b1, .slice t1.d.y.o1 t1.d.y.q.t1.length t1.d.y.c1, .slice t1.d.y.o2 t1.d.y.q.q1.length t1.d.y.c2, bV t1.d.y.q.b2, .slice t1.d.y.o3 t1.d.y.q.t2.length t1.d.y.c3, .slice t1.d.y.o4 t1.d.y.q.q2.length t1.d.y.c4, .string t1.d.s, .slice t1.d.ro t1.d.rl.length t1.d.rc, .slice t1.d.lo t1.ts.length t1.d.lc]) rfl rfl) λa A↦?_)))
   rcases tf (qdi zx t1.tr) with hb23 | hb23
   ·
    refine gcl A M (ef rfl rfl) ((hb23 ▸ ih t1 hm1 (Dt.keep M.bel _ hr1) (hT.below M.bel))) fun w25 hb24 M a A => ?_
    refine sdo (v := bV false) A (zi rfl zm) λa A↦?_
    refine qa (hK22 _ _ (wp_cond_false (A.ev rfl) ?_))
    refine wp_skip (hK17 _ _ (wrl (sdo (v := iV (((i + 1 : Nat) : Int))) A (qg rfl rfl (fun w => (ja (ji (by omega) (by omega)) w).trans (by rw [show (((i : Nat) : Int) + 1 : Int) = ((i + 1 : Nat) : Int) from by omega]))) λa A↦?_)))
    refine sdm A λa A↦?_
    refine qa ?_
    replace M : Mg w w25 (.obj g2 (.cells (d.cells ts.length).toArray 42) :: []) := by
     have h9 := M.sub (cn (cc (.refl _)))
     exact h9
    refine hK12 _ _ _ (by omega) ⟨i + 1, rfl, ⟨by omega, by rw [hin9, zga hi1, hb23, Bool.true_and]⟩, A.keep _ (by repeat' constructor), M⟩
   ·
    refine gcl A M (ef rfl rfl) ((hb23 ▸ ih t1 hm1 (Dt.keep M.bel _ hr1) (hT.below M.bel))) fun w27 hb26 M a A => ?_
    refine sdo (v := bV true) A (zi rfl zm) λa A↦?_
    refine qa (hK22 _ _ (wp_cond_true (A.ev rfl) ?_))
    refine wsk fun K28 hK28 => wrl (sda A λa A↦?_)
    refine qa (hK28 _ _ (wp_ret (hret _ _ (en1 A rfl (qf rfl) ?_))))
    rw [show qdi zx (Dt.mk d ts).tr = false from by rw [qtf, yj, hb6, Bool.true_and, hin9, zga hi1, hb23, Bool.false_and]]
    exact ⟨rfl, M.bel⟩
  ·
   have hb15' := of_decide_eq_false hb15
   refine sdc A qw hb15 λa A↦?_
   refine qa (hK14 _ _ (wsk fun K29 hK29 => wp_cond_false (A.ev rfl) ?_))
   refine wp_exit (hK9 _ _ (wsk fun K30 hK30 => wrl (sda A λa A↦?_)))
   refine qa (hK30 _ _ (wp_ret (hret _ _ (en1 A rfl (qf rfl) ?_))))
   rw [show qdi zx (Dt.mk d ts).tr = true from by rw [qtf, yj, hb6, Bool.true_and, hin9, qcc (by omega), qjf]]
   exact ⟨rfl, M.bel⟩
 ·
  refine gcl A M (ef rfl rfl) ((hb6 ▸ qne (ts := ts) (hok.1.below M.bel) (hT.below M.bel))) fun w32 hb31 M a A => ?_
  refine sdo (v := bV true) A (zi rfl zm) λa A↦?_
  refine qa (hK5 _ _ (wp_cond_true (A.ev rfl) ?_))
  refine wsk fun K33 hK33 => wrl (sda A λa A↦?_)
  refine qa (hK33 _ _ (wp_ret (hret _ _ (en1 A rfl (qf rfl) ?_))))
  rw [show qdi zx (Dt.mk d ts).tr = false from by rw [qtf, yj, hb6, Bool.false_and]]
  exact ⟨rfl, M.bel⟩
theorem qye {w : World} {d : Nd} {ts : List Dt} (hrd : (Dt.mk d ts).rd w) : Calls Tryz.prog 62 #[.agg (d.cells ts.length).toArray] w fun e w' => e = .returned (bV (js 1 20000 (Dt.mk d ts).tr).1) ∧ Below w.heap.size w w' := by
 have M : Mg w w ([]) := Mg.start w
 refine qs (l := [(0, .agg (d.cells ts.length).toArray)]) Tryz.func62 rfl Tryz.ntmps62 rfl rfl ?_
 intro Q hret hnorm hP a A
 refine wsk fun K1 hK1 => wrl (zy (vs := [iV d.k, iV d.n, bV d.y.q.b1, .slice d.y.o1 d.y.q.t1.length d.y.c1, .slice d.y.o2 d.y.q.q1.length d.y.c2, bV d.y.q.b2, .slice d.y.o3 d.y.q.t2.length d.y.c3, .slice d.y.o4 d.y.q.q2.length d.y.c4, .string d.s, .slice d.ro d.rl.length d.rc, .slice d.lo ts.length d.lc]) (t := 42) A M rfl rfl rfl pg (zf rfl rfl) (by decide) ?_)
 intro g2 w3 M a A
 refine sda A λa A↦?_
 refine qa (hK1 _ _ (wsk fun K4 hK4 => ?_))
 have hB1 := M.bel
 have hH1 := M.here 0 (cs := d.cells ts.length) rfl
 replace M : Mg w3 w3 [] := Mg.start w3
 refine wrl (zy (vs := [iV 0]) (t := 3) A M rfl rfl rfl pg (zv (z := iV 0) (by kernel_rfl) rfl) (by decide) ?_)
 intro g5 w6 M a A
 refine zq (L' := (.obj g5 (.cells #[iV 20000] 3) :: [])) A M rfl rfl (za rfl rfl rfl (by kernel_rfl) M 0 rfl rfl rfl) 0 rfl rfl rfl ?_
 intro w7 M
 refine qa (hK4 _ _ (wsk fun K8 hK8 => wrl (sct A (ef rfl rfl) (zcj (Dt.mk d ts) (Dt.keep hB1 _ hrd) hH1 M (by omega) (by omega) (by omega) (by omega)) ?_)))
 rintro _ w10 ⟨rfl, hM9⟩
 replace M : Mg w3 w10 (.obj g5 (.cells #[iV ((js 1 20000 (Dt.mk d ts).tr).2)] 3) :: []) := hM9
 refine ⟨_, rfl, ?_⟩
 intro a A
 refine sda A λa A↦?_
 refine qa (hK8 _ _ (wp_ret (hret _ _ (en1 A rfl (qf rfl) ?_))))
 exact ⟨rfl, hB1.trans (M.bel.mono hB1.size)⟩
theorem zpa {w : World} {d : Nd} {ts : List Dt} (hrd : (Dt.mk d ts).rd w) (hT : Tabs8 w) : Calls Tryz.prog 41 #[.agg (d.cells ts.length).toArray] w fun e w' => e = .returned (bV (jh zx (Dt.mk d ts).tr)) ∧ Below w.heap.size w w' := by
 have M : Mg w w ([]) := Mg.start w
 refine qs (l := [(0, .agg (d.cells ts.length).toArray)]) Tryz.func41 rfl Tryz.ntmps41 rfl rfl ?_
 intro Q hret hnorm hP a A
 refine wsk fun K1 hK1 => wrl (zy (vs := [iV d.k, iV d.n, bV d.y.q.b1, .slice d.y.o1 d.y.q.t1.length d.y.c1, .slice d.y.o2 d.y.q.q1.length d.y.c2, bV d.y.q.b2, .slice d.y.o3 d.y.q.t2.length d.y.c3, .slice d.y.o4 d.y.q.q2.length d.y.c4, .string d.s, .slice d.ro d.rl.length d.rc, .slice d.lo ts.length d.lc]) (t := 42) A M rfl rfl rfl pg (zf rfl rfl) (by decide) ?_)
 intro g2 w3 M a A
 refine sda A λa A↦?_
 refine qa (hK1 _ _ (wsk fun K4 hK4 => wrl (sdo A (qz M xz rfl 0 rfl (cs := [iV d.k, iV d.n, bV d.y.q.b1, .slice d.y.o1 d.y.q.t1.length d.y.c1, .slice d.y.o2 d.y.q.q1.length d.y.c2, bV d.y.q.b2, .slice d.y.o3 d.y.q.t2.length d.y.c3, .slice d.y.o4 d.y.q.q2.length d.y.c4, .string d.s, .slice d.ro d.rl.length d.rc, .slice d.lo ts.length d.lc]) rfl rfl) λa A↦?_)))
 rcases tf ((js 1 20000 (Dt.mk d ts).tr).1) with hb5 | hb5
 ·
  refine gcl A M (ef rfl rfl) ((hb5 ▸ qye (Dt.keep M.bel _ hrd))) fun w7 hb6 M a A => ?_
  refine sdm A λa A↦?_
  refine sdo A (qz M xz rfl 0 rfl (cs := [iV d.k, iV d.n, bV d.y.q.b1, .slice d.y.o1 d.y.q.t1.length d.y.c1, .slice d.y.o2 d.y.q.q1.length d.y.c2, bV d.y.q.b2, .slice d.y.o3 d.y.q.t2.length d.y.c3, .slice d.y.o4 d.y.q.q2.length d.y.c4, .string d.s, .slice d.ro d.rl.length d.rc, .slice d.lo ts.length d.lc]) rfl rfl) λa A↦?_
  rcases tf (qdi zx (Dt.mk d ts).tr) with hb8 | hb8
  ·
   refine gcl A M (ef rfl rfl) ((hb8 ▸ qij (Dt.mk d ts) (Dt.keep M.bel _ hrd) (hT.below M.bel))) fun w10 hb9 M a A => ?_
   refine sdk (v := bV true) A λa A↦?_
   refine sda A λa A↦?_
   refine qa (hK4 _ _ (wp_ret (hret _ _ (en1 A rfl (qf rfl) ?_))))
   exact ⟨by unfold jh; simp_all, M.bel⟩
  ·
   refine gcl A M (ef rfl rfl) ((hb8 ▸ qij (Dt.mk d ts) (Dt.keep M.bel _ hrd) (hT.below M.bel))) fun w12 hb11 M a A => ?_
   refine sdk (v := bV false) A λa A↦?_
   refine sda A λa A↦?_
   refine qa (hK4 _ _ (wp_ret (hret _ _ (en1 A rfl (qf rfl) ?_))))
   exact ⟨by unfold jh; simp_all, M.bel⟩
 ·
  refine gcl A M (ef rfl rfl) ((hb5 ▸ qye (Dt.keep M.bel _ hrd))) fun w14 hb13 M a A => ?_
  refine sdm A λa A↦?_
  iterate 2 refine qj A rfl rfl rfl λa A↦?_
  refine sdk (v := bV false) A λa A↦?_
  refine sda A λa A↦?_
  refine qa (hK4 _ _ (wp_ret (hret _ _ (en1 A rfl (qf rfl) ?_))))
  exact ⟨by unfold jh; simp_all, M.bel⟩
theorem sound_any {w : World} {t : Dt} (hrd : t.rd w) (hT : Tabs8 w) : Calls Tryz.prog 41 #[.agg t.cells.toArray] w fun e w' => e = .returned (bV (jh zx t.tr)) ∧ Below w.heap.size w w' := by
 obtain ⟨d, ts⟩ := t
 exact zpa hrd hT
end Go.Proofs.YtokgmpjblnpjmaaGreatDoor.G
namespace Go.Proofs
open Go.Shelf
def Tryz.laysM316_ren : Go.Shelf.Ren := ⟨fun | 316 => 70 | n => n, fun | 9 => 9 | 3 => 3 | 4 => 4 | 37 => 40 | 0 => 0 | 127 => 124 | 5 => 5 | n => n, fun | n => n⟩
theorem Tryz.laysM316 : Go.Proofs.LaysM.n316 Tryz.prog Tryz.laysM316_ren := {
  mixed := by kernel_rfl
  f316 := Tryz.func70.trans (congrArg some (by kernel_rfl))
  t0 := Tryz.underlying0
  a0 := Tryz.isAgg0
  z0 := Tryz.sizeOf0
  v0 := Tryz.zeroValue0
  t3 := Tryz.underlying3
  a3 := Tryz.isAgg3
  z3 := Tryz.sizeOf3
  v3 := Tryz.zeroValue3
  t4 := Tryz.underlying4
  a4 := Tryz.isAgg4
  z4 := Tryz.sizeOf4
  v4 := Tryz.zeroValue4
  t9 := Tryz.underlying9
  a9 := Tryz.isAgg9
  z9 := Tryz.sizeOf9
  v9 := Tryz.zeroValue9
  t37 := Tryz.underlying40
  a37 := Tryz.isAgg40
  z37 := Tryz.sizeOf40
  v37 := Tryz.zeroValue40
  t127 := Tryz.underlying124
  a127 := Tryz.isAgg124
  z127 := Tryz.sizeOf124
  v127 := Tryz.zeroValue124
  t5 := Tryz.underlying5
  a5 := Tryz.isAgg5
  z5 := Tryz.sizeOf5
  v5 := Tryz.zeroValue5
  i0 := by kernel_rfl
  i3 := by kernel_rfl
  i4 := by kernel_rfl
  i5 := by kernel_rfl
  i9 := by kernel_rfl
  i37 := by kernel_rfl
  i127 := by kernel_rfl }
open Go.RowKit in
theorem Tryz.stringslite_Clone (s : ByteArray) (w : World) (hlim : s.size ≤ 281474976710656) :
    Calls Tryz.prog 70 #[.string s] w fun e w' => e = .returned (.string s) ∧ Below w.heap.size w w' := Any.stringslite_Clone Tryz.laysM316 s w hlim
end Go.Proofs
namespace Go.Proofs.YtokgmpjblnpjmaaGreatDoor.G
open Go.RowKit
set_option linter.unusedVariables false
set_option linter.unusedSimpArgs false
set_option maxRecDepth 100000
theorem jac {w : World} {so : Option Addr} {ca : Nat} {l : List UInt8} (hb : Rb w so l) (hl : l.length ≤ 1000000000) : Calls Tryz.prog 60 #[.slice so l.length ca] w fun e w' => ∃ v, e = .returned v ∧ Mg w w' [.row BY 1 v l.length (Lib.byteCells l)] := by
 have M : Mg w w ([]) := Mg.start w
 refine qs (l := [(0, .slice so l.length ca)]) Tryz.func60 rfl Tryz.ntmps60 rfl rfl ?_
 intro Q hret hnorm hP a A
 refine wsk fun K1 hK1 => wrl (sda A λa A↦?_)
 refine qa (hK1 _ _ (wsk fun K2 hK2 => wrl (sdm A λa A↦?_)))
 replace M := M.nilRow (qk qm) BY 1
 refine jo (e := BY) (sz := 1) (k := 0) (q := 0) (m := l.length) (xs := []) (news := Lib.byteCells l) (L' := fun v3 => (.row BY 1 (v3) (0 + l.length) ([] ++ Lib.byteCells l) :: [])) A rfl rfl rfl (xb (z := .int .u8 0) (sz := 1) (by_ := 1) Tryz.underlying40 (by kernel_rfl) rfl rfl rfl M 0 rfl rfl rfl (zge l) ((znf hb).below M.bel) (zjb l) (by omega)) (fun _ => rfl) ?_
 intro v3 w4 M a A
 refine sda A λa A↦?_
 refine qa (hK2 _ _ (wp_ret (hret _ _ (en1 A rfl (qf rfl) ?_))))
 exact ⟨_, rfl, by rw [Nat.zero_add, List.nil_append] at M; exact M⟩
theorem jad {w : World} {so : Option Addr} {ca : Nat} {l : List Nat} (hb : Rd w so l) (hl : l.length ≤ 1000000000) : Calls Tryz.prog 73 #[.slice so l.length ca] w fun e w' => ∃ v, e = .returned v ∧ Mg w w' [.row 116 1 v l.length (xl l)] := by
 have M : Mg w w ([]) := Mg.start w
 refine qs (l := [(0, .slice so l.length ca)]) Tryz.func73 rfl Tryz.ntmps73 rfl rfl ?_
 intro Q hret hnorm hP a A
 refine wsk fun K1 hK1 => wrl (sda A λa A↦?_)
 refine qa (hK1 _ _ (wsk fun K2 hK2 => wrl (sdm A λa A↦?_)))
 replace M := M.nilRow (qk qm) 116 1
 refine jo (e := 116) (sz := 1) (k := 0) (q := 0) (m := l.length) (xs := []) (news := xl l) (L' := fun v3 => (.row 116 1 (v3) (0 + l.length) ([] ++ xl l) :: [])) A rfl rfl rfl (xb (z := .int .u32 0) (sz := 1) (by_ := 4) Tryz.underlying35 (by kernel_rfl) rfl rfl rfl M 0 rfl rfl rfl (zgd l) ((zng hb).below M.bel) (qqi l) (by omega)) (fun _ => rfl) ?_
 intro v3 w4 M a A
 refine sda A λa A↦?_
 refine qa (hK2 _ _ (wp_ret (hret _ _ (en1 A rfl (qf rfl) ?_))))
 exact ⟨_, rfl, by rw [Nat.zero_add, List.nil_append] at M; exact M⟩
theorem zwf {w : World} {so : Option Addr} {ca : Nat} {ts : List Dt} (hb : Rt w so ts) (hl : ts.length ≤ 1000000000) : Calls Tryz.prog 57 #[.slice so ts.length ca] w fun e w' => ∃ v, e = .returned v ∧ Mg w w' [.row 42 11 v ts.length (cellsOf ts)] := by
 have M : Mg w w ([]) := Mg.start w
 refine qs (l := [(0, .slice so ts.length ca)]) Tryz.func57 rfl Tryz.ntmps57 rfl rfl ?_
 intro Q hret hnorm hP a A
 refine wsk fun K1 hK1 => wrl (sda A λa A↦?_)
 refine qa (hK1 _ _ (wsk fun K2 hK2 => wrl (sdm A λa A↦?_)))
 replace M := M.nilRow (qk qm) 42 11
 refine jo (e := 42) (sz := 11) (k := 0) (q := 0) (m := ts.length) (xs := []) (news := cellsOf ts) (L' := fun v3 => (.row 42 11 (v3) (0 + ts.length) ([] ++ cellsOf ts) :: [])) A rfl rfl rfl (xb (z := .agg #[iV 0, iV 0, bV false, .slice none 0 0, .slice none 0 0, bV false, .slice none 0 0, .slice none 0 0, .string ⟨#[]⟩, .slice none 0 0, .slice none 0 0]) (sz := 11) (by_ := 192) Tryz.underlying34 (by kernel_rfl) rfl rfl rfl M 0 rfl rfl rfl (xx ts) ((zne hb).below M.bel) (ye ts) (by omega)) (fun _ => rfl) ?_
 intro v3 w4 M a A
 refine sda A λa A↦?_
 refine qa (hK2 _ _ (wp_ret (hret _ _ (en1 A rfl (qf rfl) ?_))))
 exact ⟨_, rfl, by rw [Nat.zero_add, List.nil_append] at M; exact M⟩
theorem zub {w : World} {so : Option Addr} {ca : Nat} {l : List UInt8} (hb : Rb w so l) (hl : l.length ≤ 1000000000) : Calls Tryz.prog 60 #[.slice so l.length ca] w fun e w' => ∃ so' ca', e = .returned (.slice so' l.length ca') ∧ (Rb w' so' l ∧ In (w.heap.size ≤ ·) so' l ∧ l.length ≤ ca' ∧ ca' ≤ 9223372036854775807) ∧ Below w.heap.size w w' := by
 refine (jac hb hl).mono ?_
 rintro _ w' ⟨v, rfl, M⟩
 obtain ⟨so', ca', rfl⟩ := qle (M.has 0 rfl)
 exact ⟨so', ca', rfl, ⟨(zxf M 0 rfl).1, zbf (M.has 0 rfl) _, zgf (M.has 0 rfl), zsj (M.has 0 rfl)⟩, M.bel⟩
theorem zhb {w : World} {so : Option Addr} {ca : Nat} {l : List Nat} (hb : Rd w so l) (hl : l.length ≤ 1000000000) : Calls Tryz.prog 73 #[.slice so l.length ca] w fun e w' => ∃ so' ca', e = .returned (.slice so' l.length ca') ∧ (Sc w' so' ca' l ∧ In (w.heap.size ≤ ·) so' l) ∧ Below w.heap.size w w' := by
 refine (jad hb hl).mono ?_
 rintro _ w' ⟨v, rfl, M⟩
 obtain ⟨so', ca', rfl⟩ := qle (M.has 0 rfl)
 exact ⟨so', ca', rfl, ⟨zxh hb.dig (M.has 0 rfl), zbf (M.has 0 rfl) _⟩, M.bel⟩
theorem zhc {w : World} {b : Bool} {o1 o2 : Option Addr} {c1 c2 : Nat} {t q : List Nat} (h1 : Sc w o1 c1 t) (h2 : Sc w o2 c2 q) (l1 : t.length ≤ 1000000000) (l2 : q.length ≤ 1000000000) : Calls Tryz.prog 59 #[.agg #[bV b, .slice o1 t.length c1, .slice o2 q.length c2]] w fun e w' => ∃ p1 d1 p2 d2, e = .returned (.agg #[bV b, .slice p1 t.length d1, .slice p2 q.length d2]) ∧ (Sc w' p1 d1 t ∧ In (w.heap.size ≤ ·) p1 t ∧ Sc w' p2 d2 q ∧ In (w.heap.size ≤ ·) p2 q) ∧ Below w.heap.size w w' := by
 have M : Mg w w ([]) := Mg.start w
 refine qs (l := [(0, .agg #[bV b, .slice o1 t.length c1, .slice o2 q.length c2])]) Tryz.func59 rfl Tryz.ntmps59 rfl rfl ?_
 intro Q hret hnorm hP a A
 refine wsk fun K1 hK1 => wrl (zy (vs := [bV b, .slice o1 t.length c1, .slice o2 q.length c2]) (t := 37) A M rfl rfl rfl pg (zf rfl rfl) (by decide) ?_)
 intro g2 w3 M a A
 refine zy (vs := [bV false, .slice none 0 0, .slice none 0 0]) (t := 37) A M rfl rfl rfl pg (zv (z := .agg #[bV false, .slice none 0 0, .slice none 0 0]) (by kernel_rfl) rfl) (by decide) ?_
 intro g4 w5 M a A
 refine qa (hK1 _ _ (wsk fun K6 hK6 => zp (S := fun w1 => Mg w w1 (.obj g2 (.cells #[bV b, .slice o1 t.length c1, .slice o2 q.length c2] 37) :: [])) (by kernel_rfl) ?_))
 replace M := M.drew
 refine qe (v := pA g2 0) A 0 rfl rfl rfl rfl hP (M.sub (cn (cc ns))) (λ_ M↦qb zca rfl rfl) λa A↦?_
 refine qe A 1 rfl rfl rfl rfl hP (M.sub (cn (cc ns))) (λ_ M↦qh M o94 rfl 0 rfl rfl) λa A↦?_
 refine qe (v := pA g2 1) A 2 rfl rfl rfl rfl hP (M.sub (cn (cc ns))) (λ_ M↦qb zcb rfl rfl) λa A↦?_
 refine qe A 3 rfl rfl rfl rfl hP (M.sub (cn (cc ns))) (λ_ M↦qh M zjf rfl 0 rfl rfl) λa A↦?_
 refine qe (v := pA g2 2) A 5 rfl rfl rfl rfl hP (M.sub (cn (cc ns))) (λ_ M↦qb zcc rfl rfl) λa A↦?_
 refine qe A 6 rfl rfl rfl rfl hP (M.sub (cn (cc ns))) (λ_ M↦qh M zjf rfl 0 rfl rfl) λa A↦?_
 have hlt7 := (Ck.lt (M.has 0 rfl) g4 rfl).2
 have hlt8 := (Ck.lt (M.has 1 rfl) g2 rfl).2
 have hsz9 := M.bel.size
 refine zd (by kernel_rfl) (jf A 4 rfl rfl rfl rfl (zj rfl rfl (fun w => by kernel_rfl)) (zhb (h1.rd.below M.bel) l1) ?_)
 rintro _ w15 ⟨so10, ca11, rfl, ⟨hf13, hf14⟩, hb12⟩
 replace M := M.call hb12
 refine ⟨_, rfl, (M.sub (cn (cc ns))), ?_⟩
 intro a A
 have hlt16 := (Ck.lt (M.has 0 rfl) g4 rfl).2
 have hlt17 := (Ck.lt (M.has 1 rfl) g2 rfl).2
 have hsz18 := M.bel.size
 refine zd (by kernel_rfl) (jf A 7 rfl rfl rfl rfl (zj rfl rfl (fun w => by kernel_rfl)) (zhb (h2.rd.below M.bel) l2) ?_)
 rintro _ w24 ⟨so19, ca20, rfl, ⟨hf22, hf23⟩, hb21⟩
 replace hf13 := hf13.below hb21
 replace M := M.call hb21
 refine ⟨_, rfl, (M.sub (cn (cc ns))), ?_⟩
 intro a A
 refine qe (v := .agg #[bV b, .slice so10 t.length ca11, .slice so19 q.length ca20]) A 8 rfl rfl rfl rfl hP (M.sub (cn (cc ns))) (λ_ M↦jb rfl (fun w => by kernel_rfl)) λa A↦?_
 refine zd (by kernel_rfl) (qxe (L' := (.obj g4 (.cells #[bV b, .slice so10 t.length ca11, .slice so19 q.length ca20] 37) :: .obj g2 (.cells #[bV b, .slice o1 t.length c1, .slice o2 q.length c2] 37) :: [])) A M 9 rfl rfl rfl (za rfl rfl rfl (by kernel_rfl) M 0 rfl rfl rfl) 0 rfl rfl rfl ?_)
 intro w25 M hK26
 replace hf13 := ko hf13 (hf14.mono fun b hb => by rintro rfl; omega) hK26
 replace hf22 := ko hf22 (hf23.mono fun b hb => by rintro rfl; omega) hK26
 refine ⟨(M.sub (cn (cc ns))), ?_⟩
 refine ze (by kernel_rfl) ?_
 refine hK6 _ _ (wp_ret (hret _ _ (en1 A rfl (zu M zcf rfl 0 rfl (cs := [bV b, .slice so10 t.length ca11, .slice so19 q.length ca20]) rfl rfl) ?_)))
 exact ⟨_, _, _, _, rfl, ⟨hf13, In.mono hf14 (fun b hb => Nat.le_trans hsz9 hb), hf22, In.mono hf23 (fun b hb => Nat.le_trans hsz18 hb)⟩, M.bel⟩
theorem clone_any {w : World} {s : ByteArray} (hs : s.size ≤ 281474976710656) : Calls Tryz.prog 52 #[.string s] w fun e w' => e = .returned (.string s) ∧ Below w.heap.size w w' := by
 have M : Mg w w ([]) := Mg.start w
 refine qs (l := [(0, .string s)]) Tryz.func52 rfl Tryz.ntmps52 rfl rfl ?_
 intro Q hret hnorm hP a A
 refine wsk fun K1 hK1 => wrl (sda A λa A↦?_)
 refine qa (hK1 _ _ (wsk fun K2 hK2 => wrl (sdm A λa A↦?_)))
 refine gcl A M (ef rfl rfl) (Tryz.stringslite_Clone s _ hs) fun w3 hb1 M a A => ?_
 refine sda A λa A↦?_
 refine qa (hK2 _ _ (wp_ret (hret _ _ (en1 A rfl (qf rfl) ?_))))
 exact ⟨rfl, M.bel⟩
def Copies (t : Dt) : Prop := ∀ {w : World}, t.rd w → t.tr.bulk ≤ 1000000000 → Calls Tryz.prog 38 #[.agg (t.d.cells t.ts.length).toArray] w fun e w' => ∃ t2 : Dt, e = .returned (.agg (t2.d.cells t2.ts.length).toArray) ∧ (t2.rd w' ∧ t2.at_ (w.heap.size ≤ ·) ∧ t2.tr = t.tr) ∧ Below w.heap.size w w'
def CopyAll (ts : List Dt) : Prop := ∀ {w : World} {so : Option Addr} {ca : Nat}, Rt w so ts → (∀ t ∈ ts, t.rd w) → Tr.bulks (ts.map Dt.tr) ≤ 1000000000 → Calls Tryz.prog 35 #[.slice so ts.length ca] w fun e w' => ∃ v us, e = .returned v ∧ (us.map Dt.tr = ts.map Dt.tr ∧ (∀ t ∈ us, t.rd w' ∧ t.at_ (fun b => w.heap.size ≤ b ∧ v.ownBlock ≠ some b))) ∧ Mg w w' [.row 42 11 v us.length (cellsOf us)]
theorem zda {ts : List Dt} (ih : ∀ t ∈ ts, Copies t) (hne : ts ≠ []) : CopyAll ts := by
 intro w so ca hR hD hb
 have hbl := yk ts
 have M : Mg w w ([]) := Mg.start w
 refine qs (l := [(0, .slice so ts.length ca)]) Tryz.func35 rfl Tryz.ntmps35 rfl rfl ?_
 intro Q hret hnorm hP a A
 refine wsk fun K1 hK1 => wrl (sda A λa A↦?_)
 refine qa (hK1 _ _ (wsk fun K2 hK2 => wrl (sdm A λa A↦?_)))
 refine sct A (ef rfl rfl) (zwf (hR.below M.bel) (by have := yk ts; omega)) ?_
 rintro _ w4 ⟨v9, rfl, hM3⟩
 obtain ⟨g9, c9, rfl⟩ := qli (hM3.has 0 rfl) (fun k => hne (List.length_eq_zero_iff.1 k))
 replace M : Mg w w4 (.row 42 11 (.slice (aO g9) ts.length c9) ts.length (cellsOf ts) :: []) := hM3
 refine ⟨_, rfl, ?_⟩
 intro a A
 refine sda A λa A↦?_
 refine qa (hK2 _ _ (wsk fun K5 hK5 => wsk fun K6 hK6 => wrl (sdm A λa A↦?_)))
 refine sdo A (qn Tryz.underlying34 rfl) λa A↦?_
 refine sdm A λa A↦?_
 refine qa (hK6 _ _ (wp_block (zt (fun m_ a w1 => ∃ (i : Nat) (cs : List Dt), m_ = 1 + (ts.length - i) ∧ (i ≤ ts.length ∧ cs.length = i ∧ cs.map Dt.tr = (ts.take i).map Dt.tr ∧ CsOk w.heap.size g9 w1 cs) ∧ Sl a 22 [(0, .slice so ts.length ca), (2, .slice none 0 0), (3, .slice (aO g9) ts.length c9), (6, .slice so ts.length ca), (7, .slice (aO g9) ts.length c9), (8, .slice (aO g9) ts.length c9), (9, iV (((ts.length : Nat) : Int))), (10, iV (((i : Nat) : Int)))] ∧ Mg w w1 (.row 42 11 (.slice (aO g9) ts.length c9) ts.length (cellsOf (cs ++ ts.drop i)) :: [])) _ ⟨0, [], rfl, ⟨Nat.zero_le _, rfl, rfl, znh⟩, A.keep _ (by repeat' constructor), M⟩ ?_)))
 clear M A
 rintro m_ a w7 ⟨i, cs, rfl, hinv9, A, M⟩ K8 hK8
 obtain ⟨hi0, hcl, htr, hcs⟩ := hinv9
 refine wsk fun K10 hK10 => wrl ?_
 rcases tf (decide (((i : Nat) : Int) < ((ts.length : Nat) : Int))) with hb11 | hb11
 ·
  have hb11' := of_decide_eq_true hb11
  refine sdc A qw hb11 λa A↦?_
  refine qa (hK10 _ _ (wsk fun K12 hK12 => wp_cond_true (A.ev rfl) ?_))
  refine wp_skip (hK12 _ _ (wsk fun K13 hK13 => wp_block (wsk fun K14 hK14 => ?_)))
  obtain ⟨t1, i1, m1, it1⟩ := zxi hcl (show i < ts.length by omega)
  refine wrl (sdm A λa A↦?_)
  refine sdo (v := pA g9 (i * 11)) A (xp (k := i) Tryz.underlying34 (by kernel_rfl) rfl rfl rfl (by omega)) λa A↦?_
  refine sdo A (znc (o := i * 11) (cs := t1.d.cells t1.ts.length) M 0 rfl xz (qdj it1) rfl rfl) λa A↦?_
  refine zxg (vs := [iV 0, iV 0, bV false, .slice none 0 0, .slice none 0 0, bV false, .slice none 0 0, .slice none 0 0, .string (⟨#[]⟩), .slice none 0 0, .slice none 0 0]) (t := 42) A M rfl rfl rfl pg (zv (z := .agg #[iV 0, iV 0, bV false, .slice none 0 0, .slice none 0 0, bV false, .slice none 0 0, .slice none 0 0, .string (⟨#[]⟩), .slice none 0 0, .slice none 0 0]) (by kernel_rfl) rfl) (by decide) ?_
  intro g15 w16 M hg17 hb18 a A
  refine sda A λa A↦?_
  refine qxd (L' := (.obj g15 (.cells (t1.d.cells t1.ts.length).toArray 42) :: .row 42 11 (.slice (aO g9) ts.length c9) ts.length (cellsOf (cs ++ ts.drop i)) :: [])) A M rfl rfl (za rfl rfl rfl (by kernel_rfl) M 0 rfl rfl rfl) 0 rfl rfl rfl ?_
  intro w19 M hK20
  replace hcs := hcs.new hg17 hb18 hK20
  refine qa (hK14 _ _ (wrl ?_))
  iterate 2 refine sdm A λa A↦?_
  refine sdo A (qz M xz rfl 0 rfl (cs := (t1.d.cells t1.ts.length)) rfl rfl) λa A↦?_
  have hltg := (Ck.lt (M.has 1 rfl) g9 rfl).2
  have hsz := M.bel.size
  refine sct A (ef rfl rfl) (ih t1 m1 (Dt.keep M.bel _ (hD t1 m1)) (by have := qfh m1; omega)) ?_
  rintro _ w21 ⟨t2, rfl, ⟨hr2, ha2, ht2⟩, hb2⟩
  replace hcs := hcs.below hb2
  replace M := M.call hb2
  refine ⟨_, rfl, ?_⟩
  intro a A
  refine sdo (v := pA g9 (i * 11)) A (xp (k := i) Tryz.underlying34 (by kernel_rfl) rfl rfl rfl (by omega)) λa A↦?_
  refine qre (L' := (.obj g15 (.cells (t1.d.cells t1.ts.length).toArray 42) :: .row 42 11 (.slice (aO g9) ts.length c9) ts.length (cellsOf ((cs ++ [t2]) ++ ts.drop (i + 1))) :: [])) A M rfl rfl (qfe (cs := t2.d.cells t2.ts.length) rfl rfl rfl (by kernel_rfl) M 1 rfl (by show _ + 11 ≤ _; omega) (qcf t2)) 1 rfl (qlj (by rw [List.length_append, List.length_drop]; omega) (zta t2 hcl (by omega))) rfl ?_
  intro w22 M hK23
  replace hcs := hcs.snoc hr2 (Dt.at_mono (fun b hb => ⟨by omega, by rintro rfl; omega⟩) _ ha2) hK23
  refine qa (hK13 _ _ (wrl (sdo (v := iV (((i + 1 : Nat) : Int))) A (qg rfl rfl (fun w => (ja (ji (by omega) (by omega)) w).trans (by rw [show (((i : Nat) : Int) + 1 : Int) = ((i + 1 : Nat) : Int) from by omega]))) λa A↦?_)))
  refine sdm A λa A↦?_
  refine qa ?_
  replace M : Mg w w22 (.row 42 11 (.slice (aO g9) ts.length c9) ts.length (cellsOf ((cs ++ [t2]) ++ ts.drop (i + 1))) :: []) := by
   have h9 := M.sub (cn (cc (.refl _)))
   exact h9
  refine hK8 _ _ _ (by omega) ⟨i + 1, cs ++ [t2], rfl, ⟨by omega, by rw [List.length_append]; simp only [List.length_cons, List.length_nil]; omega, ztb htr i1 ht2, hcs⟩, A.keep _ (by repeat' constructor), M⟩
 ·
  have hb11' := of_decide_eq_false hb11
  refine sdc A qw hb11 λa A↦?_
  refine qa (hK10 _ _ (wsk fun K24 hK24 => wp_cond_false (A.ev rfl) ?_))
  refine wp_exit (hK5 _ _ (wsk fun K25 hK25 => wrl (sdm A λa A↦?_)))
  refine sda A λa A↦?_
  refine qa (hK25 _ _ (wp_ret (hret _ _ (en1 A rfl (qf rfl) ?_))))
  have e9 : cs ++ ts.drop i = cs := by rw [List.drop_of_length_le (by omega), List.append_nil]
  rw [e9] at M
  have e8 : ts.length = cs.length := by omega
  exact ⟨_, cs, rfl, ⟨by rw [htr, List.take_of_length_le (by omega)], fun t ht => ⟨(hcs t ht).1, Dt.at_mono (fun b hb => ⟨hb.1, fun e => hb.2 (Option.some.inj e).symm⟩) _ (hcs t ht).2⟩⟩, e8 ▸ M⟩
theorem zjh : CopyAll [] := by
 intro w so ca hR hD hb
 have M : Mg w w ([]) := Mg.start w
 refine qs (l := [(0, .slice so (([] : List Dt).length) ca)]) Tryz.func35 rfl Tryz.ntmps35 rfl rfl ?_
 intro Q hret hnorm hP a A
 refine wsk fun K1 hK1 => wrl (sda A λa A↦?_)
 refine qa (hK1 _ _ (wsk fun K2 hK2 => wrl (sdm A λa A↦?_)))
 refine sct A (ef rfl rfl) (zwf (ts := []) (fun k => absurd rfl k) (by decide)) ?_
 rintro _ w4 ⟨v9, rfl, hM3⟩
 obtain ⟨so9, c9, rfl⟩ := jg (hM3.has 0 rfl)
 replace M : Mg w w4 (.row 42 11 (.slice so9 (([] : List Dt).length) c9) (([] : List Dt).length) (cellsOf []) :: []) := hM3
 refine ⟨_, rfl, ?_⟩
 intro a A
 refine sda A λa A↦?_
 refine qa (hK2 _ _ (wsk fun K5 hK5 => wsk fun K6 hK6 => wrl (sdm A λa A↦?_)))
 refine sdo A (qn Tryz.underlying34 rfl) λa A↦?_
 refine sdm A λa A↦?_
 refine qa (hK6 _ _ (wp_block (wp_loop_rounds 12 ?_)))
 refine qla fun K7 hK7 => ?_
 refine wsk fun K8 hK8 => wrl (sdo (v := bV false) A (qg rfl rfl (fun w => (qw w).trans (by rw [show (decide (0 < ((([] : List Dt).length : Nat) : Int))) = false from (by rfl)]))) λa A↦?_)
 refine qa (hK8 _ _ (wsk fun K9 hK9 => wp_cond_false (A.ev rfl) ?_))
 refine wp_exit (hK5 _ _ (wsk fun K10 hK10 => wrl (sdm A λa A↦?_)))
 refine sda A λa A↦?_
 refine qa (hK10 _ _ (wp_ret (hret _ _ (en1 A rfl (qf rfl) ?_))))
 exact ⟨_, [], rfl, ⟨rfl, fun t h => by cases h⟩, M⟩
theorem qid {ts : List Dt} (ih : ∀ t ∈ ts, Copies t) : CopyAll ts := by
 by_cases h : ts = []
 ·
  subst h; exact zjh
 ·
  exact zda ih h
theorem qac : ∀ t : Dt, Copies t := Dt.indT fun d ts ih => by
 intro w hrd hb
 have hok := (Dt.rd_iff.1 hrd)
 rw [zbg] at hb
 have M : Mg w w ([]) := Mg.start w
 refine qs (l := [(0, .agg (d.cells ts.length).toArray)]) Tryz.func38 rfl Tryz.ntmps38 rfl rfl ?_
 intro Q hret hnorm hP a A
 refine wsk fun K1 hK1 => wrl (zy (vs := (d.cells ts.length)) (t := 42) A M rfl rfl rfl pg (zf rfl rfl) (by decide) ?_)
 intro g2 w3 M a A
 refine zy (vs := [iV 0, iV 0, bV false, .slice none 0 0, .slice none 0 0, bV false, .slice none 0 0, .slice none 0 0, .string (⟨#[]⟩), .slice none 0 0, .slice none 0 0]) (t := 42) A M rfl rfl rfl pg (zv (z := .agg #[iV 0, iV 0, bV false, .slice none 0 0, .slice none 0 0, bV false, .slice none 0 0, .slice none 0 0, .string (⟨#[]⟩), .slice none 0 0, .slice none 0 0]) (by kernel_rfl) rfl) (by decide) ?_
 intro g4 w5 M a A
 refine qa (hK1 _ _ (wsk fun K6 hK6 => zp (S := fun w1 => Mg w w1 (.obj g2 (.cells (d.cells ts.length).toArray 42) :: [])) (by kernel_rfl) ?_))
 replace M := M.drew
 refine qe (v := pA g2 0) A 0 rfl rfl rfl rfl hP (M.sub (cn (cc ns))) (λ_ M↦qb vg rfl rfl) λa A↦?_
 refine qe A 1 rfl rfl rfl rfl hP (M.sub (cn (cc ns))) (λ_ M↦qh M o93 rfl 0 rfl rfl) λa A↦?_
 refine qe (v := pA g2 1) A 2 rfl rfl rfl rfl hP (M.sub (cn (cc ns))) (λ_ M↦qb xy rfl rfl) λa A↦?_
 refine qe A 3 rfl rfl rfl rfl hP (M.sub (cn (cc ns))) (λ_ M↦qh M o93 rfl 0 rfl rfl) λa A↦?_
 refine qe (v := pA g2 2) A 4 rfl rfl rfl rfl hP (M.sub (cn (cc ns))) (λ_ M↦qb kx rfl rfl) λa A↦?_
 refine qe (v := pA g2 2) A 5 rfl rfl rfl rfl hP (M.sub (cn (cc ns))) (λ_ M↦qb zcd rfl rfl) λa A↦?_
 refine qe A 6 rfl rfl rfl rfl hP (M.sub (cn (cc ns))) (λ_ M↦qz M zcf rfl 0 rfl (cs := [bV d.y.q.b1, .slice d.y.o1 d.y.q.t1.length d.y.c1, .slice d.y.o2 d.y.q.q1.length d.y.c2]) rfl rfl) λa A↦?_
 refine qe (v := pA g2 2) A 8 rfl rfl rfl rfl hP (M.sub (cn (cc ns))) (λ_ M↦qb kx rfl rfl) λa A↦?_
 refine qe (v := pA g2 5) A 9 rfl rfl rfl rfl hP (M.sub (cn (cc ns))) (λ_ M↦qb zce rfl rfl) λa A↦?_
 refine qe A 10 rfl rfl rfl rfl hP (M.sub (cn (cc ns))) (λ_ M↦qz M zcf rfl 0 rfl (cs := [bV d.y.q.b2, .slice d.y.o3 d.y.q.t2.length d.y.c3, .slice d.y.o4 d.y.q.q2.length d.y.c4]) rfl rfl) λa A↦?_
 refine qe (v := pA g2 8) A 13 rfl rfl rfl rfl hP (M.sub (cn (cc ns))) (λ_ M↦qb vl rfl rfl) λa A↦?_
 refine qe A 14 rfl rfl rfl rfl hP (M.sub (cn (cc ns))) (λ_ M↦qh M o99 rfl 0 rfl rfl) λa A↦?_
 refine qe (v := pA g2 9) A 16 rfl rfl rfl rfl hP (M.sub (cn (cc ns))) (λ_ M↦qb qab rfl rfl) λa A↦?_
 refine qe A 17 rfl rfl rfl rfl hP (M.sub (cn (cc ns))) (λ_ M↦qh M qyc rfl 0 rfl rfl) λa A↦?_
 refine qe (v := pA g2 10) A 19 rfl rfl rfl rfl hP (M.sub (cn (cc ns))) (λ_ M↦qb xd rfl rfl) λa A↦?_
 refine qe A 20 rfl rfl rfl rfl hP (M.sub (cn (cc ns))) (λ_ M↦qh M kw rfl 0 rfl rfl) λa A↦?_
 have hlt7 := (Ck.lt (M.has 0 rfl) g4 rfl).2
 have hlt8 := (Ck.lt (M.has 1 rfl) g2 rfl).2
 have hsz9 := M.bel.size
 refine zd (by kernel_rfl) (jf A 7 rfl rfl rfl rfl (zj rfl rfl (fun w => by kernel_rfl)) (zhc (hok.1.num.s1.below M.bel) (hok.1.num.s2.below M.bel) (by omega) (by omega)) ?_)
 rintro _ w11 ⟨p1, e1, p2, e2, rfl, ⟨hs1, hi1, hs2, hi2⟩, hb10⟩
 replace M := M.call hb10
 refine ⟨_, rfl, (M.sub (cn (cc ns))), ?_⟩
 intro a A
 have hlt12 := (Ck.lt (M.has 0 rfl) g4 rfl).2
 have hlt13 := (Ck.lt (M.has 1 rfl) g2 rfl).2
 have hsz14 := M.bel.size
 refine zd (by kernel_rfl) (jf A 11 rfl rfl rfl rfl (zj rfl rfl (fun w => by kernel_rfl)) (zhc (hok.1.num.s3.below M.bel) (hok.1.num.s4.below M.bel) (by omega) (by omega)) ?_)
 rintro _ w16 ⟨p3, e3, p4, e4, rfl, ⟨hs3, hi3, hs4, hi4⟩, hb15⟩
 replace hs1 := hs1.below hb15
 replace hs2 := hs2.below hb15
 replace M := M.call hb15
 refine ⟨_, rfl, (M.sub (cn (cc ns))), ?_⟩
 intro a A
 refine qe (v := .agg #[bV d.y.q.b1, .slice p1 d.y.q.t1.length e1, .slice p2 d.y.q.q1.length e2, bV d.y.q.b2, .slice p3 d.y.q.t2.length e3, .slice p4 d.y.q.q2.length e4]) A 12 rfl rfl rfl rfl hP (M.sub (cn (cc ns))) (λ_ M↦jb rfl (fun w => by kernel_rfl)) λa A↦?_
 refine zd (by kernel_rfl) (jf A 15 rfl rfl rfl rfl (zj rfl rfl (fun w => by kernel_rfl)) (clone_any (by omega)) ?_)
 rintro _ w17 ⟨rfl, hbc⟩
 replace hs1 := hs1.below hbc
 replace hs2 := hs2.below hbc
 replace hs3 := hs3.below hbc
 replace hs4 := hs4.below hbc
 replace M := M.call hbc
 refine ⟨_, rfl, (M.sub (cn (cc ns))), ?_⟩
 intro a A
 have hlt18 := (Ck.lt (M.has 0 rfl) g4 rfl).2
 have hlt19 := (Ck.lt (M.has 1 rfl) g2 rfl).2
 have hz5 := M.bel.size
 refine zd (by kernel_rfl) (jf A 18 rfl rfl rfl rfl (zj rfl rfl (fun w => by kernel_rfl)) (zub (hok.1.raw.below M.bel) (by omega)) ?_)
 rintro _ w20 ⟨ro5, rc5, rfl, ⟨hr5, hi5, hc5, hm5⟩, hb5⟩
 replace hs1 := hs1.below hb5
 replace hs2 := hs2.below hb5
 replace hs3 := hs3.below hb5
 replace hs4 := hs4.below hb5
 replace M := M.call hb5
 refine ⟨_, rfl, (M.sub (cn (cc ns))), ?_⟩
 intro a A
 have hlt21 := (Ck.lt (M.has 0 rfl) g4 rfl).2
 have hlt22 := (Ck.lt (M.has 1 rfl) g2 rfl).2
 have hz6 := M.bel.size
 refine zd (by kernel_rfl) (jf A 21 rfl rfl rfl rfl (zj rfl rfl (fun w => by kernel_rfl)) (qid ih (hok.2.2.2.1.below M.bel) (fun t ht => Dt.keep M.bel _ (hok.2.2.2.2 t ht)) (by omega)) ?_)
 rintro _ w23 ⟨v6, us, rfl, ⟨htr, hus⟩, hM6⟩
 obtain ⟨lo6, lc6, rfl⟩ := jg (hM6.has 0 rfl)
 replace hs1 := hs1.below hM6.bel
 replace hs2 := hs2.below hM6.bel
 replace hs3 := hs3.below hM6.bel
 replace hs4 := hs4.below hM6.bel
 replace hr5 := hr5.below hM6.bel
 replace M : Mg w w23 (.row 42 11 (.slice lo6 us.length lc6) us.length (cellsOf us) :: .obj g4 (.cells #[iV 0, iV 0, bV false, .slice none 0 0, .slice none 0 0, bV false, .slice none 0 0, .slice none 0 0, .string (⟨#[]⟩), .slice none 0 0, .slice none 0 0] 42) :: .obj g2 (.cells (d.cells ts.length).toArray 42) :: []) := (M.both hM6 (qi (by simp) (qi (by simp) (qk qm))) (qi (by simp) (qk qm)))
 refine ⟨_, rfl, (M.sub (cn (cn (cc ns)))), ?_⟩
 intro a A
 refine qe (v := .agg #[iV d.k, iV d.n, bV d.y.q.b1, .slice p1 d.y.q.t1.length e1, .slice p2 d.y.q.q1.length e2, bV d.y.q.b2, .slice p3 d.y.q.t2.length e3, .slice p4 d.y.q.q2.length e4, .string d.s, .slice ro5 d.rl.length rc5, .slice lo6 us.length lc6]) A 22 rfl rfl rfl rfl hP (M.sub (cn (cn (cc ns)))) (λ_ M↦jb rfl (fun w => by kernel_rfl)) λa A↦?_
 refine zd (by kernel_rfl) (qxe (L' := (.row 42 11 (.slice lo6 us.length lc6) us.length (cellsOf us) :: .obj g4 (.cells #[iV d.k, iV d.n, bV d.y.q.b1, .slice p1 d.y.q.t1.length e1, .slice p2 d.y.q.q1.length e2, bV d.y.q.b2, .slice p3 d.y.q.t2.length e3, .slice p4 d.y.q.q2.length e4, .string d.s, .slice ro5 d.rl.length rc5, .slice lo6 us.length lc6] 42) :: .obj g2 (.cells (d.cells ts.length).toArray 42) :: [])) A M 23 rfl rfl rfl (za rfl rfl rfl (by kernel_rfl) M 1 rfl rfl rfl) 1 rfl rfl rfl ?_)
 intro w24 M hK25
 replace hs1 := ko hs1 (hi1.mono fun b hb => by rintro rfl; omega) hK25
 replace hs2 := ko hs2 (hi2.mono fun b hb => by rintro rfl; omega) hK25
 replace hs3 := ko hs3 (hi3.mono fun b hb => by rintro rfl; omega) hK25
 replace hs4 := ko hs4 (hi4.mono fun b hb => by rintro rfl; omega) hK25
 replace hr5 := zgc hr5 (hi5.mono fun b hb => by rintro rfl; omega) hK25
 have hu9 : ∀ t ∈ us, t.rd w24 := fun t ht => Dt.kept hK25 _ (hus t ht).1 (Dt.at_mono (fun b hb => by rintro rfl; have := hb.1; omega) _ (hus t ht).2)
 refine ⟨(M.sub (cn (cn (cc ns)))), ?_⟩
 refine ze (by kernel_rfl) ?_
 refine hK6 _ _ (wp_ret (hret _ _ (en1 A rfl (zu M xz rfl 1 rfl (cs := [iV d.k, iV d.n, bV d.y.q.b1, .slice p1 d.y.q.t1.length e1, .slice p2 d.y.q.q1.length e2, bV d.y.q.b2, .slice p3 d.y.q.t2.length e3, .slice p4 d.y.q.q2.length e4, .string d.s, .slice ro5 d.rl.length rc5, .slice lo6 us.length lc6]) rfl rfl) ?_)))
 have ho9 := qea (M.has 0 rfl)
 exact ⟨.mk ⟨d.k, d.n, ⟨d.y.q, p1, e1, p2, e2, p3, e3, p4, e4⟩, d.s, ro5, rc5, d.rl, lo6, lc6⟩ us, rfl, ⟨Dt.rd_iff.2 ⟨{ hok.1 with num := ⟨hs1, hs2, hs3, hs4⟩, raw := hr5, rcap := hc5, rmax := hm5 }, ho9.2.2.1, ho9.2.2.2, ho9.1, hu9⟩, Dt.at_iff.2 ⟨⟨hi1.mono fun b hb => Nat.le_trans hsz9 hb, hi2.mono fun b hb => Nat.le_trans hsz9 hb, hi3.mono fun b hb => Nat.le_trans hsz14 hb, hi4.mono fun b hb => Nat.le_trans hsz14 hb, hi5.mono fun b hb => Nat.le_trans hz5 hb⟩, zbf (M.has 0 rfl) _, fun t ht => Dt.at_mono (fun b hb => Nat.le_trans hz6 hb.1) _ (hus t ht).2⟩, by rw [Dt.tr_mk, Dt.tr_mk, htr]⟩, M.bel⟩
theorem zji {w : World} {so : Option Addr} {ca : Nat} {ts : List Dt} (hR : Rt w so ts) (hD : ∀ t ∈ ts, t.rd w) (hl : ts.length ≤ 1000000000) {f : FuncId} {cs : List Value} {p : Dt → Bool} (hF : Asks Tryz.prog f cs w ts p) : Calls Tryz.prog 56 #[.slice so ts.length ca, .func (.func f) #[] cs.toArray] w fun e w' => e = .returned (iV (qxg p ts)) ∧ Below w.heap.size w w' := by
 have M : Mg w w ([]) := Mg.start w
 refine qs (l := [(0, .slice so ts.length ca), (1, .func (.func f) #[] cs.toArray)]) Tryz.func56 rfl Tryz.ntmps56 rfl rfl ?_
 intro Q hret hnorm hP a A
 refine wsk fun K1 hK1 => wrl (sda A λa A↦?_)
 refine qa (hK1 _ _ (wsk fun K2 hK2 => wsk fun K3 hK3 => wrl (sdm A λa A↦?_)))
 refine sdo A (qn Tryz.underlying34 rfl) λa A↦?_
 refine sdm A λa A↦?_
 refine qa (hK3 _ _ (wp_block (zt (fun m_ a w1 => ∃ (i : Nat), m_ = 1 + (ts.length - i) ∧ (i ≤ ts.length ∧ ∀ j u, j < i → ts[j]? = some u → p u = false) ∧ Sl a 19 [(0, .slice so ts.length ca), (1, .func (.func f) #[] cs.toArray), (6, .slice so ts.length ca), (7, iV (((ts.length : Nat) : Int))), (8, iV (((i : Nat) : Int)))] ∧ Mg w w1 ([])) _ ⟨0, rfl, ⟨Nat.zero_le _, fun j u h => absurd h (Nat.not_lt_zero _)⟩, A.keep _ ⟨rfl, rfl, rfl, rfl, rfl, trivial⟩, M⟩ ?_)))
 clear M A
 rintro m_ a w4 ⟨i, rfl, hinv6, A, M⟩ K5 hK5
 obtain ⟨hi0, hin9⟩ := hinv6
 refine wsk fun K7 hK7 => wrl ?_
 rcases tf (decide (((i : Nat) : Int) < ((ts.length : Nat) : Int))) with hb8 | hb8
 ·
  have hb8' := of_decide_eq_true hb8
  refine sdc A qw hb8 λa A↦?_
  refine qa (hK7 _ _ (wsk fun K9 hK9 => wp_cond_true (A.ev rfl) ?_))
  refine wp_skip (hK9 _ _ (wsk fun K10 hK10 => wp_block (wsk fun K11 hK11 => wrl (sdm A λa A↦?_))))
  refine sda A λa A↦?_
  refine qa (hK11 _ _ (wsk fun K12 hK12 => ?_))
  obtain ⟨t1, bt1, ot1, it1, mt1, rt1_, lt1, Ht1⟩ := zte hR hD (i := i) (by omega)
  refine wrl ?_
  iterate 3 refine sdm A λa A↦?_
  refine sdo (v := pA bt1 (ot1 + i * 11)) A (qx (k := i) Tryz.underlying34 (by kernel_rfl) rfl rfl rfl lt1 (by omega)) λa A↦?_
  refine sdo A (xa M Ht1 xz rfl rfl) λa A↦?_
  rcases tf (p t1) with hb13 | hb13
  ·
   refine xw A rfl rfl rfl (kh rfl rfl hF.inv) ((hb13 ▸ hF.run t1 _ mt1 M.bel)) ?_
   rintro _ w15 ⟨rfl, hb14⟩
   replace M := M.call hb14
   refine ⟨_, rfl, ?_⟩
   intro a A
   refine qa (hK12 _ _ (wp_cond_true (A.ev rfl) ?_))
   refine wsk fun K16 hK16 => wrl (sdm A λa A↦?_)
   refine sda A λa A↦?_
   refine qa (hK16 _ _ (wp_ret (hret _ _ (en1 A rfl (qf rfl) ?_))))
   exact ⟨by rw [qjj hin9 it1 hb13], M.bel⟩
  ·
   refine xw A rfl rfl rfl (kh rfl rfl hF.inv) ((hb13 ▸ hF.run t1 _ mt1 M.bel)) ?_
   rintro _ w18 ⟨rfl, hb17⟩
   replace M := M.call hb17
   refine ⟨_, rfl, ?_⟩
   intro a A
   refine qa (hK12 _ _ (wp_cond_false (A.ev rfl) ?_))
   refine wp_skip (hK10 _ _ (wrl (sdo (v := iV (((i + 1 : Nat) : Int))) A (qg rfl rfl (fun w => (ja (ji (by omega) (by omega)) w).trans (by rw [show (((i : Nat) : Int) + 1 : Int) = ((i + 1 : Nat) : Int) from by omega]))) λa A↦?_)))
   refine sdm A λa A↦?_
   refine qa ?_
   replace M : Mg w w18 ([]) := by
    have h9 := M.sub (.refl _)
    exact h9
   refine hK5 _ _ _ (by omega) ⟨i + 1, rfl, ⟨by omega, fun j u hj hu => if h9 : j < i then hin9 j u h9 hu else by have h8 : j = i := (by omega); subst h8; rw [it1] at hu; rw [← Option.some.inj hu]; exact hb13⟩, A.keep _ ⟨rfl, rfl, rfl, rfl, rfl, trivial⟩, M⟩
 ·
  have hb8' := of_decide_eq_false hb8
  refine sdc A qw hb8 λa A↦?_
  refine qa (hK7 _ _ (wsk fun K19 hK19 => wp_cond_false (A.ev rfl) ?_))
  refine wp_exit (hK2 _ _ (wsk fun K20 hK20 => wrl (sda A λa A↦?_)))
  refine qa (hK20 _ _ (wp_ret (hret _ _ (en1 A rfl (qf rfl) ?_))))
  exact ⟨by rw [qfi (fun j u hj => hin9 j u (by omega))], M.bel⟩
theorem qva {w : World} {so : Option Addr} {ca : Nat} {ts : List Dt} (hR : Rt w so ts) (hD : ∀ t ∈ ts, t.rd w) (hl : ts.length ≤ 1000000000) {f : FuncId} {cs : List Value} {p : Dt → Bool} (hF : Asks Tryz.prog f cs w ts p) : Calls Tryz.prog 33 #[.slice so ts.length ca, .func (.func f) #[] cs.toArray] w fun e w' => e = .returned (bV (ts.any p)) ∧ Below w.heap.size w w' := by
 have M : Mg w w ([]) := Mg.start w
 refine qs (l := [(0, .slice so ts.length ca), (1, .func (.func f) #[] cs.toArray)]) Tryz.func33 rfl Tryz.ntmps33 rfl rfl ?_
 intro Q hret hnorm hP a A
 refine wsk fun K1 hK1 => wrl (sda A λa A↦?_)
 refine qa (hK1 _ _ (wsk fun K2 hK2 => wrl ?_))
 iterate 2 refine sdm A λa A↦?_
 refine gcl A M (ef rfl rfl) (zji (hR.below M.bel) (fun t ht => Dt.keep M.bel _ (hD t ht)) hl ⟨hF.inv, fun t w1 ht hb => hF.run t w1 ht (M.bel.trans (hb.mono M.bel.size))⟩) fun w4 hb3 M a A => ?_
 rcases tf (decide (0 ≤ qxg p ts)) with hb5 | hb5
 ·
  have hb5' := of_decide_eq_true hb5
  refine sdc A zl hb5 λa A↦?_
  refine sda A λa A↦?_
  refine qa (hK2 _ _ (wp_ret (hret _ _ (en1 A rfl (qf rfl) ?_))))
  exact ⟨by rw [← zgg p ts]; simp_all, M.bel⟩
 ·
  have hb5' := of_decide_eq_false hb5
  refine sdc A zl hb5 λa A↦?_
  refine sda A λa A↦?_
  refine qa (hK2 _ _ (wp_ret (hret _ _ (en1 A rfl (qf rfl) ?_))))
  exact ⟨by rw [← zgg p ts]; simp_all, M.bel⟩
theorem zdb {w : World} {so : Option Addr} {ca : Nat} {l : List Int} (hI : Rc w so (inC l)) (hl : l.length ≤ 2000000) {x : Int} : Calls Tryz.prog 64 #[.slice so l.length ca, iV x] w fun e w' => e = .returned (iV (ixG (fun z => x == z) l)) ∧ Below w.heap.size w w' := by
 have M : Mg w w ([]) := Mg.start w
 refine qs (l := [(0, .slice so l.length ca), (1, iV x)]) Tryz.func64 rfl Tryz.ntmps64 rfl rfl ?_
 intro Q hret hnorm hP a A
 refine wsk fun K1 hK1 => wrl (sda A λa A↦?_)
 refine qa (hK1 _ _ (wsk fun K2 hK2 => wsk fun K3 hK3 => wrl (sdm A λa A↦?_)))
 refine sdo A (qn Tryz.underlying68 rfl) λa A↦?_
 refine sdm A λa A↦?_
 refine qa (hK3 _ _ (wp_block (zt (fun m_ a w1 => ∃ (i : Nat), m_ = 1 + (l.length - i) ∧ (i ≤ l.length ∧ ∀ (j : Nat) u, j < i → l[j]? = some u → (fun z => x == z) u = false) ∧ Sl a 19 [(0, .slice so l.length ca), (1, iV x), (6, .slice so l.length ca), (7, iV (((l.length : Nat) : Int))), (8, iV (((i : Nat) : Int)))] ∧ Mg w w1 ([])) _ ⟨0, rfl, ⟨Nat.zero_le _, fun j u h => absurd h (Nat.not_lt_zero _)⟩, A.keep _ ⟨rfl, rfl, rfl, rfl, rfl, trivial⟩, M⟩ ?_)))
 clear M A
 rintro m_ a w4 ⟨i, rfl, hinv6, A, M⟩ K5 hK5
 obtain ⟨hi0, hin9⟩ := hinv6
 refine wsk fun K7 hK7 => wrl ?_
 rcases tf (decide (((i : Nat) : Int) < ((l.length : Nat) : Int))) with hb8 | hb8
 ·
  have hb8' := of_decide_eq_true hb8
  refine sdc A qw hb8 λa A↦?_
  refine qa (hK7 _ _ (wsk fun K9 hK9 => wp_cond_true (A.ev rfl) ?_))
  refine wp_skip (hK9 _ _ (wsk fun K10 hK10 => wp_block (wsk fun K11 hK11 => wrl (sdm A λa A↦?_))))
  refine sda A λa A↦?_
  refine qa (hK11 _ _ (wsk fun K12 hK12 => wrl ?_))
  iterate 3 refine sdm A λa A↦?_
  obtain ⟨bi13, oi14, zi15, hs16, hc17, hi18, hm19⟩ := qna (hI.below M.bel) (i := i) (by omega)
  refine sdo (v := pA bi13 (oi14 + i)) A (zk (k := i) Tryz.underlying68 (by kernel_rfl) rfl rfl (by first | rfl | omega) hs16 (by omega)) λa A↦?_
  refine sdo A (qfj hc17 o93 rfl) λa A↦?_
  rcases tf ((x == zi15)) with hb20 | hb20
  ·
   have hb20' := eq_of_beq hb20
   refine sdc A qr hb20 λa A↦?_
   refine qa (hK12 _ _ (wp_cond_true (A.ev rfl) ?_))
   refine wsk fun K21 hK21 => wrl (sdm A λa A↦?_)
   refine sda A λa A↦?_
   refine qa (hK21 _ _ (wp_ret (hret _ _ (en1 A rfl (qf rfl) ?_))))
   exact ⟨by rw [qkc (p := fun z => x == z) hin9 hi18 hb20], M.bel⟩
  ·
   have hb20' := ne_of_beq_false hb20
   refine sdc A qr hb20 λa A↦?_
   refine qa (hK12 _ _ (wp_cond_false (A.ev rfl) ?_))
   refine wp_skip (hK10 _ _ (wrl (sdo (v := iV (((i + 1 : Nat) : Int))) A (qg rfl rfl (fun w => (ja (ji (by omega) (by omega)) w).trans (by rw [show (((i : Nat) : Int) + 1 : Int) = ((i + 1 : Nat) : Int) from by omega]))) λa A↦?_)))
   refine sdm A λa A↦?_
   refine qa ?_
   replace M : Mg w w4 ([]) := by
    have h9 := M.sub (.refl _)
    exact h9
   refine hK5 _ _ _ (by omega) ⟨i + 1, rfl, ⟨by omega, fun j u hj hu => if h9 : j < i then hin9 j u h9 hu else by have h8 : j = i := (by omega); subst h8; rw [hi18] at hu; rw [← Option.some.inj hu]; exact hb20⟩, A.keep _ ⟨rfl, rfl, rfl, rfl, rfl, trivial⟩, M⟩
 ·
  have hb8' := of_decide_eq_false hb8
  refine sdc A qw hb8 λa A↦?_
  refine qa (hK7 _ _ (wsk fun K22 hK22 => wp_cond_false (A.ev rfl) ?_))
  refine wp_exit (hK2 _ _ (wsk fun K23 hK23 => wrl (sda A λa A↦?_)))
  refine qa (hK23 _ _ (wp_ret (hret _ _ (en1 A rfl (qf rfl) ?_))))
  exact ⟨by rw [qga (p := fun z => x == z) (fun j u hj => hin9 j u (by omega))], M.bel⟩
theorem qqa {w : World} {so : Option Addr} {ca : Nat} {l : List Int} (hI : Rc w so (inC l)) (hl : l.length ≤ 2000000) {x : Int} : Calls Tryz.prog 43 #[.slice so l.length ca, iV x] w fun e w' => e = .returned (bV (l.any fun z => x == z)) ∧ Below w.heap.size w w' := by
 have M : Mg w w ([]) := Mg.start w
 refine qs (l := [(0, .slice so l.length ca), (1, iV x)]) Tryz.func43 rfl Tryz.ntmps43 rfl rfl ?_
 intro Q hret hnorm hP a A
 refine wsk fun K1 hK1 => wrl (sda A λa A↦?_)
 refine qa (hK1 _ _ (wsk fun K2 hK2 => wrl ?_))
 iterate 2 refine sdm A λa A↦?_
 refine gcl A M (ef rfl rfl) (zdb (hI.below M.bel) hl) fun w4 hb3 M a A => ?_
 refine sdo (v := bV (decide (0 ≤ ixG (fun z => x == z) l))) A (qg rfl rfl zl) λa A↦?_
 refine sda A λa A↦?_
 refine qa (hK2 _ _ (wp_ret (hret _ _ (en1 A rfl (qf rfl) ?_))))
 exact ⟨by rw [← zha], M.bel⟩
theorem zdc {w : World} {so : Option Addr} {ca : Nat} {l : List Int} (hI : Rc w so (inC l)) (hl : l.length ≤ 2000000) {f : FuncId} {cs : List Value} {p : Int → Bool} (hF : AskG (fun z => iV z) Tryz.prog f cs w l p) : Calls Tryz.prog 77 #[.slice so l.length ca, .func (.func f) #[] cs.toArray] w fun e w' => e = .returned (iV (ixG p l)) ∧ Below w.heap.size w w' := by
 have M : Mg w w ([]) := Mg.start w
 refine qs (l := [(0, .slice so l.length ca), (1, .func (.func f) #[] cs.toArray)]) Tryz.func77 rfl Tryz.ntmps77 rfl rfl ?_
 intro Q hret hnorm hP a A
 refine wsk fun K1 hK1 => wrl (sda A λa A↦?_)
 refine qa (hK1 _ _ (wsk fun K2 hK2 => wsk fun K3 hK3 => wrl (sdm A λa A↦?_)))
 refine sdo A (qn Tryz.underlying68 rfl) λa A↦?_
 refine sdm A λa A↦?_
 refine qa (hK3 _ _ (wp_block (zt (fun m_ a w1 => ∃ (i : Nat), m_ = 1 + (l.length - i) ∧ (i ≤ l.length ∧ ∀ (j : Nat) u, j < i → l[j]? = some u → p u = false) ∧ Sl a 19 [(0, .slice so l.length ca), (1, .func (.func f) #[] cs.toArray), (6, .slice so l.length ca), (7, iV (((l.length : Nat) : Int))), (8, iV (((i : Nat) : Int)))] ∧ Mg w w1 ([])) _ ⟨0, rfl, ⟨Nat.zero_le _, fun j u h => absurd h (Nat.not_lt_zero _)⟩, A.keep _ ⟨rfl, rfl, rfl, rfl, rfl, trivial⟩, M⟩ ?_)))
 clear M A
 rintro m_ a w4 ⟨i, rfl, hinv6, A, M⟩ K5 hK5
 obtain ⟨hi0, hin9⟩ := hinv6
 refine wsk fun K7 hK7 => wrl ?_
 rcases tf (decide (((i : Nat) : Int) < ((l.length : Nat) : Int))) with hb8 | hb8
 ·
  have hb8' := of_decide_eq_true hb8
  refine sdc A qw hb8 λa A↦?_
  refine qa (hK7 _ _ (wsk fun K9 hK9 => wp_cond_true (A.ev rfl) ?_))
  refine wp_skip (hK9 _ _ (wsk fun K10 hK10 => wp_block (wsk fun K11 hK11 => wrl (sdm A λa A↦?_))))
  refine sda A λa A↦?_
  refine qa (hK11 _ _ (wsk fun K12 hK12 => wrl ?_))
  iterate 3 refine sdm A λa A↦?_
  obtain ⟨bi13, oi14, zi15, hs16, hc17, hi18, hm19⟩ := qna (hI.below M.bel) (i := i) (by omega)
  refine sdo (v := pA bi13 (oi14 + i)) A (zk (k := i) Tryz.underlying68 (by kernel_rfl) rfl rfl (by first | rfl | omega) hs16 (by omega)) λa A↦?_
  refine sdo A (qfj hc17 o93 rfl) λa A↦?_
  rcases tf (p zi15) with hb20 | hb20
  ·
   refine xw A rfl rfl rfl (kh rfl rfl hF.inv) ((hb20 ▸ hF.run zi15 _ hm19 M.bel)) ?_
   rintro _ w22 ⟨rfl, hb21⟩
   replace M := M.call hb21
   refine ⟨_, rfl, ?_⟩
   intro a A
   refine qa (hK12 _ _ (wp_cond_true (A.ev rfl) ?_))
   refine wsk fun K23 hK23 => wrl (sdm A λa A↦?_)
   refine sda A λa A↦?_
   refine qa (hK23 _ _ (wp_ret (hret _ _ (en1 A rfl (qf rfl) ?_))))
   exact ⟨by rw [qkc (p := p) hin9 hi18 hb20], M.bel⟩
  ·
   refine xw A rfl rfl rfl (kh rfl rfl hF.inv) ((hb20 ▸ hF.run zi15 _ hm19 M.bel)) ?_
   rintro _ w25 ⟨rfl, hb24⟩
   replace M := M.call hb24
   refine ⟨_, rfl, ?_⟩
   intro a A
   refine qa (hK12 _ _ (wp_cond_false (A.ev rfl) ?_))
   refine wp_skip (hK10 _ _ (wrl (sdo (v := iV (((i + 1 : Nat) : Int))) A (qg rfl rfl (fun w => (ja (ji (by omega) (by omega)) w).trans (by rw [show (((i : Nat) : Int) + 1 : Int) = ((i + 1 : Nat) : Int) from by omega]))) λa A↦?_)))
   refine sdm A λa A↦?_
   refine qa ?_
   replace M : Mg w w25 ([]) := by
    have h9 := M.sub (.refl _)
    exact h9
   refine hK5 _ _ _ (by omega) ⟨i + 1, rfl, ⟨by omega, fun j u hj hu => if h9 : j < i then hin9 j u h9 hu else by have h8 : j = i := (by omega); subst h8; rw [hi18] at hu; rw [← Option.some.inj hu]; exact hb20⟩, A.keep _ ⟨rfl, rfl, rfl, rfl, rfl, trivial⟩, M⟩
 ·
  have hb8' := of_decide_eq_false hb8
  refine sdc A qw hb8 λa A↦?_
  refine qa (hK7 _ _ (wsk fun K26 hK26 => wp_cond_false (A.ev rfl) ?_))
  refine wp_exit (hK2 _ _ (wsk fun K27 hK27 => wrl (sda A λa A↦?_)))
  refine qa (hK27 _ _ (wp_ret (hret _ _ (en1 A rfl (qf rfl) ?_))))
  exact ⟨by rw [qga (p := p) (fun j u hj => hin9 j u (by omega))], M.bel⟩
theorem qqb {w : World} {so : Option Addr} {ca : Nat} {l : List Int} (hI : Rc w so (inC l)) (hl : l.length ≤ 2000000) {f : FuncId} {cs : List Value} {p : Int → Bool} (hF : AskG (fun z => iV z) Tryz.prog f cs w l p) : Calls Tryz.prog 65 #[.slice so l.length ca, .func (.func f) #[] cs.toArray] w fun e w' => e = .returned (bV (l.any p)) ∧ Below w.heap.size w w' := by
 have M : Mg w w ([]) := Mg.start w
 refine qs (l := [(0, .slice so l.length ca), (1, .func (.func f) #[] cs.toArray)]) Tryz.func65 rfl Tryz.ntmps65 rfl rfl ?_
 intro Q hret hnorm hP a A
 refine wsk fun K1 hK1 => wrl (sda A λa A↦?_)
 refine qa (hK1 _ _ (wsk fun K2 hK2 => wrl ?_))
 iterate 2 refine sdm A λa A↦?_
 refine gcl A M (ef rfl rfl) (zdc (hI.below M.bel) hl (hF.below M.bel)) fun w4 hb3 M a A => ?_
 refine sdo (v := bV (decide (0 ≤ ixG p l))) A (qg rfl rfl zl) λa A↦?_
 refine sda A λa A↦?_
 refine qa (hK2 _ _ (wp_ret (hret _ _ (en1 A rfl (qf rfl) ?_))))
 exact ⟨by rw [← zha], M.bel⟩
def ckT (n : Nat) (t : Int) : Int := if okT n t = true then 0 else 7
theorem qdb {w : World} {b tc rc : Nat} {tz ro : Option Addr} {ts : List Ty} {rs : List Rk} (S : SR w b tz tc ts ro rc rs) (hW : WS (ts.map Ty.k) (rs.map Rk.k)) {t : Int} : Calls Tryz.prog 32 #[pA b 0, iV t] w fun e w' => e = .returned (iV (ckT ts.length t)) ∧ Below w.heap.size w w' := by
 have M : Mg w w ([]) := Mg.start w
 refine qs (l := [(0, pA b 0), (1, iV t)]) Tryz.func32 rfl Tryz.ntmps32 rfl rfl ?_
 intro Q hret hnorm hP a A
 refine wsk fun K1 hK1 => wrl (sda A λa A↦?_)
 refine qa (hK1 _ _ (wsk fun K2 hK2 => wp_block (wsk fun K3 hK3 => wrl (sdm A λa A↦?_))))
 refine sdo (v := bV false) A (qg rfl rfl (fun w => by kernel_rfl)) λa A↦?_
 refine sda A λa A↦?_
 refine qa (hK3 _ _ (wp_cond_false (A.ev rfl) ?_))
 refine wsk fun K4 hK4 => wrl (sdm A λa A↦?_)
 rcases tf (decide (t < 0)) with hb5 | hb5
 ·
  have hb5' := of_decide_eq_true hb5
  refine sdc A qw hb5 λa A↦?_
  refine sdm A λa A↦?_
  iterate 7 refine qj A rfl rfl rfl λa A↦?_
  refine sdk (v := bV true) A λa A↦?_
  refine sda A λa A↦?_
  refine qa (hK4 _ _ (wp_cond_true (A.ev rfl) ?_))
  refine wsk fun K6 hK6 => wrl (sda A λa A↦?_)
  refine qa (hK6 _ _ (wp_ret (hret _ _ (en1 A rfl (qf rfl) ?_))))
  exact ⟨by rw [show ckT ts.length t = 7 from by unfold ckT okT; rw [if_neg (by simp; omega)]], M.bel⟩
 ·
  have hb5' := of_decide_eq_false hb5
  refine sdc A qw hb5 λa A↦?_
  iterate 3 refine sdm A λa A↦?_
  refine sdo A (zh rfl) λa A↦?_
  refine sdo (v := pA b 0) A (qb jw rfl rfl) λa A↦?_
  refine sdo A (E.m_loadX M S.c0 xn rfl) λa A↦?_
  refine sdo A (qn Tryz.underlying26 rfl) λa A↦?_
  rcases tf (decide (((ts.length : Nat) : Int) ≤ t)) with hb7 | hb7
  ·
   have hb7' := of_decide_eq_true hb7
   refine sdc A zl hb7 λa A↦?_
   refine sdk (v := bV true) A λa A↦?_
   refine sda A λa A↦?_
   refine qa (hK4 _ _ (wp_cond_true (A.ev rfl) ?_))
   refine wsk fun K8 hK8 => wrl (sda A λa A↦?_)
   refine qa (hK8 _ _ (wp_ret (hret _ _ (en1 A rfl (qf rfl) ?_))))
   exact ⟨by rw [show ckT ts.length t = 7 from by unfold ckT okT; rw [if_neg (by simp; omega)]], M.bel⟩
  ·
   have hb7' := of_decide_eq_false hb7
   refine sdc A zl hb7 λa A↦?_
   refine sdk (v := bV false) A λa A↦?_
   refine sda A λa A↦?_
   refine qa (hK4 _ _ (wp_cond_false (A.ev rfl) ?_))
   refine wp_skip (hK2 _ _ (wsk fun K9 hK9 => wrl (sda A λa A↦?_)))
   refine qa (hK9 _ _ (wp_ret (hret _ _ (en1 A rfl (qf rfl) ?_))))
   exact ⟨by rw [show ckT ts.length t = 0 from by unfold ckT okT; rw [if_pos (by simp; omega)]], M.bel⟩
theorem qah {w : World} {b tc rc : Nat} {tz ro : Option Addr} {ts : List Ty} {rs : List Rk} (S : SR w b tz tc ts ro rc rs) (hW : WS (ts.map Ty.k) (rs.map Rk.k)) {t : Int} : Calls Tryz.prog 42 #[pA b 0, iV t] w fun e w' => e = .returned (iV (ckT rs.length t)) ∧ Below w.heap.size w w' := by
 have M : Mg w w ([]) := Mg.start w
 refine qs (l := [(0, pA b 0), (1, iV t)]) Tryz.func42 rfl Tryz.ntmps42 rfl rfl ?_
 intro Q hret hnorm hP a A
 refine wsk fun K1 hK1 => wrl (sda A λa A↦?_)
 refine qa (hK1 _ _ (wsk fun K2 hK2 => wp_block (wsk fun K3 hK3 => wrl (sdm A λa A↦?_))))
 refine sdo (v := bV false) A (qg rfl rfl (fun w => by kernel_rfl)) λa A↦?_
 refine sda A λa A↦?_
 refine qa (hK3 _ _ (wp_cond_false (A.ev rfl) ?_))
 refine wsk fun K4 hK4 => wrl (sdm A λa A↦?_)
 rcases tf (decide (t < 0)) with hb5 | hb5
 ·
  have hb5' := of_decide_eq_true hb5
  refine sdc A qw hb5 λa A↦?_
  refine sdm A λa A↦?_
  iterate 7 refine qj A rfl rfl rfl λa A↦?_
  refine sdk (v := bV true) A λa A↦?_
  refine sda A λa A↦?_
  refine qa (hK4 _ _ (wp_cond_true (A.ev rfl) ?_))
  refine wsk fun K6 hK6 => wrl (sda A λa A↦?_)
  refine qa (hK6 _ _ (wp_ret (hret _ _ (en1 A rfl (qf rfl) ?_))))
  exact ⟨by rw [show ckT rs.length t = 7 from by unfold ckT okT; rw [if_neg (by simp; omega)]], M.bel⟩
 ·
  have hb5' := of_decide_eq_false hb5
  refine sdc A qw hb5 λa A↦?_
  iterate 3 refine sdm A λa A↦?_
  refine sdo A (zh rfl) λa A↦?_
  refine sdo (v := pA b 1) A (qb ka rfl rfl) λa A↦?_
  refine sdo A (E.m_loadX M S.c1 qib rfl) λa A↦?_
  refine sdo A (qn Tryz.underlying71 rfl) λa A↦?_
  rcases tf (decide (((rs.length : Nat) : Int) ≤ t)) with hb7 | hb7
  ·
   have hb7' := of_decide_eq_true hb7
   refine sdc A zl hb7 λa A↦?_
   refine sdk (v := bV true) A λa A↦?_
   refine sda A λa A↦?_
   refine qa (hK4 _ _ (wp_cond_true (A.ev rfl) ?_))
   refine wsk fun K8 hK8 => wrl (sda A λa A↦?_)
   refine qa (hK8 _ _ (wp_ret (hret _ _ (en1 A rfl (qf rfl) ?_))))
   exact ⟨by rw [show ckT rs.length t = 7 from by unfold ckT okT; rw [if_neg (by simp; omega)]], M.bel⟩
  ·
   have hb7' := of_decide_eq_false hb7
   refine sdc A zl hb7 λa A↦?_
   refine sdk (v := bV false) A λa A↦?_
   refine sda A λa A↦?_
   refine qa (hK4 _ _ (wp_cond_false (A.ev rfl) ?_))
   refine wp_skip (hK2 _ _ (wsk fun K9 hK9 => wrl (sda A λa A↦?_)))
   refine qa (hK9 _ _ (wp_ret (hret _ _ (en1 A rfl (qf rfl) ?_))))
   exact ⟨by rw [show ckT rs.length t = 0 from by unfold ckT okT; rw [if_pos (by simp; omega)]], M.bel⟩
theorem zwg {n : Nat} {t : Int} (h : okT n t = true) : ckT n t = 0 := if_pos h
theorem zwh {n : Nat} {t : Int} (h : okT n t = false) : ckT n t = 7 := if_neg (by rw [h]; decide)
theorem vp {w : World} {b tc rc : Nat} {tz ro : Option Addr} {ts : List Ty} {rs : List Rk} (S : SR w b tz tc ts ro rc rs) (hW : WS (ts.map Ty.k) (rs.map Rk.k)) {t : Int} (h : okT ts.length t = true) : Calls Tryz.prog 32 #[pA b 0, iV t] w fun e w' => e = .returned (iV 0) ∧ Below w.heap.size w w' := zwg h ▸ qdb S hW
theorem kv {w : World} {b tc rc : Nat} {tz ro : Option Addr} {ts : List Ty} {rs : List Rk} (S : SR w b tz tc ts ro rc rs) (hW : WS (ts.map Ty.k) (rs.map Rk.k)) {t : Int} (h : okT ts.length t = false) : Calls Tryz.prog 32 #[pA b 0, iV t] w fun e w' => e = .returned (iV 7) ∧ Below w.heap.size w w' := zwh h ▸ qdb S hW
theorem qdc {w : World} {b tc rc : Nat} {tz ro : Option Addr} {ts : List Ty} {rs : List Rk} (S : SR w b tz tc ts ro rc rs) (hW : WS (ts.map Ty.k) (rs.map Rk.k)) {t : Int} (h : okT rs.length t = true) : Calls Tryz.prog 42 #[pA b 0, iV t] w fun e w' => e = .returned (iV 0) ∧ Below w.heap.size w w' := zwg h ▸ qah S hW
theorem qdd {w : World} {b tc rc : Nat} {tz ro : Option Addr} {ts : List Ty} {rs : List Rk} (S : SR w b tz tc ts ro rc rs) (hW : WS (ts.map Ty.k) (rs.map Rk.k)) {t : Int} (h : okT rs.length t = false) : Calls Tryz.prog 42 #[pA b 0, iV t] w fun e w' => e = .returned (iV 7) ∧ Below w.heap.size w w' := zwh h ▸ qah S hW
theorem qie {w : World} {b tc rc : Nat} {tz ro : Option Addr} {ts : List Ty} {rs : List Rk} (S : SR w b tz tc ts ro rc rs) (hW : WS (ts.map Ty.k) (rs.map Rk.k)) {t : Int} (h0 : -1 ≤ t) (h1 : t < ((ts.length : Nat) : Int)) : Calls Tryz.prog 44 #[pA b 0, iV t] w fun e w' => ∃ so' ca', e = .returned (.slice so' (chT (prs (ts.map Ty.k)) t).length ca') ∧ Mg w w' [.row 3 1 (.slice so' (chT (prs (ts.map Ty.k)) t).length ca') (chT (prs (ts.map Ty.k)) t).length (inC (chT (prs (ts.map Ty.k)) t))] := by
 have hkl := hW.kl
 have hrl := hW.rl
 rw [List.length_map] at hkl hrl
 have hcl := ub (prs (ts.map Ty.k)) t
 have M : Mg w w ([]) := Mg.start w
 refine qs (l := [(0, pA b 0), (1, iV t)]) Tryz.func44 rfl Tryz.ntmps44 rfl rfl ?_
 intro Q hret hnorm hP a A
 refine wsk fun K1 hK1 => wrl (sda A λa A↦?_)
 refine qa (hK1 _ _ (wsk fun K2 hK2 => wrl (sda A λa A↦?_)))
 refine qa (hK2 _ _ (wsk fun K3 hK3 => wp_block ?_))
 replace M := M.nilRow (qk qm) 3 1
 refine zt (fun m_ a w1 => ∃ (t1 : Int) (xs : List Int) (so_ : Option Addr) (ca_ : Nat), m_ = 1 + (t1 + 1).toNat ∧ (-1 ≤ t1 ∧ t1 < ((ts.length : Nat) : Int) ∧ xs ++ chT (prs (ts.map Ty.k)) t1 = (chT (prs (ts.map Ty.k)) t)) ∧ Sl a 21 [(0, pA b 0), (1, iV t1), (4, .slice none 0 0), (5, .slice so_ xs.length ca_)] ∧ Mg w w1 (.row 3 1 (.slice so_ xs.length ca_) xs.length (inC xs) :: [])) _ ⟨t, [], none, 0, rfl, ⟨h0, h1, rfl⟩, A.keep _ ⟨rfl, rfl, rfl, rfl, trivial⟩, M⟩ ?_
 clear M A
 rintro m_ a w4 ⟨t1, xs, so_, ca_, rfl, hinv6, A, M⟩ K5 hK5
 obtain ⟨ht0, ht1, hxs⟩ := hinv6
 have hxl : xs.length ≤ (chT (prs (ts.map Ty.k)) t).length := by rw [← hxs, List.length_append]; omega
 refine wsk fun K7 hK7 => wsk fun K8 hK8 => wrl (sdm A λa A↦?_)
 rcases tf ((t1 != -1)) with hb9 | hb9
 ·
  have hb9' := bne_iff_ne.1 hb9
  refine sdc A zg hb9 λa A↦?_
  refine qa (hK8 _ _ (wp_cond_true (A.ev rfl) ?_))
  refine wp_skip (hK7 _ _ (wp_block (wsk fun K10 hK10 => wrl ?_)))
  iterate 2 refine sdm A λa A↦?_
  refine xr (e := 3) (sz := 1) (m := 1) (vs := inC [t1]) A M rfl rfl rfl (qy rfl (by kernel_rfl)) rfl rfl (.inl (by decide)) ?_
  intro g11 w12 M a A
  refine jo (e := 3) (sz := 1) (k := 1) (q := xs.length) (m := 1) (xs := inC xs) (news := inC [t1]) (L' := fun v13 => (.row 3 1 (.slice (aO g11) 1 1) 1 (inC [t1]) :: .row 3 1 (v13) (xs.length + 1) (inC xs ++ inC [t1]) :: [])) A rfl rfl rfl (xb (z := iV 0) (sz := 1) (by_ := 8) Tryz.underlying68 (by kernel_rfl) rfl rfl rfl M 1 rfl rfl rfl rfl (rc_own (M.has 0 rfl)) (zgj [t1]) (by first | omega | (simp only [List.length_nil]; omega))) (fun _ => rfl) ?_
  intro v13 w14 M a A
  replace M : Mg w w14 (.row 3 1 (.slice (aO g11) 1 1) 1 (inC [t1]) :: .row 3 1 (v13) ((xs ++ [t1]).length) (inC (xs ++ [t1])) :: []) := by
   rw [qmj, List.length_append]; exact M
  obtain ⟨so15, ca16, rfl⟩ := jg (M.has 1 rfl)
  refine sda A λa A↦?_
  refine qa (hK10 _ _ ?_)
  obtain ⟨ty17, bt18, ot19, it20, mt21, rt22, lt23, Ht24⟩ := S.T.at_ (i := t1.toNat) (by omega)
  have hpl := hW.par_lt (zn it20)
  rw [show ty17.k.par = ty17.par from rfl] at hpl
  refine wrl (sdm A λa A↦?_)
  refine sdo A (zh rfl) λa A↦?_
  refine sdo (v := pA b 0) A (qb jw rfl rfl) λa A↦?_
  refine sdo A (E.m_loadX M S.c0 xn rfl) λa A↦?_
  refine sdm A λa A↦?_
  refine sdo (v := pA bt18 (ot19 + t1.toNat * 7)) A (qx (k := t1.toNat) Tryz.underlying26 (by kernel_rfl) rfl rfl (by first | rfl | omega) lt23 (by omega)) λa A↦?_
  refine sdo (v := pA bt18 (ot19 + t1.toNat * 7 + 1)) A (qb ju rfl rfl) λa A↦?_
  refine sdo A (jj (j := 1) M Ht24 o93 rfl rfl rfl) λa A↦?_
  refine sda A λa A↦?_
  refine qa ?_
  replace M : Mg w w14 (.row 3 1 (.slice so15 ((xs ++ [t1]).length) ca16) ((xs ++ [t1]).length) (inC (xs ++ [t1])) :: []) := by
   have h9 := M.sub (cn (cc (.refl _)))
   exact h9
  refine hK5 _ _ _ (by omega) ⟨ty17.par, xs ++ [t1], so15, ca16, rfl, ⟨hpl.1, by omega, by rw [List.append_assoc, ← hxs, qmg hW.wf (show 0 ≤ t1 by omega), qud (zn it20)]; rfl⟩, A.keep _ ⟨rfl, rfl, rfl, rfl, trivial⟩, M⟩
 ·
  have hb9' := bne_eq_false_iff_eq.1 hb9
  refine sdc A zg hb9 λa A↦?_
  refine qa (hK8 _ _ (wp_cond_false (A.ev rfl) ?_))
  refine wp_exit (hK3 _ _ (wsk fun K25 hK25 => wrl (sdm A λa A↦?_)))
  refine sda A λa A↦?_
  refine qa (hK25 _ _ (wp_ret (hret _ _ (en1 A rfl (qf rfl) ?_))))
  replace M : Mg w w4 (.row 3 1 (.slice so_ xs.length ca_) xs.length (inC xs) :: []) := by
   have h9 := M.sub (cc (.refl _))
   exact h9
  have e9 : xs = (chT (prs (ts.map Ty.k)) t) := by rw [← hxs, qub (show t1 < 0 by omega), List.append_nil]
  subst e9
  exact ⟨_, _, rfl, M⟩
theorem qvb {ks : List TK} {rr : List (Nat × List Tr)} (hW : WS ks rr) {l : List Int} {t : Int} (hm : ∀ x ∈ l, 0 ≤ x ∧ x ≤ t) (ht : t < ((ks.length : Nat) : Int)) : ∀ i : Nat, qmh ks (l.take i) ≤ 16 * i
 | 0 => by simp [qmh]
 | i + 1 => by
  have ih := qvb hW hm ht i
  by_cases hi : i < l.length
  ·
   have e : l[i]? = some l[i] := List.getElem?_eq_getElem hi
   have hx := hm _ (List.getElem_mem hi)
   have hk : ks[(l[i]).toNat]? = some (ks[(l[i]).toNat]'(by omega)) := List.getElem?_eq_getElem _
   have := hW.nf16 hk
   rw [qhj e, qia hk]
   omega
  ·
   rw [List.take_of_length_le (by omega)] at ih ⊢
   omega
theorem vq {w : World} {b tc rc : Nat} {tz ro : Option Addr} {ts : List Ty} {rs : List Rk} (S : SR w b tz tc ts ro rc rs) (hW : WS (ts.map Ty.k) (rs.map Rk.k)) {t : Int} (h0 : -1 ≤ t) (h1 : t < ((ts.length : Nat) : Int)) : Calls Tryz.prog 28 #[pA b 0, iV t] w fun e w' => e = .returned (iV ((cnt (ts.map Ty.k) t : Nat) : Int)) ∧ Below w.heap.size w w' := by
 have hkl := hW.kl
 have hrl := hW.rl
 rw [List.length_map] at hkl hrl
 have hcl := ub (prs (ts.map Ty.k)) t
 have M : Mg w w ([]) := Mg.start w
 refine qs (l := [(0, pA b 0), (1, iV t)]) Tryz.func28 rfl Tryz.ntmps28 rfl rfl ?_
 intro Q hret hnorm hP a A
 refine wsk fun K1 hK1 => wrl (sda A λa A↦?_)
 refine qa (hK1 _ _ (wsk fun K2 hK2 => wrl (sda A λa A↦?_)))
 refine qa (hK2 _ _ (wsk fun K3 hK3 => wsk fun K4 hK4 => wrl ?_))
 iterate 2 refine sdm A λa A↦?_
 refine sct A (ef rfl rfl) (qie (S.below M.bel) hW (by omega) (by omega)) ?_
 rintro _ w8 ⟨so5, ca6, rfl, hM7⟩
 replace M : Mg w w8 (.row 3 1 (.slice so5 ((chT (prs (ts.map Ty.k)) t).length) ca6) ((chT (prs (ts.map Ty.k)) t).length) (inC (chT (prs (ts.map Ty.k)) t)) :: []) := (M.both hM7 (qk qm) (qi (by simp) (qk qm)))
 refine ⟨_, rfl, ?_⟩
 intro a A
 refine sdo A (qn Tryz.underlying68 rfl) λa A↦?_
 refine sdm A λa A↦?_
 refine qa (hK4 _ _ (wp_block (zt (fun m_ a w1 => ∃ (i : Nat) (n : Nat), m_ = 1 + ((chT (prs (ts.map Ty.k)) t).length - i) ∧ (i ≤ (chT (prs (ts.map Ty.k)) t).length ∧ n = qmh (ts.map Ty.k) ((chT (prs (ts.map Ty.k)) t).take i)) ∧ Sl a 29 [(0, pA b 0), (1, iV t), (4, iV 0), (5, iV (((n : Nat) : Int))), (8, pA b 0), (9, iV t), (10, .slice so5 ((chT (prs (ts.map Ty.k)) t).length) ca6), (11, iV ((((chT (prs (ts.map Ty.k)) t).length : Nat) : Int))), (12, iV (((i : Nat) : Int)))] ∧ Mg w w1 (.row 3 1 (.slice so5 ((chT (prs (ts.map Ty.k)) t).length) ca6) ((chT (prs (ts.map Ty.k)) t).length) (inC (chT (prs (ts.map Ty.k)) t)) :: [])) _ ⟨0, 0, rfl, ⟨Nat.zero_le _, rfl⟩, A.keep _ (by repeat' constructor), M⟩ ?_)))
 clear M A
 rintro m_ a w9 ⟨i, n, rfl, hinv11, A, M⟩ K10 hK10
 obtain ⟨hi0, hn⟩ := hinv11
 have hsum := qvb hW (l := (chT (prs (ts.map Ty.k)) t)) (fun x hx => qaa hW.wf hx) (by rw [List.length_map]; exact h1) i
 refine wsk fun K12 hK12 => wrl ?_
 rcases tf (decide (((i : Nat) : Int) < (((chT (prs (ts.map Ty.k)) t).length : Nat) : Int))) with hb13 | hb13
 ·
  have hb13' := of_decide_eq_true hb13
  refine sdc A qw hb13 λa A↦?_
  refine qa (hK12 _ _ (wsk fun K14 hK14 => wp_cond_true (A.ev rfl) ?_))
  refine wp_skip (hK14 _ _ (wsk fun K15 hK15 => wp_block (wsk fun K16 hK16 => wrl ?_)))
  obtain ⟨bi17, oi18, zi19, hs20, hc21, hi22, hm23⟩ := qna (rc_own (M.has 0 rfl)) (i := i) (by omega)
  refine sdo (v := pA bi17 (oi18 + i)) A (zk (k := i) Tryz.underlying68 (by kernel_rfl) rfl rfl (by first | rfl | omega) hs20 (by omega)) λa A↦?_
  refine sdo A (qfj hc21 o93 rfl) λa A↦?_
  refine sda A λa A↦?_
  refine qa (hK16 _ _ ?_)
  have hzz := qaa hW.wf hm23
  obtain ⟨ty24, bt25, ot26, it27, mt28, rt29, lt30, Ht31⟩ := S.T.at_ (i := zi19.toNat) (by omega)
  have hnf := hW.nf16 (zn it27)
  rw [show ty24.k.fs.length = ty24.fs.length from rfl] at hnf
  refine wrl ?_
  iterate 2 refine sdm A λa A↦?_
  refine sdo A (zh rfl) λa A↦?_
  refine sdo (v := pA b 0) A (qb jw rfl rfl) λa A↦?_
  refine sdo A (E.m_loadX M S.c0 xn rfl) λa A↦?_
  refine sdm A λa A↦?_
  refine sdo (v := pA bt25 (ot26 + zi19.toNat * 7)) A (qx (k := zi19.toNat) Tryz.underlying26 (by kernel_rfl) rfl rfl (by first | rfl | omega) lt30 (by omega)) λa A↦?_
  refine sdo (v := pA bt25 (ot26 + zi19.toNat * 7 + 2)) A (qb xu rfl rfl) λa A↦?_
  refine sdo A (jj (j := 2) M Ht31 qai rfl rfl rfl) λa A↦?_
  refine sdo A (qn Tryz.underlying30 rfl) λa A↦?_
  refine sdo (v := iV (((n + ty24.fs.length : Nat) : Int))) A (qg rfl rfl (fun w => (ja (ji (by omega) (by omega)) w).trans (by rw [show (((n : Nat) : Int) + ((ty24.fs.length : Nat) : Int) : Int) = ((n + ty24.fs.length : Nat) : Int) from by omega]))) λa A↦?_
  refine sda A λa A↦?_
  refine qa (hK15 _ _ (wrl (sdo (v := iV (((i + 1 : Nat) : Int))) A (qg rfl rfl (fun w => (ja (ji (by omega) (by omega)) w).trans (by rw [show (((i : Nat) : Int) + 1 : Int) = ((i + 1 : Nat) : Int) from by omega]))) λa A↦?_)))
  refine sdm A λa A↦?_
  refine qa ?_
  replace M : Mg w w9 (.row 3 1 (.slice so5 ((chT (prs (ts.map Ty.k)) t).length) ca6) ((chT (prs (ts.map Ty.k)) t).length) (inC (chT (prs (ts.map Ty.k)) t)) :: []) := by
   have h9 := M.sub (cc (.refl _))
   exact h9
  refine hK10 _ _ _ (by omega) ⟨i + 1, n + ty24.fs.length, rfl, ⟨by omega, by rw [qhj hi22, qia (zn it27), hn]; rfl⟩, A.keep _ (by repeat' constructor), M⟩
 ·
  have hb13' := of_decide_eq_false hb13
  refine sdc A qw hb13 λa A↦?_
  refine qa (hK12 _ _ (wsk fun K32 hK32 => wp_cond_false (A.ev rfl) ?_))
  refine wp_exit (hK3 _ _ (wsk fun K33 hK33 => wrl (sdm A λa A↦?_)))
  refine sda A λa A↦?_
  refine qa (hK33 _ _ (wp_ret (hret _ _ (en1 A rfl (qf rfl) ?_))))
  have e9 : n = cnt (ts.map Ty.k) t := by rw [hn, List.take_of_length_le (by omega)]; rfl
  exact ⟨by rw [e9], M.bel⟩
theorem qyf {w : World} {b tc rc : Nat} {tz ro : Option Addr} {ts : List Ty} {rs : List Rk} (S : SR w b tz tc ts ro rc rs) (hW : WS (ts.map Ty.k) (rs.map Rk.k)) {gb : Nat} (hg : w.cell? ⟨gb, 0, none⟩ = some (pA b 0)) {t : Int} (h0 : 0 ≤ t) (h1 : t < ((ts.length : Nat) : Int)) : Calls Tryz.prog 66 #[iV t, pA gb 0] w fun e w' => e = .returned (bV (zjd (ts.map Ty.k) t)) ∧ Below w.heap.size w w' := by
 have M : Mg w w ([]) := Mg.start w
 refine qs (l := [(0, iV t), (1, pA gb 0)]) Tryz.func66 rfl Tryz.ntmps66 rfl rfl ?_
 intro Q hret hnorm hP a A
 refine wsk fun K1 hK1 => wrl (sda A λa A↦?_)
 refine qa (hK1 _ _ (wsk fun K2 hK2 => wrl (sdo A (E.m_loadX M hg jab rfl) λa A↦?_)))
 refine sdo A (zh rfl) λa A↦?_
 refine sdo (v := pA b 0) A (qb jw rfl rfl) λa A↦?_
 refine sdo A (E.m_loadX M S.c0 xn rfl) λa A↦?_
 refine sdm A λa A↦?_
 obtain ⟨ty3, bt4, ot5, it6, mt7, rt8, lt9, Ht10⟩ := S.T.at_ (i := t.toNat) (by omega)
 refine sdo (v := pA bt4 (ot5 + t.toNat * 7)) A (qx (k := t.toNat) Tryz.underlying26 (by kernel_rfl) rfl rfl (by first | rfl | omega) lt9 (by omega)) λa A↦?_
 refine sdo (v := pA bt4 (ot5 + t.toNat * 7 + 5)) A (qb qeb rfl rfl) λa A↦?_
 refine sdo A (jj (j := 5) M Ht10 o94 rfl rfl rfl) λa A↦?_
 refine sda A λa A↦?_
 refine qa (hK2 _ _ (wp_ret (hret _ _ (en1 A rfl (qf rfl) ?_))))
 exact ⟨by rw [quc (zn it6)]; rfl, M.bel⟩
theorem qgd {w : World} {b tc rc : Nat} {tz ro : Option Addr} {ts : List Ty} {rs : List Rk} (S : SR w b tz tc ts ro rc rs) (hW : WS (ts.map Ty.k) (rs.map Rk.k)) {t : Int} (h0 : -1 ≤ t) (h1 : t < ((ts.length : Nat) : Int)) : Calls Tryz.prog 46 #[pA b 0, iV t] w fun e w' => e = .returned (bV (opq (ts.map Ty.k) t)) ∧ Below w.heap.size w w' := by
 have hkl := hW.kl
 have hrl := hW.rl
 rw [List.length_map] at hkl hrl
 have hcl := ub (prs (ts.map Ty.k)) t
 have M : Mg w w ([]) := Mg.start w
 refine qs (l := [(0, pA b 0), (1, iV t)]) Tryz.func46 rfl Tryz.ntmps46 rfl rfl ?_
 intro Q hret hnorm hP a A
 refine wsk fun K1 hK1 => wrl (zy (vs := [pA b 0]) (t := 24) A M rfl rfl rfl pg (zf rfl rfl) (by decide) ?_)
 intro g2 w3 M a A
 refine sda A λa A↦?_
 refine qa (hK1 _ _ (wsk fun K4 hK4 => wrl (sdo A (qh M jab rfl 0 rfl rfl) λa A↦?_)))
 refine sdm A λa A↦?_
 refine sct A (ef rfl rfl) (qie (S.below M.bel) hW (by omega) (by omega)) ?_
 rintro _ w8 ⟨so5, ca6, rfl, hM7⟩
 replace M : Mg w w8 (.row 3 1 (.slice so5 ((chT (prs (ts.map Ty.k)) t).length) ca6) ((chT (prs (ts.map Ty.k)) t).length) (inC (chT (prs (ts.map Ty.k)) t)) :: .obj g2 (.cells #[pA b 0] 24) :: []) := (M.both hM7 (qi (by simp) (qk qm)) (qi (by simp) (qk qm)))
 refine ⟨_, rfl, ?_⟩
 intro a A
 refine sdo (v := .func (.func 66) #[] [pA g2 0].toArray) A (uf rfl) λa A↦?_
 refine gcl A M (ef rfl rfl) (qqb (l := (chT (prs (ts.map Ty.k)) t)) (rc_own (M.has 0 rfl)) (by omega) ⟨fun us w => by kernel_rfl, fun z w1 hz hb => (fun hz2 => qyf ((S.below M.bel).below hb) hW ((hb.cell (cell_lt (M.cell 1 rfl 0 rfl))).trans (M.cell 1 rfl 0 rfl)) hz2.1 (by omega)) (qaa hW.wf hz)⟩) fun w10 hb9 M a A => ?_
 refine sda A λa A↦?_
 refine qa (hK4 _ _ (wp_ret (hret _ _ (en1 A rfl (qf rfl) ?_))))
 exact ⟨rfl, M.bel⟩
end Go.Proofs.YtokgmpjblnpjmaaGreatDoor.G
namespace Go.Proofs.YtokgmpjblnpjmaaGreatDoor.G.E
open Go.RowKit
set_option linter.unusedVariables false
set_option linter.unusedSimpArgs false
section
variable {F : Fence} {m : Nat} {P : Program} {w0 w w' : World} {L : List Ck} {l : List (Nat × Value)} {ops : List Oper} {Q : Exit → Act → World → Prop} {a : Act} {n : Nat} {o : Oper} {rest : List Oper} {d : Nat} {v : Value}
/-- The slots, whatever waits for the function's end. -/
def Sd (a : Act) (n : Nat) (l : List (Nat × Value)) : Prop := Sl { a with defers := [] } n l
theorem zdd (hnd : ∀ c, o.op ≠ .defer c) (r : Option Nat) (ρ : Operand → Value) : o.semAt r ρ = execOp ρ o := by
  cases r with
  | none => rfl
  | some k => exact Oper.semAt_some k _ _ hnd
theorem yw (hF : ∀ f, F.fn f) (hA : Sd a n l) (hg : zr l ops o = true) (hdst : o.dst = some d) (hd : Nat.blt d n = true) (hnd : ∀ c, o.op ≠ .defer c) (he : Does P l o w v w')
    (hk : ∀ a', Sd a' n ((d, v) :: l) → a'.defers = a.defers → wpListIn F m P ops.toArray Q rest a' w') : wpListIn F m P ops.toArray Q (o :: rest) a w := by
  unfold wpListIn
  rw [if_pos (show Region.wanted o (yielded ops.toArray a.tmps) = true from hA.wanted hg)]
  refine ⟨fun f _ => hF f, ?_⟩
  rw [zdd hnd, he a.eval (fun x u hx => hA.ev hx), Oper.uponIn_value, hdst]
  exact hk _ (hA.put hd v) rfl
theorem jae (hF : ∀ f, F.fn f) (hA : Sd a n l) (hg : zr l ops o = true) (hdst : o.dst = none) (hnd : ∀ c, o.op ≠ .defer c) (he : Sets P l o w w')
    (hk : wpListIn F m P ops.toArray Q rest a w') : wpListIn F m P ops.toArray Q (o :: rest) a w := by
  unfold wpListIn
  rw [if_pos (show Region.wanted o (yielded ops.toArray a.tmps) = true from hA.wanted hg)]
  refine ⟨fun f _ => hF f, ?_⟩
  rw [zdd hnd, he a.eval (fun x u hx => hA.ev hx), Oper.uponIn_skip, hdst]
  exact hk
/-- A loop of so many rounds. -/
theorem zyd {c : Code} (I : Nat → Act → World → Prop) (N : Nat) (h0 : I N a w) (round : ∀ k a w, I k a w → c.wpIn F m P (Exit.then (fun a' w' => ∃ j, k = j + 1 ∧ I j a' w') Q) a w) : (Code.loop c).wpIn F m P Q a w := by
  have key : ∀ k a w, I k a w → Code.roundsIn F m P c Q (k + 1) a w := by
    intro k
    induction k with
    | zero =>
      intro a w h
      refine wpIn_mono (round 0 a w h) (fun e a' w' hq => ?_)
      cases e with
      | normal => obtain ⟨j, hj, _⟩ := hq; omega
      | _ => exact hq
    | succ k ih =>
      intro a w h
      refine wpIn_mono (round (k + 1) a w h) (fun e a' w' hq => ?_)
      cases e with
      | normal =>
        obtain ⟨j, hj, hI⟩ := hq
        obtain rfl : k = j := by omega
        exact ih a' w' hI
      | _ => exact hq
  exact wpIn_loop_rounds (N + 1) (key N a w h0)
/-- A round of a loop is called. -/
theorem zuc (hF : ∀ f, F.fn f) (hd0 : F.depth = none) (hA : Sd a n l) (hg : zr l ops o = true) (hdst : o.dst = some d) (hd : Nat.blt d n = true) (hnd : ∀ c, o.op ≠ .defer c) {k : Nat} {vs : List Value} (he : ∀ ρ : Operand → Value, (∀ x u, ev l x = some u → ρ x = u) → (execOp ρ o).run P w = (Instr.yield k vs.toArray).run P w) {R : Bool → World → Prop} (hy : YieldAt F (m - 1) P k vs.toArray w fun e w' => ∃ b, e = .returned (.bool b) ∧ R b w')
    (hk : ∀ b w', R b w' → ∀ a', Sd a' n ((d, .bool b) :: l) → a'.defers = a.defers → wpListIn F m P ops.toArray Q rest a' w') : wpListIn F m P ops.toArray Q (o :: rest) a w := by
  obtain ⟨fn, tmps, assign, body, h1, h2⟩ := hy
  unfold wpListIn
  rw [if_pos (show Region.wanted o (yielded ops.toArray a.tmps) = true from hA.wanted hg)]
  refine ⟨fun f _ => hF f, ?_⟩
  rw [zdd hnd, he a.eval (fun x u hx => hA.ev hx), h1, Oper.uponIn_round]
  refine ⟨(fun h => by rw [hd0] at h; cases h), h2.mono ?_⟩
  rintro _ w' ⟨b, rfl, h⟩
  rw [hdst]
  exact hk b w' h _ (hA.put hd (.bool b)) rfl
theorem qyg {x : Operand} {k : Nat} {args : List Operand} {ts : Array TypeId} {vs : List Value} {dst : Option Tmp} {ty : TypeId} {pos : String} {after : Array Edge} {guard : Option (Nat × Bool)} (hx : ev l x = some (.func (.yield k) #[] #[])) (ha : evs l args = some vs) :
    ∀ ρ : Operand → Value, (∀ x u, ev l x = some u → ρ x = u) → (execOp ρ ⟨dst, .call ⟨.value x, args.toArray, ts⟩, ty, pos, after, guard⟩).run P w = (Instr.yield k vs.toArray).run P w := fun ρ h => by
  have e := qta h args vs ha
  simp [execOp, resolve, invoke, h x _ hx, Deferred.ofValue, e]
theorem Sd.sl (h : Sd a n l) (hd : a.defers = []) : Sl a n l := ⟨h.size, h.holds, hd⟩
theorem Sd.ev (h : Sd a n l) {x : Operand} {v : Value} (hx : Go.Proofs.YtokgmpjblnpjmaaGreatDoor.G.ev l x = some v) : a.eval x = v := Sl.ev h hx
theorem Sd.keep (h : Sd a n l) (l' : List (Nat × Value)) (hs : AllIn l l') : Sd a n l' := Sl.keep h l' hs
theorem zye {f : FuncId} {fn : Func} {c : Code} {args : List Value} {Z : Ending → World → Prop} (hf : P.funcs[f]? = some fn) (hb : fn.body = some c) (hF : F.fn f) (hn : fn.ntmps = n) (hl : Nat.ble args.length n = true) (hs : (args.zipIdx.map fun p => (p.2, p.1)) = l) (hro : F.round = none)
    (h : ∀ Q : Exit → Act → World → Prop, (∀ a w, bodyPost P fn Z .ret a w → Q .ret a w) → (∀ a w, bodyPost P fn Z .ret a w → Q .normal a w) → ∀ a, Sd a n l → a.defers = [] → c.wpIn F m P Q a w) : CallsIn F m P f args.toArray w Z := by
  subst hs
  refine callsIn_of_wp hf hb hF (h _ (fun _ _ h => h) (fun _ _ h => h) _ ?_ rfl) hro
  rw [hn]
  exact Sl.enter (Nat.le_of_ble_eq_true hl)
theorem zud {f : FuncId} {fn : Func} {c : Code} {args : List Value} {Z : Ending → World → Prop} (hf : P.funcs[f]? = some fn) (hb : fn.body = some c) (hF : F.fn f) (hn : fn.ntmps = n) (hl : Nat.ble args.length n = true) (hs : (args.zipIdx.map fun p => (p.2, p.1)) = l) (hro : F.round = none)
    (h : ∀ Q : Exit → Act → World → Prop, (∀ a w, bodyPostM F m P fn Z .ret a w → Q .ret a w) → ∀ a, Sd a n l → a.defers = [] → c.wpIn F m P Q a w) : CallsIn F m P f args.toArray w Z := by
  subst hs
  refine callsIn_of_wp_marks hf hb hF (h _ (fun _ _ h => h) _ ?_ rfl) hro
  rw [hn]
  exact Sl.enter (Nat.le_of_ble_eq_true hl)
theorem qde {x y : Code} (h : ∀ K : Act → World → Prop, (∀ a w, y.wpIn F m P Q a w → K a w) → x.wpIn F m P (Exit.then K Q) a w) : (Code.seq x y).wpIn F m P Q a w := wpIn_seq (h _ (fun _ _ h => h))
theorem jaf (hF : ∀ f, F.fn f) (hA : Sd a n l) (hM : Mg w0 w L) (hg : zr l ops o = true) (hdst : o.dst = some d) (hd : Nat.blt d n = true) (hnd : ∀ c, o.op ≠ .defer c) {vs : List Value} {t : TypeId} (val : Nat → Value) (he : Does P l o w (val w.heap.size) (w.alloc (.cells vs.toArray t))) (ht : t ≠ BY)
    (hk : ∀ g w', Mg w0 w' (.obj g (.cells vs.toArray t) :: L) → w.heap.size ≤ g → g < w'.heap.size → Below w.heap.size w w' → KeepsOthers w w' → ∀ a', Sd a' n ((d, val g) :: l) → a'.defers = a.defers → wpListIn F m P ops.toArray Q rest a' w') : wpListIn F m P ops.toArray Q (o :: rest) a w :=
  yw hF hA hg hdst hd hnd he (hk _ _ (hM.addObj _ (yx ht)) (Nat.le_refl _) (by simp) ((Below.refl _ w).alloc (Nat.le_refl _) _) (KeepsOthers.alloc _ _))
end
theorem qnf (g : Nat) : ∀ (cs : List Value) (w : World) (o : Nat), KeepsOthers w (w.setCells g o cs)
  | [], w, o => KeepsOthers.refl w
  | c :: cs, w, o => (KeepsOthers.setCell w ⟨g, o, none⟩ c).trans (qnf g cs _ _)
theorem qng {B : Nat} (g : Nat) (hg : B ≤ g) : ∀ (cs : List Value) (w : World) (o : Nat), Below B w (w.setCells g o cs)
  | [], w, o => Below.refl _ w
  | c :: cs, w, o => ((Below.refl B w).setCell (p := ⟨g, o, none⟩) hg c).trans (qng g hg cs _ _)
/-- A block that holds no cells is turned: rows and blocks of cells stay. -/
theorem _root_.Go.Proofs.YtokgmpjblnpjmaaGreatDoor.G.Mg.calmR {w0 w w' : World} {L : List Ck} {row : Option Nat} (h : Mg w0 w L) (hg : w.grownBy w' row) (hr : ∀ r, row = some r → w0.heap.size ≤ r ∧ ∃ o : Obj, w.heap[r]? = some o ∧ o.isCells = false) (hL : ∀ c ∈ L, (∃ g vs t, c = .obj g (.cells vs t)) ∨ ∃ e sz v n xs, c = .row e sz v n xs) : Mg w0 w' L := by
  have key : ∀ (g : Nat) (o : Obj), w.heap[g]? = some o → o.isCells = true → w'.heap[g]? = some o := fun g o ho hc => (hg.block g (Array.getElem?_eq_some_iff.1 ho).1 (fun e => by
    obtain ⟨_, o2, h2, h3⟩ := hr g e.symm
    rw [ho] at h2
    cases h2
    rw [hc] at h3
    cases h3)).trans ho
  refine ⟨h.bel.grown hg h.bel.size (fun k e => (hr k e).1), fun c hc => ?_, h.dis⟩
  rcases hL c hc with ⟨g, vs, t, rfl⟩ | ⟨e, sz, v, n, xs, rfl⟩
  · have h2 := h.all _ hc
    exact ⟨h2.1, key _ _ h2.2 rfl⟩
  · have h2 : w.ownsRow w0.heap.size e sz v n xs := h.all _ hc
    refine ⟨h2.1, ?_⟩
    rcases h2.2 with ⟨e1, e2⟩ | ⟨g, cap, cur, e1, hB, hc2, h3⟩
    · exact .inl ⟨e1, e2⟩
    · exact .inr ⟨g, cap, cur, e1, hB, key _ _ hc2 rfl, h3⟩
def jag (x : ByteArray) : Array Value := #[.string x]
theorem qec : Is1 Tryz.prog 30 := ⟨⟨_, Tryz.underlying30, rfl⟩, by kernel_rfl⟩
theorem zjj : Is1 Tryz.prog 9 := ⟨⟨_, Tryz.underlying9, rfl⟩, by kernel_rfl⟩
set_option maxRecDepth 100000 in
set_option maxHeartbeats 400000 in
theorem qvc {wA w0 : World} {Bs : Nat} {so : Option Addr} {ca : Nat} {ts : List ByteArray} (hR : Rs wA so ts) (hb : Below wA.heap.size wA w0) (hBs : wA.cell? ⟨Bs, 0, none⟩ = some (.slice so ts.length ca)) (hl : ts.length ≤ 8796093021952) (n : Nat) :
    SeqStopsK Fence.wide n Tryz.prog 100 #[.pointer (some ⟨Bs, 0, none⟩)] jag (Below wA.heap.size) (fun ys => ys = ts) (fun _ => True) ts.length w0 := by
  intro l J Jx W hW hJ hJx hY h0
  have hF : ∀ f, Fence.wide.fn f := fun _ => trivial
  rw [List.append_toArray]
  refine zye (l := [(0, .func (.yield l) #[] #[]), (1, .pointer (some ⟨Bs, 0, none⟩))]) Tryz.func100 rfl trivial rfl rfl rfl rfl ?_
  intro Q hret hnorm a hA hdf
  have hbW : Below wA.heap.size wA W := hb.trans (hW.mono hb.size)
  have hc : W.cell? ⟨Bs, 0, none⟩ = some (.slice so ts.length ca) := (hbW.cell (p := ⟨Bs, 0, none⟩) (un hBs)).trans hBs
  refine qde fun K1 hK1 => wpIn_region_lit ?_
  refine yw (v := .slice so ts.length ca) hF hA rfl rfl rfl (by intro c h; cases h) (jn rfl (jy qec hc)) fun a hA h2 => ?_
  refine yw (v := .int .i64 (ts.length : Nat)) hF hA rfl rfl rfl (by intro c h; cases h) (qn Tryz.underlying30 rfl) fun a hA h3 => ?_
  refine yw (v := .int .i64 0) hF hA rfl rfl rfl (by intro c h; cases h) (ql rfl) fun a hA h4 => ?_
  refine wpListIn_nil (hK1 _ _ (wpIn_block ?_))
  refine zyd (fun k a W' => k ≤ ts.length ∧ Sd a 16 [(0, .func (.yield l) #[] #[]), (1, .pointer (some ⟨Bs, 0, none⟩)), (5, .slice so ts.length ca), (6, .int .i64 (ts.length : Nat)), (7, .int .i64 ((ts.length - k : Nat) : Int))] ∧ a.defers = [] ∧ Below wA.heap.size W W' ∧ J (ts.take (ts.length - k)) W') ts.length ⟨Nat.le_refl _, by rw [Nat.sub_self]; exact hA.keep _ ⟨rfl, rfl, rfl, rfl, rfl, trivial⟩, by rw [h4, h3, h2, hdf], Below.refl _ _, by rw [Nat.sub_self]; exact h0⟩ ?_
  rintro k a W' ⟨hk, hA, hd, hKp, hJp⟩
  refine qde fun K2 hK2 => wpIn_region_lit ?_
  refine yw (v := .bool (decide (((ts.length - k : Nat) : Int) < (ts.length : Nat)))) hF hA rfl rfl rfl (by intro c h; cases h) (qg rfl rfl qw) fun a hA h3 => ?_
  refine wpListIn_nil (hK2 _ _ (qde fun K3 hK3 => ?_))
  refine wpIn_cond_split (t := decide (((ts.length - k : Nat) : Int) < (ts.length : Nat))) (hA.ev rfl) (fun hq => ?_) (fun hq => ?_)
  · have hq' := of_decide_eq_true hq
    obtain ⟨b1, o1, s, hso, hcell, hit⟩ := hR.at_ (i := ts.length - k) (by omega)
    refine wpIn_skip (hK3 _ _ (qde fun K4 hK4 => wpIn_block (qde fun K5 hK5 => wpIn_region_lit ?_)))
    refine yw (v := .pointer (some ⟨b1, o1 + (ts.length - k), none⟩)) hF hA rfl rfl rfl (by intro c h; cases h) (zk (k := ts.length - k) Tryz.underlying30 (by kernel_rfl) rfl rfl rfl hso (by omega)) fun a hA h4 => ?_
    refine yw (v := .string s) hF hA rfl rfl rfl (by intro c h; cases h) (jn rfl (jy zjj (((hbW.trans hKp).cell (p := ⟨b1, _, none⟩) (un hcell)).trans hcell))) fun a hA h5 => ?_
    refine yw (v := .string s) hF hA rfl rfl rfl (by intro c h; cases h) (qp rfl) fun a hA h6 => ?_
    refine wpListIn_nil (hK5 _ _ (qde fun K6 hK6 => wpIn_region_lit ?_))
    refine yw (v := .func (.yield l) #[] #[]) hF hA rfl rfl rfl (by intro c h; cases h) (ql rfl) fun a hA h7 => ?_
    refine yw (v := .string s) hF hA rfl rfl rfl (by intro c h; cases h) (ql rfl) fun a hA h8 => ?_
    have hlen : (ts.take (ts.length - k)).length < ts.length := by rw [List.length_take]; omega
    refine zuc (k := l) (vs := [.string s]) (R := fun b W2 => (b = true ∧ J (ts.take (ts.length - k) ++ [s]) W2 ∧ Below wA.heap.size W' W2) ∨ (b = false ∧ Jx (ts.take (ts.length - k) ++ [s]) W2)) hF rfl hA rfl rfl rfl (by intro c h; cases h) (qyg rfl rfl) ?_ ?_
    · have := hY (ts.take (ts.length - k)) s W' hJp hlen
      obtain ⟨fn, tmps, assign, body, e1, e2⟩ := this
      refine ⟨fn, tmps, assign, body, e1, e2.mono ?_⟩
      rintro e W2 (⟨rfl, h1, h2⟩ | ⟨rfl, h1⟩)
      · exact ⟨true, rfl, .inl ⟨rfl, h1, h2⟩⟩
      · exact ⟨false, rfl, .inr ⟨rfl, h1⟩⟩
    · rintro b W2 hR2 a hA h10
      refine yw (v := .bool (!b)) hF hA rfl rfl rfl (by intro c h; cases h) (zi rfl zm) fun a hA h11 => ?_
      refine wpListIn_nil (hK6 _ _ ?_)
      have hdd : a.defers = [] := by rw [h11, h10, h8, h7, h6, h5, h4, h3, hd]
      rcases hR2 with ⟨rfl, hJ2, hK2'⟩ | ⟨rfl, hJx2⟩
      · refine wpIn_cond_false (hA.ev rfl) (wpIn_skip (hK4 _ _ (wpIn_region_lit ?_)))
        refine yw (v := .int .i64 ((ts.length - (k - 1) : Nat) : Int)) hF hA rfl rfl rfl (by intro c h; cases h) (qg rfl rfl (ar_add ((in_i64 (by omega) (by omega)).trans (by omega)))) fun a hA g2 => ?_
        refine yw (v := .int .i64 ((ts.length - (k - 1) : Nat) : Int)) hF hA rfl rfl rfl (by intro c h; cases h) (ql rfl) fun a hA g3 => ?_
        refine wpListIn_nil ?_
        refine ⟨k - 1, by omega, by omega, hA.keep _ ⟨rfl, rfl, rfl, rfl, rfl, trivial⟩, by rw [g3, g2, hdd], hKp.trans hK2', ?_⟩
        rw [show ts.length - (k - 1) = ts.length - k + 1 by omega, List.take_add_one, hit]
        exact hJ2
      · refine wpIn_cond_true (hA.ev rfl) (wpIn_ret ?_)
        refine hret _ _ ?_
        exact qhc (rs := []) (vs := []) (v := .tuple #[]) (hA.sl hdd) rfl .nil rfl ⟨⟨_, rfl⟩, .inr ⟨_, trivial, hJx2⟩⟩
  · have hq' := of_decide_eq_false hq
    refine wpIn_exit ?_
    obtain rfl : k = 0 := by omega
    refine hnorm _ _ ?_
    rw [Nat.sub_zero, List.take_length] at hJp
    exact qhc (rs := []) (vs := []) (v := .tuple #[]) (hA.sl (by rw [h3, hd])) rfl .nil rfl ⟨⟨_, rfl⟩, .inl ⟨ts, rfl, hJp⟩⟩
theorem zde {w : World} {so : Option Addr} {k ca : Nat} : Calls Tryz.prog 90 #[.slice so k ca] w fun e w' => ∃ g, e = .returned (.func (.func 100) #[] #[.pointer (some ⟨g, 0, none⟩)]) ∧ Mg w w' [.obj g (.cells #[.slice so k ca] 30)] := by
  refine qs (l := [(0, .slice so k ca)]) Tryz.func90 rfl Tryz.ntmps90 rfl rfl ?_
  intro Q hret hnorm hP a hA
  have hM : Mg w w [] := Mg.start w
  refine wp_seq_k (fun K1 hK1 => ?_)
  refine wp_region_lit ?_
  refine zy (vs := [.slice so k ca]) (t := 30) hA hM rfl rfl rfl (fun g => .pointer (some ⟨g, 0, none⟩)) (zf rfl rfl) (by decide) ?_
  intro g w1 hM a hA
  refine vt hA rfl rfl rfl (qp rfl) fun a hA => ?_
  refine qa (hK1 _ _ (wp_seq_k (fun K2 hK2 => wp_region_lit ?_)))
  refine vt hA rfl rfl rfl (uf rfl) fun a hA => ?_
  refine vt hA rfl rfl rfl (qp rfl) fun a hA => ?_
  refine qa (hK2 _ _ (wp_ret (hret _ _ ?_)))
  exact qhc (rs := [.tmp 2]) hA rfl (.cons (qf rfl) .nil) rfl ⟨g, rfl, hM⟩
/-- One more onto a row of the call's own, and what that keeps. -/
theorem zyf {P : Program} {w0 w : World} {L : List Ck} {l : List (Nat × Value)} {dst : Option Tmp} {ty : TypeId} {pos : String} {after : Array Edge} {guard : Option (Nat × Bool)} {v : Value} {e t : TypeId} {sz by_ : Nat} {z : Value} {x y : Operand} (ht : P.underlying t = some (.slice e)) (hinfo : (P.info? e).map (fun i => (i.zero, i.size, i.bytes)) = some (some z, sz, by_)) (hzc : z.cells.size = sz) (hsz : Nat.ble 1 sz = true) (hby : Nat.ble 1 by_ = true) (hM : Mg w0 w L) (k : Nat) {q : Nat} {xs : List Value} (hk : L[k]? = some (.row e sz v q xs)) (hx : ev l x = some v) {b m c2 : Nat} {news : List Value} (hy : ev l y = some (.slice (some ⟨b, 0, none⟩) m c2)) (hnl : news.length = m * sz) (hcell : ∀ p u, news[p]? = some u → w.cell? ⟨b, 0 + p, none⟩ = some u) (h1 : ∀ u ∈ news, u.oneCell' = true) (hm : 0 < m) (hlen : (q + m) * by_ ≤ 140737488355328) :
    ∃ v' w', Does P l ⟨dst, .call ⟨.builtin .append, #[x, y], #[t, t]⟩, ty, pos, after, guard⟩ w v' w' ∧ Mg w0 w' (L.set k (.row e sz v' (q + m) (xs ++ news))) ∧ Below w0.heap.size w w' ∧ KeepsOthers w w' := by
  obtain ⟨i, hi, hzz⟩ := Option.map_eq_some_iff.1 hinfo
  simp only [Prod.mk.injEq] at hzz
  obtain ⟨hz, hs, hb⟩ := hzz
  have hrow : w.ownsRow w0.heap.size e sz v q xs := hM.has k hk
  have hq : q + m ≤ (q + m) * by_ := Nat.le_mul_of_pos_right _ (Nat.le_of_ble_eq_true hby)
  obtain ⟨g, cap, w', hr, hown, hgr, hat, hlt⟩ := run_append_lies (P := P) w t ty w0.heap.size e i z sz by_ ht hi hz hs hb hzc (Nat.le_of_ble_eq_true hsz) v q xs hrow ⟨b, 0, none⟩ m c2 news hnl (fun p u hp => by
      rw [xi]
      exact hcell p u hp) h1 hm (by unfold maxLen; omega) hlen hM.bel.size w.heap.size rfl
  have hown2 : ∀ j, v.ownBlock = some j → w0.heap.size ≤ j ∧ ∃ cur, w.heap[j]? = some (.cells cur e) := by
    intro j hj
    rcases hrow.2 with ⟨e1, _⟩ | ⟨g1, cap1, cur, e1, hB, hc2, _⟩
    · subst e1; cases hj
    · subst e1; cases hj; exact ⟨hB, cur, hc2⟩
  refine ⟨.slice (some ⟨g, 0, none⟩) (q + m) cap, w', fun ρ h => ?_, hM.turn k hk (by simp) hgr hown (fun d hd ha => ?_), (Below.refl _ w).grown hgr hM.bel.size (fun j e => (hown2 j e).1), KeepsOthers.of_grownBy hgr (fun j o e ho => ?_)⟩
  · simp [execOp, resolve, invoke, builtin, h x _ hx, h y _ hy, hr]
  · have hl := Ck.lt (hM.all d hd)
    have key : ∀ z, d.at_ = some z → v.ownBlock ≠ some z → g ≠ z := fun z hz hne e => by
      subst e
      rcases hat with h | h
      · exact hne h
      · have := (hl g hz).2; omega
    cases d with
    | obj g' o' => exact fun e => key g' rfl ha (by simpa [Value.ownBlock] using e)
    | row e' sz' v' n' xs' =>
      right
      intro e
      have e2 : v'.ownBlock = some g := e.symm
      rcases ha with ha | ha
      · exact key g e2 (by rw [ha]; simp) rfl
      · exact key g e2 (fun h => ha (h.trans e2.symm)) rfl
    | bld b' bs' => exact ⟨ha.1, fun e => key b' rfl ha.2 (by simpa [Value.ownBlock] using e)⟩
  · obtain ⟨_, cur, h2⟩ := hown2 j e
    rw [ho] at h2
    cases h2
    rfl
/-- What was collected so far. -/
def CollI (w : World) (g : Nat) (pre : List ByteArray) (W : World) : Prop := ∃ v, Mg w W [.obj g (.cells #[v] 30), .row 9 1 v pre.length (strC pre)]
theorem qnh {g : Nat} {v : Value} {n : Nat} {xs : List Value} : ∀ c ∈ [Ck.obj g (.cells #[v] 30), .row 9 1 v n xs], (∃ g vs t, c = .obj g (.cells vs t)) ∨ ∃ e sz v n xs, c = .row e sz v n xs := by
  intro c hc
  simp only [List.mem_cons, List.not_mem_nil, or_false] at hc
  rcases hc with rfl | rfl
  · exact .inl ⟨_, _, _, rfl⟩
  · exact .inr ⟨_, _, _, _, _, rfl⟩
theorem zka (w : World) (g : Nat) (B : Nat) (hB : w.heap.size ≤ B) : OwnFrom B (CollI w g) := by
  rintro pre W W' row ⟨v, hM⟩ hg hrow
  exact ⟨v, hM.calmR hg (fun r e => ⟨Nat.le_trans hB (hrow r e).1, (hrow r e).2⟩) qnh⟩
set_option maxRecDepth 100000 in
set_option maxHeartbeats 1000000 in
theorem qqc {w : World} {Bs : Nat} {so : Option Addr} {ca : Nat} {ts : List ByteArray} (hR : Rs w so ts) (hBs : w.cell? ⟨Bs, 0, none⟩ = some (.slice so ts.length ca)) (hl : ts.length ≤ 8796093021952) : Calls Tryz.prog 107 #[.slice none 0 0, .func (.func 100) #[] #[.pointer (some ⟨Bs, 0, none⟩)]] w fun e w' => ∃ v, e = .returned v ∧ Mg w w' [.row 9 1 v ts.length (strC ts)] := by
  refine (callsIn_wide (n := 5)).1 ?_
  have hF : ∀ f, Fence.wide.fn f := fun _ => trivial
  refine zud (l := [(0, .slice none 0 0), (1, .func (.func 100) #[] #[.pointer (some ⟨Bs, 0, none⟩)])]) Tryz.func107 rfl trivial rfl rfl rfl rfl ?_
  intro Q hret a hA hdf
  have hM : Mg w w [] := Mg.start w
  refine qde fun K1 hK1 => wpIn_region_lit ?_
  refine jaf (vs := [.slice none 0 0]) (t := 30) hF hA hM rfl rfl rfl (by intro c h; cases h) (fun g => .pointer (some ⟨g, 0, none⟩)) (zf rfl rfl) (by decide) ?_
  intro g W1 hM hg hg' hB1 _ a hA h2
  refine yw (v := .slice none 0 0) hF hA rfl rfl rfl (by intro c h; cases h) (qp rfl) fun a hA h3 => ?_
  refine wpListIn_nil (hK1 _ _ (qde fun K2 hK2 => qde fun K3 hK3 => wpIn_region_lit ?_))
  refine yw (v := .func (.func 100) #[] #[.pointer (some ⟨Bs, 0, none⟩)]) hF hA rfl rfl rfl (by intro c h; cases h) (ql rfl) fun a hA h4 => ?_
  refine wpListIn_nil (hK3 _ _ (wpIn_block ?_))
  have hs1 := hM.bel.size
  have hI0 : CollI w g [] W1 := by
    refine ⟨.slice none 0 0, ?_⟩
    have := hM.nilRow (qi (by simp) (qk qm)) 9 1
    exact this.bring 1 rfl rfl
  refine wpIn_rangeFunc_ownH (F := Fence.wide) rfl (by decide) (gf := 100) (lb := #[.pointer (some ⟨Bs, 0, none⟩)]) (hA.ev rfl) trivial (fun us w => by kernel_rfl)
    (qvc hR hM.bel hBs hl _) Below.trans ?hkb (Below.refl _ _) (fun _ => rfl)
    (CollI w g) (fun _ _ _ => False) (zka w g _ (by omega)) (fun _ _ _ _ _ hs _ _ => hs)
    hI0
    (fun x a' W => Sd a' 13 [(2, .pointer (some ⟨g, 0, none⟩)), (5, .string x)])
    (fun x a' _ X Y row hs hg hr => hs)
    ?assign ?body ?done ?stop
  case hkb =>
    intro W l o o' hl1 hl2 hl3 _
    refine ⟨rfl, rfl, rfl, (grownBy_putObj' W l o').size, fun k hk => ?_⟩
    by_cases hk2 : k < W.heap.size
    · exact (grownBy_putObj' W l o').block k hk2 (fun e => by cases e; omega)
    · have := (Array.getElem?_eq_some_iff.1 hl2).1; omega
  case assign =>
    rintro l pre x W K ⟨v, hMz⟩ hK
    have hA1 : Sd { tmps := a.tmps.setIfInBounds 7 (.string x), defers := [] } 13 _ := Sl.put hA (d := 7) rfl (.string x)
    have hF2 : ∀ f, (Fence.wide.inRound l).fn f := fun _ => trivial
    simp only [jag, List.zip_toArray, List.zip_cons_cons, List.zip_nil_left, List.zip_nil_right, List.foldl_toArray', List.foldl_toArray, List.foldl_cons, List.foldl_nil]
    refine wpIn_region_lit ?_
    refine yw (a := { tmps := a.tmps.setIfInBounds 7 (.string x), defers := [] }) (v := .string x) hF2 hA1 rfl rfl rfl (by intro c h; cases h) (qp rfl) fun a hA h6 => ?_
    exact wpListIn_nil (hK _ _ ((KeepsOthers.refl _).from _) (Below.refl _ _) ⟨v, hMz⟩ (hA.keep _ ⟨rfl, rfl, trivial⟩))
  case body =>
    rintro l pre x a' W hl1 _ ⟨v, hMz⟩ hA hlen
    have hF2 : ∀ f, (Fence.wide.inRound l).fn f := fun _ => trivial
    refine wpIn_block (wpIn_region_lit ?_)
    refine yw (v := v) hF2 hA rfl rfl rfl (by intro c h; cases h) (qh hMz qec rfl 0 rfl rfl) fun a hA h6 => ?_
    refine yw (v := .string x) hF2 hA rfl rfl rfl (by intro c h; cases h) (ql rfl) fun a hA h7 => ?_
    have hMl : Mg w (W.alloc (.cells #[.string x] 9)) [.obj g (.cells #[v] 30), .row 9 1 v pre.length (strC pre)] := hMz.call ((Below.refl _ W).alloc (Nat.le_refl _) _)
    have hnew := heap_alloc_new W (.cells #[.string x] 9)
    refine yw (v := .slice (some ⟨W.heap.size, 0, none⟩) 1 1) (w' := W.alloc (.cells #[.string x] 9)) hF2 hA rfl rfl rfl (by intro c h; cases h) (qy rfl (by kernel_rfl)) fun a hA h8 => ?_
    have hK4 : KeepsOthers W (W.alloc (.cells #[.string x] 9)) := KeepsOthers.alloc _ _
    have hB4 : Below w.heap.size W (W.alloc (.cells #[.string x] 9)) := (Below.refl _ W).alloc hMz.bel.size _
    have hcell : ∀ p u, [Value.string x][p]? = some u → (W.alloc (.cells #[.string x] 9)).cell? ⟨W.heap.size, 0 + p, none⟩ = some u := fun p u hp => by
      rw [cell_of_row _ _ _ _ _ _ hnew]
      simpa using hp
    revert hMl hK4 hB4 hcell
    generalize W.alloc (.cells #[.string x] 9) = W4
    intro hMl hK4 hB4 hcell
    obtain ⟨v', W5, hdo, hM5, hB5, hK5⟩ := zyf (P := Tryz.prog) (dst := some 11) (ty := 30) (pos := "iter.go:52") (after := #[{ on := 0, ground := Ground.data }, { on := 2, ground := Ground.data }]) (guard := none) (x := .tmp 8) (y := .tmp 10) (l := [(10, .slice (some ⟨W.heap.size, 0, none⟩) 1 1), (9, .string x), (8, v), (2, .pointer (some ⟨g, 0, none⟩)), (5, .string x)]) (z := .string ⟨#[]⟩) (sz := 1) (by_ := 16) Tryz.underlying30 (by kernel_rfl) rfl rfl rfl hMl 1 rfl rfl (m := 1) rfl rfl hcell (by intro u hu; simp at hu; subst hu; rfl) (by decide) (by omega)
    obtain ⟨so9, ca9, rfl⟩ := jg (hM5.has 1 rfl)
    refine yw (v := .slice so9 (pre.length + 1) ca9) (w' := W5) hF2 hA rfl rfl rfl (by intro c h; cases h) hdo fun a hA h9 => ?_
    refine jae (w' := W5.setCells g 0 [.slice so9 (pre.length + 1) ca9]) hF2 hA rfl rfl (by intro c h; cases h) (za rfl rfl rfl (by kernel_rfl) hM5 0 rfl rfl rfl) ?_
    have hM6 : Mg w (W5.setCells g 0 [(.slice so9 (pre.length + 1) ca9)]) [.obj g (.cells #[.slice so9 (pre.length + 1) ca9] 30), .row 9 1 (.slice so9 (pre.length + 1) ca9) (pre.length + 1) (strC pre ++ [.string x])] := Mg.puts [(.slice so9 (pre.length + 1) ca9)] W5 _ [v] 0 hM5 0 rfl
    have hks := (hK4.trans hK5).trans (qnf g [(.slice so9 (pre.length + 1) ca9)] W5 0)
    have hgw : w.heap.size ≤ g := (Ck.lt (hMz.has 0 rfl) g rfl).1
    have hbs := (hB4.trans hB5).trans (qng (B := w.heap.size) g hgw [(.slice so9 (pre.length + 1) ca9)] W5 0)
    refine wpListIn_nil ⟨hks.from _, hbs, .slice so9 (pre.length + 1) ca9, ?_⟩
    have e1 : (pre ++ [x]).length = pre.length + 1 := by simp
    have e2 : strC (pre ++ [x]) = strC pre ++ [.string x] := by simp [strC]
    rw [e1, e2]
    exact hM6
  case done =>
    rintro D xs W hD1 hS ⟨v, hMz⟩ hDf
    subst hS
    have hA2 : Sd { a with defers := { target := .collected D, args := #[] } :: a.defers } 13 _ := hA
    revert hA2
    generalize hae : ({ a with defers := { target := .collected D, args := #[] } :: a.defers } : Act) = a2
    intro hA2
    have had : a2.defers = [{ target := .collected D, args := #[] }] := by rw [← hae]; show _ :: a.defers = _; rw [h4, h3, h2, hdf]
    refine hK2 _ _ (qde fun K6 hK6 => wpIn_region_lit ?_)
    refine yw (v := v) hF hA2 rfl rfl rfl (by intro c h; cases h) (qh hMz qec rfl 0 rfl rfl) fun a3 hA3 h6 => ?_
    refine yw (v := v) hF hA3 rfl rfl rfl (by intro c h; cases h) (qp rfl) fun a4 hA4 h7 => ?_
    have hgr := grownBy_putObj' W D (.deferred none)
    have hM6 := hMz.calmR hgr (fun r e => by cases e; exact ⟨by omega, _, hDf, rfl⟩) qnh
    refine wpListIn_nil (hK6 _ _ (wpIn_ret (hret _ _ ?_)))
    show LeavesInM _ _ _ _ _ _ a4.defers .returning _
    rw [h7, h6, had]
    refine ⟨by simp, .inl ⟨D, _, rfl, run_takeDeferred hDf, ?_⟩⟩
    have hfin : (fun (e : Ending) (w' : World) => ∃ v, e = .returned v ∧ Mg w w' [.row 9 1 v xs.length (strC xs)]) (.returned v) (W.putObj D (.deferred none)) := ⟨v, rfl, hM6.sub (cn (.refl _))⟩
    exact (qhc (P := Tryz.prog) (fn := Tryz.f107) (Z := (fun (e : Ending) (w' : World) => ∃ v, e = .returned v ∧ Mg w w' [.row 9 1 v xs.length (strC xs)])) (v := v) (rs := [.tmp 4]) (vs := [v]) hA4 rfl (.cons (qf rfl) .nil) rfl hfin).2
  case stop =>
    rintro D c pre W _ _ h _
    exact h.elim
open Go.RowKit Go.Sort Go.Shelf Go.Lib
section
variable {w0 w : World} {T : List Ck} {e : TypeId} {sz g n cap : Nat} {xs : List Value} {α : Type} [Inhabited α]
theorem qge (enc : α → Value) (w : World) (g : Nat) (d : Array α) (j : Nat) : (putRow enc w g 0 d).heap[j]? = if g = j then (w.heap[j]?).map (onCells (putCells enc 0 d)) else w.heap[j]? := by
  show (w.heap.modify g (onCells (putCells enc 0 d)))[j]? = _
  rw [Array.getElem?_modify]
/-- A row of the call's own whose cells were laid anew. -/
theorem _root_.Go.Proofs.YtokgmpjblnpjmaaGreatDoor.G.Mg.sortedE (enc : α → Value) (hM : Mg w0 w (.row e sz (.slice (some ⟨g, 0, none⟩) n cap) n xs :: T)) (d : Array α) (hd : d.size = n * sz) (q : Nat) (os : Array Obj) :
    Mg w0 (grow (putRow enc (Sort.ahead w q) g 0 d) os) (.row e sz (.slice (some ⟨g, 0, none⟩) n cap) n (d.toList.map enc) :: T) := by
  have hr : w.ownsRow w0.heap.size e sz (.slice (some ⟨g, 0, none⟩) n cap) n xs := hM.has 0 rfl
  obtain ⟨h1, h2⟩ := hr
  rcases h2 with ⟨e0, _⟩ | ⟨g', cap', cur, e0, hB, hc, hn, hm, hs, ht⟩
  · cases e0
  · cases e0
    have hlt := (Array.getElem?_eq_some_iff.1 hc).1
    have hold : ∀ j, j < w.heap.size → (grow (putRow enc (Sort.ahead w q) g 0 d) os).heap[j]? = (putRow enc (Sort.ahead w q) g 0 d).heap[j]? := fun j hj => heap_grow_old _ os (by rw [size_putRow]; exact hj)
    refine hM.turn 0 (c := .row e sz (.slice (some ⟨g, 0, none⟩) n cap) n xs) (c' := .row e sz (.slice (some ⟨g, 0, none⟩) n cap) n (d.toList.map enc)) rfl (by simp) ⟨rfl, rfl, rfl, by rw [size_grow, size_putRow]; exact Nat.le_add_right _ _, fun j hj hne => ?_⟩ ⟨by simp [hd], .inr ⟨g, cap, putCells enc 0 d cur, rfl, hB, ?_, hn, hm, by simp [putCells, hs], ?_⟩⟩ (fun c _ ha => ?_)
    · rw [hold j hj, qge, if_neg (fun k => hne (by rw [← k]; rfl))]
      rfl
    · rw [hold g hlt, qge, if_pos rfl]
      show (w.heap[g]?).map _ = _
      rw [hc]
      rfl
    · have hle : n * sz ≤ cur.size := by rw [hs]; exact Nat.mul_le_mul_right _ hn
      apply List.ext_getElem?
      intro j
      rw [List.getElem?_take]
      by_cases hj : j < n * sz
      · rw [if_pos hj]
        have hjd : j < d.size := by omega
        have hjc : j < cur.size := by omega
        simp only [putCells, Array.getElem?_toList, Array.getElem?_mapIdx, Array.getElem?_eq_getElem hjc, Option.map_some, List.getElem?_map, Array.getElem?_toList, Array.getElem?_eq_getElem hjd]
        rw [if_pos ⟨Nat.zero_le _, by omega⟩, Nat.sub_zero, getElem!_pos d j hjd]
      · rw [if_neg hj, List.getElem?_eq_none (by simp; omega)]
    · cases c with
      | obj g' o' => exact ha
      | row e' sz' v' n' xs' => exact ha
      | bld b' bs' => exact ha
/-- A row holds its cells. -/
theorem qni (enc : α → Value) (hM : Mg w0 w (.row e sz (.slice (some ⟨g, 0, none⟩) n cap) n xs :: T)) (d : Array α) (hx : d.toList.map enc = xs) : Holds enc w g 0 d ∧ g < w.heap.size := by
  have hr : w.ownsRow w0.heap.size e sz (.slice (some ⟨g, 0, none⟩) n cap) n xs := hM.has 0 rfl
  refine ⟨fun j hj => ?_, (hr.lt g rfl).2⟩
  have hl : j < xs.length := by rw [← hx]; simpa using hj
  have hl2 := hr.1
  refine ⟨?_, World.ownsRow.frozenAt hr _⟩
  rw [Nat.zero_add, World.ownsRow.cellAt hr j (by omega), ← hx, List.getElem?_map]
  rw [getElem!_pos d j hj]
  simp [hj]
end
/-- slices.Sort of a row of texts of the call's own. -/
theorem zkb {w0 w : World} {T : List Ck} {so : Option Addr} {n ca : Nat} {zs : List (List UInt8)} (hn : n = zs.length) (hl : zs.length ≤ 8796093021952) (hM : Mg w0 w (.row 9 1 (.slice so n ca) n (zs.map encStr) :: T)) :
    Calls Tryz.prog 99 #[.slice so n ca] w fun e w' => e = .returned (.tuple #[]) ∧ Mg w0 w' (.row 9 1 (.slice so n ca) n ((qda zs).map encStr) :: T) := by
  subst hn
  have hr : w.ownsRow w0.heap.size 9 1 (.slice so zs.length ca) zs.length (zs.map encStr) := hM.has 0 rfl
  rcases hr.2 with ⟨e0, h0⟩ | ⟨g, cap, cur, e0, _⟩
  · have hz : zs = [] := List.length_eq_zero_iff.1 h0
    subst hz
    refine (Tryz.slices_Sort_string_none so ca w).mono ?_
    rintro e w' ⟨rfl, rfl⟩
    refine ⟨rfl, ?_⟩
    simpa [qda] using hM
  · cases e0
    obtain ⟨h1, h2⟩ := qni encStr hM zs.toArray (by simp)
    refine (Tryz.slices_Sort_string g 0 ca zs w h1 h2 (by omega)).mono ?_
    rintro e w' ⟨rfl, q, os, rfl⟩
    refine ⟨rfl, ?_⟩
    have := hM.sortedE encStr (zs.mergeSort fun x y => decide (x ≤ y)).toArray (by simp) q os
    simpa [qda] using this
/-- slices.Compact of such a row: how long it is then. -/
theorem qvd {w0 w : World} {T : List Ck} {so : Option Addr} {n ca : Nat} {zs : List (List UInt8)} (hn : n = zs.length) (hl : zs.length ≤ 8796093021952) (hM : Mg w0 w (.row 9 1 (.slice so n ca) n (zs.map encStr) :: T)) :
    Calls Tryz.prog 91 #[.slice so n ca] w fun e w' => e = .returned (.slice so (compact zs).length ca) ∧ Mg w0 w' T := by
  subst hn
  have hr : w.ownsRow w0.heap.size 9 1 (.slice so zs.length ca) zs.length (zs.map encStr) := hM.has 0 rfl
  rcases hr.2 with ⟨e0, h0⟩ | ⟨g, cap, cur, e0, hB, hc2, hcap, _⟩
  · have hz : zs = [] := List.length_eq_zero_iff.1 h0
    subst hz
    refine (Tryz.slices_Compact_string_empty so ca w).mono ?_
    rintro e w' ⟨rfl, rfl⟩
    exact ⟨rfl, hM.sub (cn (.refl _))⟩
  · cases e0
    obtain ⟨h1, h2⟩ := qni encStr hM zs.toArray (by simp)
    refine (Tryz.slices_Compact_string g 0 ca zs w h1 (by omega) hcap).mono ?_
    rintro e w' ⟨rfl, q, rfl⟩
    refine ⟨rfl, ?_⟩
    have hcl : (compact zs).length ≤ zs.length := by
      have e1 : (compact zs).length = ((List.range zs.length).filter (keeps zs.toArray)).length := by simp [compact, compactUpTo]
      rw [e1]
      refine Nat.le_trans (List.length_filter_le _ _) ?_
      simp
    have := hM.sortedE encStr (compact zs ++ List.replicate (zs.length - (compact zs).length) []).toArray (by simp; omega) q #[]
    rw [show ∀ v : World, grow v #[] = v from fun v => by simp [grow]] at this
    exact this.sub (cn (.refl _))
section
variable {w : World} {so : Option Addr} {ca : Nat} {l : List ByteArray} {s : ByteArray}
theorem equalS_any {so2 : Option Addr} {ca2 : Nat} {l2 : List ByteArray} (hR : Rs w so l) (hR2 : Rs w so2 l2) (hl : l.length ≤ 8796093021952) (hl2 : l2.length ≤ 8796093021952) : Calls Tryz.prog 68 #[.slice so l.length ca, .slice so2 l2.length ca2] w fun e w' => e = .returned (.bool (decide (l = l2))) ∧ Below w.heap.size w w' := by
  by_cases hne : l = []
  · subst hne
    refine (Tryz.slices_Equal_string_empty so so2 ca l2.length ca2 w (by omega)).mono ?_
    rintro e w' ⟨rfl, rfl⟩
    refine ⟨?_, Below.refl _ _⟩
    congr 2
    cases l2 <;> simp
  · by_cases hne2 : l2 = []
    · subst hne2
      refine (Tryz.slices_Equal_string_lens so so2 l.length ca 0 ca2 w (fun k => hne (List.length_eq_zero_iff.1 k))).mono ?_
      rintro e w' ⟨rfl, rfl⟩
      refine ⟨?_, Below.refl _ _⟩
      rw [decide_eq_false hne]
    · obtain ⟨b, off, rfl, hc⟩ := hR.cells hne
      obtain ⟨b2, off2, rfl, hc2⟩ := hR2.cells hne2
      refine (Tryz.slices_Equal_string b off l.length ca b2 off2 l2.length ca2 l l2 w (Nat.le_refl _) (Nat.le_refl _) (by omega) (by omega) hc hc2).mono ?_
      rintro e w' ⟨rfl, q, rfl⟩
      rw [List.take_length, List.take_length]
      exact ⟨rfl, ⟨rfl, rfl, rfl, Nat.le_refl _, fun _ _ => rfl⟩⟩
end
end Go.Proofs.YtokgmpjblnpjmaaGreatDoor.G.E
