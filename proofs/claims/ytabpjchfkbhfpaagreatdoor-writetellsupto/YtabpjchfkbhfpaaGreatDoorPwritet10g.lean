/- A number as it lies in a row of cells. Data as trees: as they lie in memory, and as they are. Steps over data: what is read of a node, and of a list of them. How much a datum holds. The order of data, told on trees: it is one, and 0 for the same trees alone. Plain functions on characters: what the program's functions and the document's answers give, and that they agree. Walks of the program's small functions on characters. Walks of the document's small functions on characters. The library's contracts, as theorems of this program. Walks of what tells how a character is spelled. The library's contracts, as theorems of this program. Is a character among those of a text of plain letters? A character beyond the plain letters is not among them. Which characters may stand in a symbol. Which characters may stand in a symbol, by the document. A character's number in hexadecimal digits, by the document. A number in decimal digits, by the document. A text as it is written, by the document. Data as texts. The library's contracts, as theorems of this program. A builder that is a part of a struct: its check, and the text that it holds. A rune appended to a row of bytes. Trailing zeros of 16. Hexadecimal digits in an array. The library's contracts, as theorems of this program. A byte's decimal digits, by the library. Facts for the writer's walks. The library's contracts, as theorems of this program. More facts for the writer's walks. How long the texts of data are, and what they are node by node. The walk of the document's utf8. Units of a text as rows; when a text has no bad byte. The names of characters, and texts put together: what the document's writer needs. Walks of hexadecimal digits by the library. Walks of a builder that is a part of a struct. Walks of a byte and of a rune that are written. Walks of small texts that are written. -/
import Derived.Test.YtabpjchfkbhfpaaGreatDoorPwritet10d
import Derived.Test.YtabpjchfkbhfpaaGreatDoorPwritet10e
import Derived.Test.YtabpjchfkbhfpaaGreatDoorPwritet10f
import Derived.Lib.ValidU
import Derived.Lib.Bytealg
import Derived.Lib.RuneBytes
import Derived.RowKit
import Derived.Test.YtabpjchfkbhfpaaGreatDoorProg
import Derived.WalkKit
import Derived.WalkSpells
import Derived.Deep.Light
import Derived.Shelf.Strings.Builder1
import Derived.Shelf.Small.Utf8
import Derived.Shelf.Small.Bits
import Derived.Shelf.Small.Strs
import Derived.Shelf.Strings.BuilderF
import Derived.Shelf.Strings.BuilderK
import Derived.Shelf.Strings.BuilderRune
import Derived.Shelf.Utf8.AppendRunePlain
import Derived.Shelf.Strconv.Itoa0
import Derived.Shelf.Strconv.Itoa1
import Derived.Shelf.LaysM
import Derived.Shelf.Strconv.Itoa2
import Derived.Shelf.Strconv.Itoa3
import Derived.Shelf.Strings.Search1
import Derived.Shelf.Strings.Prefix
import Derived.Shelf.Strings.Runes
import Derived.Shelf.Unicode.ValidAny
import Derived.Lib.TrimAscii
import Derived.Test.YtabpjchfkbhfpaaGreatDoorShelf
import Derived.Laws.Runes
import Derived.Laws.Strings3
import Derived.Scope
import Derived.Shelf.RegionOpenPlain
import Derived.Lib.SlBytesConst
import Derived.Lib.ConvBytes
import Derived.Laws.IdiomStrings
import Derived.Test.YtabpjchfkbhfpaaGreatDoorOwn
import Derived.Laws.Externs
import Derived.Lib.Builder
import Derived.Lib.UnsafeStr
import Derived.Lib.AppendStr
import Derived.Test.YtabpjchfkbhfpaaGreatDoorBits
import Derived.Lib.SmallJoins
namespace Go.Proofs.YtabpjchfkbhfpaaGreatDoor.G
open Go.RowKit
set_option linter.unusedVariables false
set_option linter.unusedSimpArgs false

/-- A number as it lies in a row of cells. -/
structure Nu where
  q : Q6
  o1 : Option Addr
  c1 : Nat
  o2 : Option Addr
  c2 : Nat
  o3 : Option Addr
  c3 : Nat
  o4 : Option Addr
  c4 : Nat
def Nu.nm (w : World) (y : Nu) : Prop := Nm w y.q y.o1 y.c1 y.o2 y.c2 y.o3 y.c3 y.o4 y.c4
theorem Nu.below {w w' : World} {y : Nu} (h : y.nm w) (hb : Below w.heap.size w w') : y.nm w' := ⟨h.s1.below hb, h.s2.below hb, h.s3.below hb, h.s4.below hb⟩
def Nu.val (y : Nu) : Value := qwb y.q y.o1 y.c1 y.o2 y.c2 y.o3 y.c3 y.o4 y.c4
theorem qi {P : Program} {w : World} {l : List (Nat × Value)} {dst : Option Tmp} {ty : TypeId} {pos : String} {after : Array Edge} {guard : Option (Nat × Bool)} {x : Operand} {a : Addr} (hx : ev l x = some (.pointer (some a))) : Does P l ⟨dst, .nilCheck x, ty, pos, after, guard⟩ w (.pointer (some a)) w := fun ρ h => by
  simp only [execOp, h x _ hx, Sem.run_pure]
/-- A node, but for what is below it. -/
structure Nd where
  k : Int
  n : Int
  y : Nu
  s : ByteArray
  ro : Option Addr
  rc : Nat
  rl : List UInt8
  lo : Option Addr
  lc : Nat
/-- A datum as it lies in memory. -/
inductive Dt where
  | mk (d : Nd) (ts : List Dt)
def Dt.d : Dt → Nd
  | .mk d _ => d
def Dt.ts : Dt → List Dt
  | .mk _ ts => ts
def Nd.cells (d : Nd) (m : Nat) : List Value := [.int .i64 d.k, .int .i64 d.n, .bool d.y.q.b1, .slice d.y.o1 d.y.q.t1.length d.y.c1, .slice d.y.o2 d.y.q.q1.length d.y.c2, .bool d.y.q.b2, .slice d.y.o3 d.y.q.t2.length d.y.c3, .slice d.y.o4 d.y.q.q2.length d.y.c4, .string d.s, .slice d.ro d.rl.length d.rc, .slice d.lo m d.lc]
def Dt.cells (t : Dt) : List Value := t.d.cells t.ts.length
/-- A datum as it is. -/
inductive Tr where
  | mk (k n : Int) (q : Q6) (s : ByteArray) (rl : List UInt8) (ts : List Tr)
def Tr.k : Tr → Int
  | .mk k _ _ _ _ _ => k
def Tr.n : Tr → Int
  | .mk _ n _ _ _ _ => n
def Tr.q : Tr → Q6
  | .mk _ _ q _ _ _ => q
def Tr.s : Tr → ByteArray
  | .mk _ _ _ s _ _ => s
def Tr.rl : Tr → List UInt8
  | .mk _ _ _ _ r _ => r
def Tr.ts : Tr → List Tr
  | .mk _ _ _ _ _ ts => ts
mutual
def Dt.tr : Dt → Tr
  | .mk d ts => .mk d.k d.n d.y.q d.s d.rl (Dt.trs ts)
def Dt.trs : List Dt → List Tr
  | [] => []
  | t :: ts => t.tr :: Dt.trs ts
end
theorem Dt.trs_map : ∀ ts : List Dt, Dt.trs ts = ts.map Dt.tr
  | [] => by simp [Dt.trs]
  | t :: ts => by simp [Dt.trs, Dt.trs_map ts]
mutual
theorem Dt.indT {P : Dt → Prop} (h : ∀ d ts, (∀ t ∈ ts, P t) → P (.mk d ts)) : ∀ t, P t
  | .mk d ts => h d ts (Dt.indL h ts)
theorem Dt.indL {P : Dt → Prop} (h : ∀ d ts, (∀ t ∈ ts, P t) → P (.mk d ts)) : ∀ ts : List Dt, ∀ t ∈ ts, P t
  | [], t, ht => by cases ht
  | u :: us, t, ht => by
    rcases List.mem_cons.1 ht with e | e
    · rw [e]; exact Dt.indT h u
    · exact Dt.indL h us t e
end
mutual
theorem Tr.indT {P : Tr → Prop} (h : ∀ k n q s rl ts, (∀ t ∈ ts, P t) → P (.mk k n q s rl ts)) : ∀ t, P t
  | .mk k n q s rl ts => h k n q s rl ts (Tr.indL h ts)
theorem Tr.indL {P : Tr → Prop} (h : ∀ k n q s rl ts, (∀ t ∈ ts, P t) → P (.mk k n q s rl ts)) : ∀ ts : List Tr, ∀ t ∈ ts, P t
  | [], t, ht => by cases ht
  | u :: us, t, ht => by
    rcases List.mem_cons.1 ht with e | e
    · rw [e]; exact Tr.indT h u
    · exact Tr.indL h us t e
end
/-- These cells stand there. -/
def Here (w : World) (b o : Nat) (cs : List Value) : Prop := b < w.heap.size ∧ ∀ j v, cs[j]? = some v → w.cell? ⟨b, o + j, none⟩ = some v
theorem Here.below {w w' : World} {b o : Nat} {cs : List Value} (h : Here w b o cs) (hb : Below w.heap.size w w') : Here w' b o cs := ⟨Nat.lt_of_lt_of_le h.1 hb.size, fun j v hj => (hb.cell h.1).trans (h.2 j v hj)⟩
/-- A slice reads as these data, one behind the other. -/
def Rt (w : World) (lo : Option Addr) (ts : List Dt) : Prop := ts ≠ [] → ∃ b o, lo = some ⟨b, o, none⟩ ∧ ∀ i t, ts[i]? = some t → Here w b (o + i * 11) t.cells
theorem Rt.below {w w' : World} {lo : Option Addr} {ts : List Dt} (h : Rt w lo ts) (hb : Below w.heap.size w w') : Rt w' lo ts := fun hne => by
  obtain ⟨b, o, e, h2⟩ := h hne
  exact ⟨b, o, e, fun i t hi => (h2 i t hi).below hb⟩
structure NdOk (w : World) (d : Nd) : Prop where
  num : d.y.nm w
  len : LenQ d.y.q
  raw : Rb w d.ro d.rl
  rcap : d.rl.length ≤ d.rc
  rmax : d.rc ≤ 9223372036854775807
  k0 : -9223372036854775808 ≤ d.k
  k1 : d.k ≤ 9223372036854775807
  n0 : -9223372036854775808 ≤ d.n
  n1 : d.n ≤ 9223372036854775807
  smax : d.s.size ≤ 9223372036854775807
theorem NdOk.below {w w' : World} {d : Nd} (h : NdOk w d) (hb : Below w.heap.size w w') : NdOk w' d := { h with num := Nu.below h.num hb, raw := h.raw.below hb }
mutual
/-- A datum reads so. -/
def Dt.rd (w : World) : Dt → Prop
  | .mk d ts => NdOk w d ∧ ts.length ≤ d.lc ∧ d.lc ≤ 9223372036854775807 ∧ Rt w d.lo ts ∧ Dt.rds w ts
def Dt.rds (w : World) : List Dt → Prop
  | [] => True
  | t :: ts => t.rd w ∧ Dt.rds w ts
end
theorem Dt.rds_iff {w : World} : ∀ {ts : List Dt}, Dt.rds w ts ↔ ∀ t ∈ ts, t.rd w
  | [] => by simp [Dt.rds]
  | t :: ts => by simp [Dt.rds, Dt.rds_iff (ts := ts)]
theorem Dt.rd_iff {w : World} {d : Nd} {ts : List Dt} : (Dt.mk d ts).rd w ↔ NdOk w d ∧ ts.length ≤ d.lc ∧ d.lc ≤ 9223372036854775807 ∧ Rt w d.lo ts ∧ ∀ t ∈ ts, t.rd w := by
  rw [← Dt.rds_iff]; unfold Dt.rd; exact Iff.rfl
theorem Dt.keep {w w' : World} (hb : Below w.heap.size w w') : ∀ t : Dt, t.rd w → t.rd w' :=
  Dt.indT fun d ts ih h => by
    rw [Dt.rd_iff] at h ⊢
    exact ⟨h.1.below hb, h.2.1, h.2.2.1, h.2.2.2.1.below hb, fun t ht => ih t ht (h.2.2.2.2 t ht)⟩
theorem Dt.tr_mk (d : Nd) (ts : List Dt) : (Dt.mk d ts).tr = .mk d.k d.n d.y.q d.s d.rl (ts.map Dt.tr) := by rw [Dt.tr, Dt.trs_map]
/-! ### Sound data -/
mutual
/-- How many nodes are left, and whether it was within the limits. -/
def jo (dp left : Int) : Tr → Bool × Int
  | .mk k _ _ _ _ ts => if left - 1 < 0 ∨ 200 < dp then (false, left - 1) else yx dp (decide (k = 8)) 0 (left - 1) ts
def yx (dp : Int) (pr : Bool) (i : Nat) (left : Int) : List Tr → Bool × Int
  | [] => (true, left)
  | t :: ts => if (jo (if pr = true ∧ i = 1 then dp else dp + 1) left t).1 = true then yx dp pr (i + 1) (jo (if pr = true ∧ i = 1 then dp else dp + 1) left t).2 ts else (false, (jo (if pr = true ∧ i = 1 then dp else dp + 1) left t).2)
end
mutual
/-- Is each node so? -/
def uz (p : Tr → Bool) : Tr → Bool
  | .mk k n q s rl ts => p (.mk k n q s rl ts) && qdd p ts
def qdd (p : Tr → Bool) : List Tr → Bool
  | [] => true
  | t :: ts => uz p t && qdd p ts
end
mutual
/-- The document's count. -/
def qcc (p : Tr → Bool) (dp left : Int) : Tr → Int
  | .mk k n q s rl ts => if 200 < dp ∨ left ≤ 0 ∨ p (.mk k n q s rl ts) = false then -1 else qei p dp (decide (k = 8)) 0 (left - 1) ts
def qei (p : Tr → Bool) (dp : Int) (pr : Bool) (i : Nat) (left : Int) : List Tr → Int
  | [] => left
  | t :: ts => if left < 0 then left else qei p dp pr (i + 1) (qcc p (if pr = true ∧ i = 1 then dp else dp + 1) left t) ts
end
theorem qjc {p : Tr → Bool} {dp left : Int} {pr : Bool} {i : Nat} {ts : List Tr} (h : left < 0) : qei p dp pr i left ts = left := by
  cases ts with
  | nil => rfl
  | cons t ts => rw [qei, if_pos h]
def Agree (p : Tr → Bool) (t : Tr) : Prop := ∀ dp left : Int, 0 ≤ left → qcc p dp left t = if (jo dp left t).1 = true ∧ uz p t = true then (jo dp left t).2 else -1
theorem qbc : ∀ t : Tr, ∀ dp left : Int, (jo dp left t).1 = true → 0 ≤ (jo dp left t).2 := by
  refine Tr.indT fun k n q s rl ts ih dp left h => ?_
  rw [jo] at h ⊢
  by_cases hc : left - 1 < 0 ∨ 200 < dp
  · rw [if_pos hc] at h; cases h
  · rw [if_neg hc] at h ⊢
    have hl : 0 ≤ left - 1 := by omega
    generalize left - 1 = m at h hl ⊢
    generalize decide (k = 8) = pr at h ⊢
    have key : ∀ (us : List Tr), (∀ t ∈ us, ∀ dp left : Int, (jo dp left t).1 = true → 0 ≤ (jo dp left t).2) → ∀ (i : Nat) (m : Int), 0 ≤ m → (yx dp pr i m us).1 = true → 0 ≤ (yx dp pr i m us).2 := by
      intro us
      induction us with
      | nil => intro _ i m hm _; exact hm
      | cons t us ih2 =>
        intro hu i m hm h
        rw [yx] at h ⊢
        by_cases ht : (jo (if pr = true ∧ i = 1 then dp else dp + 1) m t).1 = true
        · rw [if_pos ht] at h ⊢
          exact ih2 (fun x hx => hu x (List.mem_cons_of_mem _ hx)) _ _ (hu t List.mem_cons_self _ _ ht) h
        · rw [if_neg ht] at h; cases h
    exact key ts ih 0 m hl h
theorem qmg (p : Tr → Bool) : ∀ t : Tr, Agree p t := by
  refine Tr.indT fun k n q s rl ts ih dp left h0 => ?_
  rw [qcc, jo, uz]
  by_cases hd : 200 < dp
  · rw [if_pos (.inl hd), if_pos (show left - 1 < 0 ∨ 200 < dp from .inr hd), if_neg (by simp)]
  · by_cases hl : left ≤ 0
    · rw [if_pos (.inr (.inl hl)), if_pos (show left - 1 < 0 ∨ 200 < dp from .inl (by omega)), if_neg (by simp)]
    · rw [if_neg (show ¬ (left - 1 < 0 ∨ 200 < dp) by omega)]
      cases hp : p (.mk k n q s rl ts) with
      | false => rw [if_pos (.inr (.inr rfl)), if_neg (by simp)]
      | true =>
        rw [if_neg (by simp; omega), Bool.true_and]
        have hm : 0 ≤ left - 1 := by omega
        generalize left - 1 = m at hm ⊢
        generalize decide (k = 8) = pr
        have key : ∀ (us : List Tr), (∀ t ∈ us, Agree p t) → ∀ (i : Nat) (m : Int), 0 ≤ m → qei p dp pr i m us = if (yx dp pr i m us).1 = true ∧ qdd p us = true then (yx dp pr i m us).2 else -1 := by
          intro us
          induction us with
          | nil => intro _ i m hm; rw [qei, yx, qdd, if_pos ⟨rfl, rfl⟩]
          | cons t us ih2 =>
            intro hu i m hm
            rw [qei, yx, qdd, if_neg (by omega), hu t List.mem_cons_self _ _ hm]
            by_cases ht : (jo (if pr = true ∧ i = 1 then dp else dp + 1) m t).1 = true
            · cases ha : uz p t with
              | false =>
                rw [if_neg (by simp), if_neg (by simp), qjc (by decide)]
              | true =>
                rw [if_pos ⟨ht, rfl⟩, if_pos ht, Bool.true_and]
                exact ih2 (fun x hx => hu x (List.mem_cons_of_mem _ hx)) _ _ (qbc t _ _ ht)
            · rw [if_neg (fun e => ht e.1), if_neg ht, if_neg (by simp), qjc (by decide)]
        exact key ts ih 0 m hm
/-- Within the limits, and sound at each node. -/
def xv (p : Tr → Bool) (t : Tr) : Bool := (jo 1 20000 t).1 && uz p t
theorem qse (p : Tr → Bool) (t : Tr) : decide (0 ≤ qcc p 1 20000 t) = xv p t := by
  rw [qmg p t 1 20000 (by decide)]
  unfold xv
  by_cases h : (jo 1 20000 t).1 = true
  · cases ha : uz p t with
    | true =>
      rw [if_pos ⟨h, rfl⟩, h, Bool.and_self]
      exact decide_eq_true (qbc t _ _ h)
    | false => rw [if_neg (by simp), Bool.and_false]; rfl
  · rw [if_neg (fun e => h e.1), Bool.eq_false_iff.2 h]; rfl
section
variable {P : Program} {w0 w : World} {L : List Ck} {l : List (Nat × Value)} {dst : Option Tmp} {ty : TypeId} {pos : String} {after : Array Edge} {guard : Option (Nat × Bool)} {v : Value}
theorem qbf (hM : Mg w0 w L) {b o o' j : Nat} {cs : List Value} (hH : Here w0 b o cs) {t : TypeId} (ht : Is1 P t) {x : Operand} (hx : ev l x = some (.pointer (some ⟨b, o', none⟩))) (ho : o' = o + j) (hv : cs[j]? = some v) : Does P l ⟨dst, .load t x, ty, pos, after, guard⟩ w v w := by
  subst ho
  exact xg hx (ki ht ((hM.bel.cell hH.1).trans (hH.2 j v hv)))
theorem jt (hM : Mg w0 w L) {b o n : Nat} {cs : List Value} (hH : Here w0 b o cs) {t : TypeId} (ht : IsS P t n) {x : Operand} (hx : ev l x = some (.pointer (some ⟨b, o, none⟩))) (hl : cs.length = n) : Does P l ⟨dst, .load t x, ty, pos, after, guard⟩ w (.agg cs.toArray) w :=
  xg hx (kh ht cs hl (fun j v hj => (hM.bel.cell hH.1).trans (hH.2 j v hj)))
theorem zk {t e : TypeId} {sz : Nat} (hu : P.underlying t = some (.slice e)) (he : (P.info? e).map (·.size) = some sz) {x i : Operand} {so : Option Addr} {g off n c k : Nat} {z : Int} (hx : ev l x = some (.slice so n c)) (hi : ev l i = some (.int .i64 z)) (hz : z = (k : Nat)) (hso : so = some ⟨g, off, none⟩) (hk : k < n) :
    Does P l ⟨dst, .indexAddr t x i, ty, pos, after, guard⟩ w (.pointer (some ⟨g, off + k * sz, none⟩)) w := by
  subst hz hso
  exact zu (l := l) (dst := dst) (ty := ty) (pos := pos) (after := after) (guard := guard) (w := w) hx hi (qjd hu he hk)
end
/-- A child of a node. -/
theorem kid {w : World} {d : Nd} {ts : List Dt} (h : (Dt.mk d ts).rd w) {i : Nat} (hi : i < ts.length) : ∃ t b o, ts[i]? = some t ∧ t ∈ ts ∧ t.rd w ∧ d.lo = some ⟨b, o, none⟩ ∧ Here w b (o + i * 11) t.cells := by
  rw [Dt.rd_iff] at h
  have hne : ts ≠ [] := fun e => by subst e; simp at hi
  obtain ⟨b, o, e, h2⟩ := h.2.2.2.1 hne
  have ht := List.getElem?_eq_getElem hi
  exact ⟨ts[i], b, o, ht, List.getElem_mem hi, h.2.2.2.2 _ (List.getElem_mem hi), e, h2 i _ ht⟩
theorem yk {ts : List Dt} {i : Nat} {t : Dt} (h : ts[i]? = some t) : (ts.map Dt.tr).drop i = t.tr :: (ts.map Dt.tr).drop (i + 1) := by
  obtain ⟨hi, rfl⟩ := List.getElem?_eq_some_iff.1 h
  rw [List.drop_eq_getElem_cons (by simpa using hi)]
  simp
theorem uf {ts : List Dt} {i : Nat} (h : ¬ i < ts.length) : (ts.map Dt.tr).drop i = [] := List.drop_of_length_le (by simp; omega)
theorem qpc : ∀ t : Tr, ∀ dp left : Int, (jo dp left t).2 ≤ left := by
  refine Tr.indT fun k n q s rl ts ih dp left => ?_
  rw [jo]
  split
  · show left - 1 ≤ left; omega
  · have key : ∀ (us : List Tr), (∀ t ∈ us, ∀ dp left : Int, (jo dp left t).2 ≤ left) → ∀ (i : Nat) (m : Int), (yx dp (decide (k = 8)) i m us).2 ≤ m := by
      intro us
      induction us with
      | nil => intro _ i m; exact Int.le_refl _
      | cons t us ih2 =>
        intro hu i m
        rw [yx]
        generalize (if decide (k = 8) = true ∧ i = 1 then dp else dp + 1) = D
        have h1 := hu t List.mem_cons_self D m
        split
        · exact Int.le_trans (ih2 (fun x hx => hu x (List.mem_cons_of_mem _ hx)) _ _) h1
        · exact h1
    have := key ts ih 0 (left - 1)
    omega
theorem qpd {dp m D : Int} {pr : Bool} {i : Nat} {ts : List Dt} {t : Dt} (hi : ts[i]? = some t) (hD : (if pr = true ∧ i = 1 then dp else dp + 1) = D) (h : (jo D m t.tr).1 = true) : yx dp pr i m ((ts.map Dt.tr).drop i) = yx dp pr (i + 1) (jo D m t.tr).2 ((ts.map Dt.tr).drop (i + 1)) := by
  rw [yk hi, yx, hD, if_pos h]
theorem qgb {dp m D : Int} {pr : Bool} {i : Nat} {ts : List Dt} {t : Dt} (hi : ts[i]? = some t) (hD : (if pr = true ∧ i = 1 then dp else dp + 1) = D) (h : (jo D m t.tr).1 = false) : yx dp pr i m ((ts.map Dt.tr).drop i) = (false, (jo D m t.tr).2) := by
  rw [yk hi, yx, hD, if_neg (by rw [h]; decide)]
theorem qie {dp left : Int} {d : Nd} {ts : List Dt} (h1 : ¬ left - 1 < 0) (h2 : ¬ 200 < dp) : jo dp left (Dt.mk d ts).tr = yx dp (decide (d.k = 8)) 0 (left - 1) ((ts.map Dt.tr).drop 0) := by
  rw [Dt.tr_mk, jo, if_neg (by omega), List.drop_zero]
theorem zae {dp left : Int} {d : Nd} {ts : List Dt} (h : left - 1 < 0 ∨ 200 < dp) : jo dp left (Dt.mk d ts).tr = (false, left - 1) := by
  rw [Dt.tr_mk, jo, if_pos h]
theorem qif {p : Tr → Bool} {d : Nd} {ts : List Dt} : uz p (Dt.mk d ts).tr = (p (Dt.mk d ts).tr && qdd p ((ts.map Dt.tr).drop 0)) := by
  rw [Dt.tr_mk, uz, List.drop_zero]
theorem zaf {p : Tr → Bool} {i : Nat} {ts : List Dt} {t : Dt} (hi : ts[i]? = some t) : qdd p ((ts.map Dt.tr).drop i) = (uz p t.tr && qdd p ((ts.map Dt.tr).drop (i + 1))) := by
  rw [yk hi, qdd]
theorem zag {p : Tr → Bool} {dp left : Int} {d : Nd} {ts : List Dt} (h1 : ¬ 200 < dp) (h2 : ¬ left ≤ 0) (h3 : p (Dt.mk d ts).tr = true) : qcc p dp left (Dt.mk d ts).tr = qei p dp (decide (d.k = 8)) 0 (left - 1) ((ts.map Dt.tr).drop 0) := by
  rw [Dt.tr_mk] at h3 ⊢
  rw [qcc, if_neg (by rw [h3]; simp; omega), List.drop_zero]
theorem qpe {p : Tr → Bool} {dp left : Int} {d : Nd} {ts : List Dt} (h : 200 < dp ∨ left ≤ 0 ∨ p (Dt.mk d ts).tr = false) : qcc p dp left (Dt.mk d ts).tr = -1 := by
  rw [Dt.tr_mk] at h ⊢
  rw [qcc, if_pos h]
theorem qpf {p : Tr → Bool} {dp m D : Int} {pr : Bool} {i : Nat} {ts : List Dt} {t : Dt} (hi : ts[i]? = some t) (hm : ¬ m < 0) (hD : (if pr = true ∧ i = 1 then dp else dp + 1) = D) : qei p dp pr i m ((ts.map Dt.tr).drop i) = qei p dp pr (i + 1) (qcc p D m t.tr) ((ts.map Dt.tr).drop (i + 1)) := by
  rw [yk hi, qei, if_neg hm, hD]
theorem qwf (p : Tr → Bool) (t : Tr) (dp left : Int) (h : 0 ≤ left) : -1 ≤ qcc p dp left t ∧ qcc p dp left t ≤ left := by
  rw [qmg p t dp left h]
  split
  · rename_i hc
    exact ⟨by have := qbc t _ _ hc.1; omega, qpc t _ _⟩
  · exact ⟨by omega, by omega⟩
/-- A fraction without words. -/
def kg (b : Bool) (m m' : Nat) : Bool := !b && (decide (m = 0) && decide (m' = 0))
/-- Nothing beside the kind. -/
def vl (n : Int) (b1 : Bool) (m1 m2 : Nat) (b2 : Bool) (m3 m4 : Nat) (s : ByteArray) (mr ml : Nat) : Bool := decide (n = 0) && (kg b1 m1 m2 && (kg b2 m3 m4 && (decide (s = ⟨#[]⟩) && (decide (mr = 0) && decide (ml = 0)))))
def vz (n : Int) : Bool := decide (0 ≤ n ∧ n ≤ 1114111 ∧ (n < 55296 ∨ 57343 < n))
/-- A text of characters. -/
def okS (s : ByteArray) : Bool := Lib.validD s.data.toList
/-- Sound by its kind. -/
def jj (k n : Int) (q : Q6) (s : ByteArray) (mr ml : Nat) : Bool :=
  if k = 1 ∨ k = 10 then vl n q.b1 q.t1.length q.q1.length q.b2 q.t2.length q.q2.length s mr ml
  else if k = 2 then decide (n = 0 ∨ n = 1) && vl 0 q.b1 q.t1.length q.q1.length q.b2 q.t2.length q.q2.length s mr ml
  else if k = 3 then jx q && vl n false 0 0 false 0 0 s mr ml
  else if k = 4 then vz n && vl 0 q.b1 q.t1.length q.q1.length q.b2 q.t2.length q.q2.length s mr ml
  else if k = 5 ∨ k = 6 ∨ k = 11 then okS s && vl n q.b1 q.t1.length q.q1.length q.b2 q.t2.length q.q2.length ⟨#[]⟩ mr ml
  else if k = 7 then vl n q.b1 q.t1.length q.q1.length q.b2 q.t2.length q.q2.length s 0 ml
  else if k = 8 then decide (ml = 2) && vl n q.b1 q.t1.length q.q1.length q.b2 q.t2.length q.q2.length s mr 0
  else if k = 9 then vl n q.b1 q.t1.length q.q1.length q.b2 q.t2.length q.q2.length s mr 0
  else false
def jc : Tr → Bool
  | .mk k n q s rl ts => jj k n q s rl.length ts.length
theorem kn {d : Nd} {ts : List Dt} : jc (Dt.mk d ts).tr = jj d.k d.n d.y.q d.s d.rl.length ts.length := by
  rw [Dt.tr_mk, jc, List.length_map]
mutual
/-- How much a datum holds. -/
def Tr.bulk : Tr → Nat
  | .mk _ _ q s rl ts => s.size + rl.length + (q.t1.length + q.q1.length + (q.t2.length + q.q2.length)) + 1 + Tr.bulks ts
def Tr.bulks : List Tr → Nat
  | [] => 0
  | t :: ts => t.bulk + Tr.bulks ts
end
theorem vg {k n : Int} {q : Q6} {s : ByteArray} {rl : List UInt8} {ts : List Tr} : (Tr.mk k n q s rl ts).bulk = s.size + rl.length + (q.t1.length + q.q1.length + (q.t2.length + q.q2.length)) + 1 + Tr.bulks ts := by rw [Tr.bulk]
theorem qgc : ∀ {ts : List Tr} {t : Tr}, t ∈ ts → t.bulk ≤ Tr.bulks ts
  | u :: us, t, h => by
    rw [Tr.bulks]
    rcases List.mem_cons.1 h with e | e
    · subst e; omega
    · have := qgc e; omega
theorem qfb {d : Nd} {ts : List Dt} {t : Dt} (h : t ∈ ts) : t.tr.bulk + d.s.size + 1 ≤ (Dt.mk d ts).tr.bulk := by
  rw [Dt.tr_mk, vg]
  have := qgc (List.mem_map_of_mem (f := Dt.tr) h)
  omega
theorem qmh {d : Nd} {ts : List Dt} : d.s.size ≤ (Dt.mk d ts).tr.bulk := by
  rw [Dt.tr_mk, vg]
  omega
open Go.RowKit Go.Lib
/-! ### The order of trees -/
/-! ### The same trees -/
def Q6.none : Q6 := ⟨false, [], [], false, [], []⟩
def zfa (q : Q6) : Prop := ∃ u v, q = Q6.rat u v ∧ qsh u ∧ qsh v
theorem qsj {b : Bool} {t u : List Nat} (h : kg b t.length u.length = true) : b = false ∧ t = [] ∧ u = [] := by
  unfold kg at h
  cases b <;> simp at h
  exact ⟨rfl, h.1, h.2⟩
theorem vv {n : Int} {q : Q6} {s : ByteArray} {mr ml : Nat} (h : vl n q.b1 q.t1.length q.q1.length q.b2 q.t2.length q.q2.length s mr ml = true) : n = 0 ∧ q = Q6.none ∧ s = ⟨#[]⟩ ∧ mr = 0 ∧ ml = 0 := by
  unfold vl at h
  simp only [Bool.and_eq_true, decide_eq_true_eq] at h
  obtain ⟨h1, h2, h3, h4, h5, h6⟩ := h
  obtain ⟨a1, a2, a3⟩ := qsj h2
  obtain ⟨b1, b2, b3⟩ := qsj h3
  refine ⟨h1, ?_, h4, h5, h6⟩
  cases q
  simp only at a1 a2 a3 b1 b2 b3
  subst a1 a2 a3 b1 b2 b3
  rfl
/-- What is not named by the kind is nothing. -/
structure Bare (k n : Int) (q : Q6) (s : ByteArray) (mr ml : Nat) : Prop where
  hn : k ≠ 2 → k ≠ 4 → n = 0
  hq : k ≠ 3 → q = Q6.none
  hs : k ≠ 5 → k ≠ 6 → k ≠ 11 → s = ⟨#[]⟩
  hr : k ≠ 7 → mr = 0
  hl : k ≠ 8 → k ≠ 9 → ml = 0
  h8 : k = 8 → ml = 2
  h3 : k = 3 → jx q = true
  h0 : 1 ≤ k
  h1 : k ≤ 11
  h2 : k = 2 → n = 0 ∨ n = 1
  h4 : k = 4 → vz n = true
  h5 : k = 5 ∨ k = 6 ∨ k = 11 → okS s = true
theorem qwg {k n : Int} {q : Q6} {s : ByteArray} {mr ml : Nat} (h : jj k n q s mr ml = true) : Bare k n q s mr ml := by
  unfold jj at h
  split at h
  · rename_i hk
    obtain ⟨a, b, c, d, e⟩ := vv h
    exact ⟨fun _ _ => a, fun _ => b, fun _ _ _ => c, fun _ => d, fun _ _ => e, fun _ => by omega, fun _ => by omega, by omega, by omega, fun _ => by omega, fun _ => by omega, fun _ => by omega⟩
  · split at h
    · rename_i hk
      simp only [Bool.and_eq_true, decide_eq_true_eq] at h
      obtain ⟨a, b, c, d, e⟩ := vv h.2
      exact ⟨fun _ _ => by omega, fun _ => b, fun _ _ _ => c, fun _ => d, fun _ _ => e, fun _ => by omega, fun _ => by omega, by omega, by omega, fun _ => h.1, fun _ => by omega, fun _ => by omega⟩
    · split at h
      · rename_i hk
        simp only [Bool.and_eq_true] at h
        obtain ⟨a, b, c, d, e⟩ := vv (q := Q6.none) h.2
        exact ⟨fun _ _ => a, fun _ => by omega, fun _ _ _ => c, fun _ => d, fun _ _ => e, fun _ => by omega, fun _ => h.1, by omega, by omega, fun _ => by omega, fun _ => by omega, fun _ => by omega⟩
      · split at h
        · rename_i hk
          simp only [Bool.and_eq_true] at h
          obtain ⟨a, b, c, d, e⟩ := vv h.2
          exact ⟨fun _ _ => by omega, fun _ => b, fun _ _ _ => c, fun _ => d, fun _ _ => e, fun _ => by omega, fun _ => by omega, by omega, by omega, fun _ => by omega, fun _ => h.1, fun _ => by omega⟩
        · split at h
          · rename_i hk
            simp only [Bool.and_eq_true] at h
            obtain ⟨a, b, c, d, e⟩ := vv h.2
            exact ⟨fun _ _ => a, fun _ => b, fun _ _ _ => by omega, fun _ => d, fun _ _ => e, fun _ => by omega, fun _ => by omega, by omega, by omega, fun _ => by omega, fun _ => by omega, fun _ => h.1⟩
          · split at h
            · rename_i hk
              obtain ⟨a, b, c, d, e⟩ := vv h
              exact ⟨fun _ _ => a, fun _ => b, fun _ _ _ => c, fun _ => by omega, fun _ _ => e, fun _ => by omega, fun _ => by omega, by omega, by omega, fun _ => by omega, fun _ => by omega, fun _ => by omega⟩
            · split at h
              · rename_i hk
                simp only [Bool.and_eq_true, decide_eq_true_eq] at h
                obtain ⟨a, b, c, d, e⟩ := vv h.2
                exact ⟨fun _ _ => a, fun _ => b, fun _ _ _ => c, fun _ => d, fun _ _ => by omega, fun _ => h.1, fun _ => by omega, by omega, by omega, fun _ => by omega, fun _ => by omega, fun _ => by omega⟩
              · split at h
                · rename_i hk
                  obtain ⟨a, b, c, d, e⟩ := vv h
                  exact ⟨fun _ _ => a, fun _ => b, fun _ _ _ => c, fun _ => d, fun _ _ => by omega, fun _ => by omega, fun _ => by omega, by omega, by omega, fun _ => by omega, fun _ => by omega, fun _ => by omega⟩
                · cases h
mutual
/-- Sound at each node, and its numbers are fractions in lowest terms. -/
def Tr.good : Tr → Prop
  | .mk k n q s rl ts => Bare k n q s rl.length ts.length ∧ (k = 3 → zfa q) ∧ Tr.goods ts
def Tr.goods : List Tr → Prop
  | [] => True
  | t :: ts => t.good ∧ Tr.goods ts
end
theorem qmj : ∀ {ts : List Tr}, Tr.goods ts ↔ ∀ t ∈ ts, t.good
  | [] => by simp [Tr.goods]
  | t :: ts => by simp [Tr.goods, qmj (ts := ts)]
theorem qpg {k n : Int} {q : Q6} {s : ByteArray} {rl : List UInt8} {ts : List Tr} : (Tr.mk k n q s rl ts).good ↔ Bare k n q s rl.length ts.length ∧ (k = 3 → zfa q) ∧ ∀ t ∈ ts, t.good := by
  rw [← qmj]; unfold Tr.good; exact Iff.rfl
theorem qta {p : Tr → Bool} : ∀ {ts : List Tr}, qdd p ts = true → ∀ t ∈ ts, uz p t = true
  | [], _, t, ht => by cases ht
  | u :: us, h, t, ht => by
    rw [qdd, Bool.and_eq_true] at h
    rcases List.mem_cons.1 ht with e | e
    · subst e; exact h.1
    · exact qta h.2 t e
theorem Dt.good {w : World} : ∀ t : Dt, t.rd w → uz jc t.tr = true → t.tr.good := by
  refine Dt.indT fun d ts ih hrd ha => ?_
  rw [qif, kn, Bool.and_eq_true] at ha
  have hok := Dt.rd_iff.1 hrd
  rw [Dt.tr_mk, qpg]
  have hb := qwg ha.1
  refine ⟨by rw [List.length_map]; exact hb, fun hk => ?_, fun t ht => ?_⟩
  · rcases qsi hok.1.num with h | h
    · rw [hb.h3 hk] at h; cases h
    · exact h
  · obtain ⟨u, hu, rfl⟩ := List.mem_map.1 ht
    refine ih u hu (hok.2.2.2.2 u hu) ?_
    exact qta (ts := ts.map Dt.tr) (by simpa using ha.2) _ ht
/-! ### Trees as they lie in memory -/
theorem Dt.eta (t : Dt) : Dt.mk t.d t.ts = t := by cases t; rfl
theorem Dt.tr_eta (t : Dt) : t.tr = .mk t.d.k t.d.n t.d.y.q t.d.s t.d.rl (t.ts.map Dt.tr) := by rw [← Dt.tr_mk, Dt.eta]
theorem qgd {w : World} {t : Dt} (h : t.rd w) {i : Nat} (hi : i < t.ts.length) : ∃ t1 b o, t.ts[i]? = some t1 ∧ t1 ∈ t.ts ∧ t1.rd w ∧ t.d.lo = some ⟨b, o, none⟩ ∧ Here w b (o + i * 11) (t1.d.cells t1.ts.length) := kid (d := t.d) (by rw [Dt.eta]; exact h) hi
theorem Dt.okT {w : World} {t : Dt} (h : t.rd w) : NdOk w t.d ∧ t.ts.length ≤ 9223372036854775807 := by
  rw [← Dt.eta t, Dt.rd_iff] at h
  exact ⟨h.1, Nat.le_trans h.2.1 h.2.2.1⟩
theorem zq {t : Dt} (h : t.tr.good) : Bare t.d.k t.d.n t.d.y.q t.d.s t.d.rl.length t.ts.length ∧ (t.d.k = 3 → zfa t.d.y.q) ∧ ∀ c ∈ t.ts, c.tr.good := by
  rw [Dt.tr_eta, qpg, List.length_map] at h
  exact ⟨h.1, h.2.1, fun c hc => h.2.2 _ (List.mem_map_of_mem hc)⟩
theorem qna {t c : Dt} (h : c ∈ t.ts) : c.tr.bulk + t.d.s.size + 1 ≤ t.tr.bulk := by
  have := qfb (d := t.d) h
  rwa [Dt.eta] at this
theorem qde {α : Type} {l : List α} (h : l.length = 2) {a b : α} (h0 : l[0]? = some a) (h1 : l[1]? = some b) : l = [a, b] := by
  match l, h with
  | [x, y], _ => simp at h0 h1; rw [h0, h1]
/-! ### The law -/
/-! ### The hash -/
/-- One more number in a hash. -/
def hw (h n : Int) : Int := bits .xor .u64 (IntKind.u64.wrap (bits .xor .u64 h n * 1099511628211)) (IntKind.u64.wrap (bits .xor .u64 h n * 1099511628211) / 2 ^ 32)
def hwB (h : Int) (l : List UInt8) : Int := l.foldl (fun h n => hw h (n.toNat : Int)) h
theorem zfb {k n : Int} {q : Q6} {s : ByteArray} {mr ml : Nat} (b : Bare k n q s mr ml) : 0 ≤ n ∧ n ≤ 1114111 := by
  by_cases h2 : k = 2
  · have := b.h2 h2; omega
  · by_cases h4 : k = 4
    · have := b.h4 h4
      unfold vz at this
      have := of_decide_eq_true this
      omega
    · have := b.hn h2 h4; omega
theorem qph {w : World} {t : Dt} (ht : t.rd w) (h : xv jc t.tr = true) : t.tr.good := by
  unfold xv at h
  rw [Bool.and_eq_true] at h
  exact Dt.good t ht h.2
end Go.Proofs.YtabpjchfkbhfpaaGreatDoor.G
namespace Go.Proofs.YtabpjchfkbhfpaaGreatDoor.C
open Go.RowKit

def qfc (r : Int) : Bool := decide ((r ≠ 304 ∧ r ≠ 305 ∧ 256 ≤ r ∧ r ≤ 311) ∨ (330 ≤ r ∧ r ≤ 375))
def qpi (r : Int) : Bool := decide ((313 ≤ r ∧ r ≤ 328) ∨ (377 ≤ r ∧ r ≤ 382))
/-- how far below a small letter its capital stands -/
def kb (r : Int) : Int :=
  if 97 ≤ r ∧ r ≤ 122 then 32
  else if 224 ≤ r ∧ r ≤ 254 ∧ r ≠ 247 then 32
  else if qfc r = true ∧ r % 2 = 1 then 1
  else if qpi r = true ∧ r % 2 = 0 then 1
  else if 945 ≤ r ∧ r ≤ 969 ∧ r ≠ 962 then 32
  else if 1072 ≤ r ∧ r ≤ 1103 then 32
  else if 1104 ≤ r ∧ r ≤ 1119 then 80
  else 0

def ko (r : Int) : Int :=
  if kb (wrap32 (r + 1)) = 1 then 1 else if kb (wrap32 (r + 32)) = 32 then 32 else if kb (wrap32 (r + 80)) = 80 then 80 else 0
def xj (r : Int) : Bool := decide (r = 170 ∨ r = 181 ∨ r = 186 ∨ r = 223 ∨ r = 255 ∨ r = 304 ∨ r = 305 ∨ r = 312 ∨ r = 329 ∨ r = 376 ∨ r = 383 ∨ r = 962)
def js (r : Int) : Bool := decide (kb r ≠ 0 ∨ ko r ≠ 0) || xj r
def blankB (r : Int) : Bool := decide (r = 9 ∨ r = 10 ∨ r = 11 ∨ r = 12 ∨ r = 13 ∨ r = 32 ∨ r = 133 ∨ r = 160 ∨ r = 8232 ∨ r = 8233)

/-- The document's: the capital of a small letter, 0 if it is none. -/
def uu (r : Int) : Int := if kb r = 0 then 0 else r - kb r
/-- The document's: the small letter of a capital, 0 if it is none. -/
def qah (r : Int) : Int := if ko r = 0 then 0 else r + ko r

theorem kd (r : Int) (h : r < 97 ∨ 1119 < r) : kb r = 0 := by
  unfold kb qfc qpi
  simp only [decide_eq_true_eq]
  rw [if_neg (by omega), if_neg (by omega), if_neg (by omega), if_neg (by omega), if_neg (by omega), if_neg (by omega), if_neg (by omega)]
theorem uh (x : Int) (h0 : -2147483648 ≤ x) (h1 : x ≤ 2147483647) : wrap32 x = x := by unfold wrap32; omega
theorem qpj (r k : Int) (h0 : -2147483648 ≤ r) (h1 : r ≤ 2147483647) (hk : 0 ≤ k) (hk' : k ≤ 80) : kb (wrap32 (r + k)) = kb (r + k) := by
  by_cases h : r + k ≤ 2147483647
  · rw [uh _ (by omega) h]
  · rw [kd (wrap32 (r + k)) (by unfold wrap32; omega), kd (r + k) (by omega)]
def qge (r : Int) : Int := if kb (r + 1) = 1 then 1 else if kb (r + 32) = 32 then 32 else if kb (r + 80) = 80 then 80 else 0
theorem zbh (r : Int) (h0 : -2147483648 ≤ r) (h1 : r ≤ 2147483647) : ko r = qge r := by
  unfold ko qge
  rw [qpj r 1 h0 h1 (by omega) (by omega), qpj r 32 h0 h1 (by omega) (by omega), qpj r 80 h0 h1 (by omega) (by omega)]
theorem qwh (r : Int) (h : r < 17 ∨ 1119 < r) : qge r = 0 := by
  unfold qge
  rw [kd (r + 1) (by omega), if_neg (by omega)]
  by_cases a : r + 32 < 97 ∨ 1119 < r + 32
  · rw [kd (r + 32) a, if_neg (by omega)]
    rw [kd (r + 80) (by omega), if_neg (by omega)]
  · omega

theorem qbg (r : Int) : (qfc r = true) = ((r ≠ 304 ∧ r ≠ 305 ∧ 256 ≤ r ∧ r ≤ 311) ∨ (330 ≤ r ∧ r ≤ 375)) := by simp [qfc]
theorem qqa (r : Int) : (qfc r = false) = ¬ ((r ≠ 304 ∧ r ≠ 305 ∧ 256 ≤ r ∧ r ≤ 311) ∨ (330 ≤ r ∧ r ≤ 375)) := by rw [← qbg]; simp
theorem qgf (r : Int) : (qpi r = true) = ((313 ≤ r ∧ r ≤ 328) ∨ (377 ≤ r ∧ r ≤ 382)) := by simp [qpi]
theorem qwi (r : Int) : (qpi r = false) = ¬ ((313 ≤ r ∧ r ≤ 328) ∨ (377 ≤ r ∧ r ≤ 382)) := by rw [← qgf]; simp

/-- Which distance at which character. -/
theorem uw (r : Int) :
    (kb r = 32 ∧ ((97 ≤ r ∧ r ≤ 122) ∨ (224 ≤ r ∧ r ≤ 254 ∧ r ≠ 247) ∨ (945 ≤ r ∧ r ≤ 969 ∧ r ≠ 962) ∨ (1072 ≤ r ∧ r ≤ 1103)))
    ∨ (kb r = 1 ∧ ((((r ≠ 304 ∧ r ≠ 305 ∧ 256 ≤ r ∧ r ≤ 311) ∨ (330 ≤ r ∧ r ≤ 375)) ∧ r % 2 = 1) ∨ (((313 ≤ r ∧ r ≤ 328) ∨ (377 ≤ r ∧ r ≤ 382)) ∧ r % 2 = 0)))
    ∨ (kb r = 80 ∧ 1104 ≤ r ∧ r ≤ 1119)
    ∨ (kb r = 0 ∧ ¬ (97 ≤ r ∧ r ≤ 122) ∧ ¬ (224 ≤ r ∧ r ≤ 254 ∧ r ≠ 247) ∧ ¬ (945 ≤ r ∧ r ≤ 969 ∧ r ≠ 962) ∧ ¬ (1072 ≤ r ∧ r ≤ 1119)
        ∧ ¬ (((r ≠ 304 ∧ r ≠ 305 ∧ 256 ≤ r ∧ r ≤ 311) ∨ (330 ≤ r ∧ r ≤ 375)) ∧ r % 2 = 1) ∧ ¬ (((313 ≤ r ∧ r ≤ 328) ∨ (377 ≤ r ∧ r ≤ 382)) ∧ r % 2 = 0)) := by
  unfold kb
  simp only [qbg, qgf]
  split
  · omega
  · split
    · omega
    · split
      · omega
      · split
        · omega
        · split
          · omega
          · split
            · omega
            · split <;> omega

/-- Which distance at which capital. -/
def SmallAt (r s : Int) : Prop :=
    (s = 1 ∧ ((((r ≠ 304 ∧ 256 ≤ r ∧ r ≤ 310) ∨ (330 ≤ r ∧ r ≤ 374)) ∧ r % 2 = 0) ∨ (((313 ≤ r ∧ r ≤ 327) ∨ (377 ≤ r ∧ r ≤ 381)) ∧ r % 2 = 1)))
    ∨ (s = 32 ∧ ((65 ≤ r ∧ r ≤ 90) ∨ (192 ≤ r ∧ r ≤ 222 ∧ r ≠ 215) ∨ (913 ≤ r ∧ r ≤ 937 ∧ r ≠ 930) ∨ (1040 ≤ r ∧ r ≤ 1071)))
    ∨ (s = 80 ∧ 1024 ≤ r ∧ r ≤ 1039)
    ∨ (s = 0 ∧ ¬ (65 ≤ r ∧ r ≤ 90) ∧ ¬ (192 ≤ r ∧ r ≤ 222 ∧ r ≠ 215) ∧ ¬ (913 ≤ r ∧ r ≤ 937 ∧ r ≠ 930) ∧ ¬ (1024 ≤ r ∧ r ≤ 1071)
        ∧ ¬ (((r ≠ 304 ∧ 256 ≤ r ∧ r ≤ 310) ∨ (330 ≤ r ∧ r ≤ 374)) ∧ r % 2 = 0) ∧ ¬ (((313 ≤ r ∧ r ≤ 327) ∨ (377 ≤ r ∧ r ≤ 381)) ∧ r % 2 = 1))
def qqb (r : Int) : Int :=
  if (((r ≠ 304 ∧ 256 ≤ r ∧ r ≤ 310) ∨ (330 ≤ r ∧ r ≤ 374)) ∧ r % 2 = 0) ∨ (((313 ≤ r ∧ r ≤ 327) ∨ (377 ≤ r ∧ r ≤ 381)) ∧ r % 2 = 1) then 1
  else if (65 ≤ r ∧ r ≤ 90) ∨ (192 ≤ r ∧ r ≤ 222 ∧ r ≠ 215) ∨ (913 ≤ r ∧ r ≤ 937 ∧ r ≠ 930) ∨ (1040 ≤ r ∧ r ≤ 1071) then 32
  else if 1024 ≤ r ∧ r ≤ 1039 then 80 else 0
theorem qwj : ∀ k : Nat, k < 1200 → qge (k : Int) = qqb (k : Int) := by decide +kernel
theorem qqc (r : Int) : SmallAt r (qqb r) := by
  unfold qqb SmallAt
  split
  · omega
  · split
    · omega
    · split <;> omega
theorem qqd (r : Int) : SmallAt r (qge r) := by
  by_cases h : 0 ≤ r ∧ r < 1200
  · have := qwj r.toNat (by omega)
    rw [Int.toNat_of_nonneg h.1] at this
    rw [this]
    exact qqc r
  · rw [qwh r (by omega)]
    unfold SmallAt
    omega
set_option linter.unusedSimpArgs false
set_option linter.unusedVariables false
theorem kr {k : IntKind} {a b : Int} (h : a = b) : Ending.returned (.int k a) = .returned (.int k b) := by rw [h]
theorem zr {a b : Bool} (h : a = b) : Ending.returned (.bool a) = .returned (.bool b) := by rw [h]
set_option maxHeartbeats 400000 in
theorem qje (r : Int) (w : World) :
    Calls Tryz.prog 133 #[.int .i32 r] w fun e w' => e = .returned (.bool (qfc r)) ∧ w' = w := by
  go_enter Tryz.func133, Tryz.ntmps133
  go_wp2
  all_goals go_ret
  all_goals refine ⟨zr ?_, rfl⟩
  all_goals (unfold qfc; rw [Bool.eq_iff_iff]; simp at *; omega)
set_option maxHeartbeats 400000 in
theorem yw (r : Int) (w : World) :
    Calls Tryz.prog 134 #[.int .i32 r] w fun e w' => e = .returned (.bool (qpi r)) ∧ w' = w := by
  go_enter Tryz.func134, Tryz.ntmps134
  go_wp2
  all_goals go_ret
  all_goals refine ⟨zr ?_, rfl⟩
  all_goals (unfold qpi; rw [Bool.eq_iff_iff]; simp at *; try omega)
set_option maxHeartbeats 400000 in
theorem zbi (r : Int) (w : World) :
    Calls Tryz.prog 120 #[.int .i32 r] w fun e w' => e = .returned (.bool (xj r)) ∧ w' = w := by
  go_enter Tryz.func120, Tryz.ntmps120
  go_wp2
  all_goals go_ret
  all_goals refine ⟨zr ?_, rfl⟩
  all_goals (unfold xj; rw [Bool.eq_iff_iff]; simp at *; try omega)
set_option maxHeartbeats 400000 in
theorem blank_any (r : Int) (w : World) :
    Calls Tryz.prog 54 #[.int .i32 r] w fun e w' => e = .returned (.bool (blankB r)) ∧ w' = w := by
  go_enter Tryz.func54, Tryz.ntmps54
  go_wp2
  all_goals go_ret
  all_goals refine ⟨zr ?_, rfl⟩
  all_goals (unfold blankB; rw [Bool.eq_iff_iff]; simp at *; try omega)
set_option maxHeartbeats 1000000 in
theorem zah (r : Int) (w : World) :
    Calls Tryz.prog 118 #[.int .i32 r] w fun e w' => e = .returned (.int .i32 (kb r)) ∧ w' = w := by
  have HC : Hid _ := uw r
  have h0 : qfc r = true → 0 ≤ r := by rw [qbg]; omega
  have h1 : qpi r = true → 0 ≤ r := by rw [qgf]; omega
  by_cases he : qfc r = true
  · have hr := h0 he
    clear h0 h1
    go_enter Tryz.func118, Tryz.ntmps118
    go_wp2_with (first | (go_at_call 133; refine (qje _ _).mono ?_; rintro e w' ⟨rfl, rfl⟩) | (go_at_call 134; refine (yw _ _).mono ?_; rintro e w' ⟨rfl, rfl⟩))
    all_goals go_ret
    all_goals refine ⟨kr ?_, rfl⟩
    all_goals (have hc := HC.out; go_light; simp only [qbg, qgf, qqa, qwi, Bool.not_eq_true, beq_iff_eq, bne_iff_ne, beq_eq_false_iff_ne, bne_eq_false_iff_eq, ne_eq] at *; omega)
  · by_cases ho : qpi r = true
    · have hr := h1 ho
      clear h0 h1
      go_enter Tryz.func118, Tryz.ntmps118
      go_wp2_with (first | (go_at_call 133; refine (qje _ _).mono ?_; rintro e w' ⟨rfl, rfl⟩) | (go_at_call 134; refine (yw _ _).mono ?_; rintro e w' ⟨rfl, rfl⟩))
      all_goals go_ret
      all_goals refine ⟨kr ?_, rfl⟩
      all_goals (have hc := HC.out; go_light; simp only [qbg, qgf, qqa, qwi, Bool.not_eq_true, beq_iff_eq, bne_iff_ne, beq_eq_false_iff_ne, bne_eq_false_iff_eq, ne_eq] at *; omega)
    · clear h0 h1
      go_enter Tryz.func118, Tryz.ntmps118
      go_wp2_with (first | (go_at_call 133; refine (qje _ _).mono ?_; rintro e w' ⟨rfl, rfl⟩) | (go_at_call 134; refine (yw _ _).mono ?_; rintro e w' ⟨rfl, rfl⟩))
      all_goals go_ret
      all_goals refine ⟨kr ?_, rfl⟩
      all_goals (have hc := HC.out; go_light; simp only [qbg, qgf, qqa, qwi, Bool.not_eq_true, beq_iff_eq, bne_iff_ne, beq_eq_false_iff_ne, bne_eq_false_iff_eq, ne_eq] at *; omega)
set_option maxHeartbeats 1000000 in
theorem qxa (r : Int) (w : World) :
    Calls Tryz.prog 119 #[.int .i32 r] w fun e w' => e = .returned (.int .i32 (ko r)) ∧ w' = w := by
  go_enter Tryz.func119, Tryz.ntmps119
  go_wp2_with (go_at_call 118; refine (zah _ _).mono ?_; rintro e w' ⟨rfl, rfl⟩)
  all_goals go_ret
  all_goals refine ⟨kr ?_, rfl⟩
  all_goals (unfold ko; simp at *; simp [*])
set_option maxHeartbeats 1000000 in
theorem qxb (r : Int) (w : World) :
    Calls Tryz.prog 102 #[.int .i32 r] w fun e w' => e = .returned (.bool (js r)) ∧ w' = w := by
  go_enter Tryz.func102, Tryz.ntmps102
  go_wp2_with (first | (go_at_call 118; refine (zah _ _).mono ?_; rintro e w' ⟨rfl, rfl⟩) | (go_at_call 119; refine (qxa _ _).mono ?_; rintro e w' ⟨rfl, rfl⟩) | (go_at_call 120; refine (zbi _ _).mono ?_; rintro e w' ⟨rfl, rfl⟩))
  all_goals go_ret
  all_goals refine ⟨zr ?_, rfl⟩
  all_goals (unfold js; simp at *; first | omega | simp [*])
theorem yn (r : Int) : (kb r = 0 ∧ uu r = 0) ∨ (kb r ≠ 0 ∧ uu r = r - kb r) := by
  unfold uu
  split <;> omega
set_option maxHeartbeats 2000000 in
theorem xz (r : Int) (w : World) :
    Calls Tryz.prog 92 #[.int .i32 r] w fun e w' => e = .returned (.int .i32 (uu r)) ∧ w' = w := by
  by_cases hr : 97 ≤ r
  · have HC : Hid _ := uw r
    have HD : Hid _ := yn r
    go_enter Tryz.func92, Tryz.ntmps92
    go_wp2
    all_goals go_ret
    all_goals refine ⟨kr ?_, rfl⟩
    all_goals (have hc := HC.out; have hd := HD.out; go_light; simp only [Bool.not_eq_true, beq_iff_eq, bne_iff_ne, beq_eq_false_iff_ne, bne_eq_false_iff_eq, ne_eq] at *; first | omega | (subst_vars; rfl))
  · have h1 : r < 97 := by omega
    have HD : Hid (uu r = 0) := by
      have a := kd r (Or.inl h1)
      have b := yn r
      exact b.elim (fun x => x.2) (fun x => absurd a x.1)
    clear hr
    go_enter Tryz.func92, Tryz.ntmps92
    go_wp2
    all_goals go_ret
    all_goals exact ⟨kr HD.out.symm, rfl⟩
/-- Is the character so far above one whose capital r is? -/
def qgg (r b : Int) : Bool := (uu (wrap32 (r + b)) != 0) && (uu (wrap32 (r + b)) == r)
theorem qig (r b : Int) (h0 : -2147483648 ≤ r) (h1 : r ≤ 2147483647) (hb : b = 1 ∨ b = 32 ∨ b = 80) : qgg r b = true ↔ kb (wrap32 (r + b)) = b := by
  unfold qgg
  simp only [Bool.and_eq_true, bne_iff_ne, beq_iff_eq, ne_eq]
  by_cases h : r + b ≤ 2147483647
  · rw [uh (r + b) (by omega) h]
    have hc := yn (r + b)
    have ho : r + b < 97 → kb (r + b) = 0 := fun h => kd _ (Or.inl h)
    have ho2 : kb (r + b) = 80 → 1104 ≤ r + b := by
      have := uw (r + b)
      omega
    constructor
    · intro hh; omega
    · intro hh; omega
  · have hx : kb (wrap32 (r + b)) = 0 := kd _ (by unfold wrap32; omega)
    have hc := yn (wrap32 (r + b))
    constructor
    · intro hh; omega
    · intro hh; omega
theorem qtb (r : Int) (h0 : -2147483648 ≤ r) (h1 : r ≤ 2147483647) :
    qah r = if qgg r 1 = true then r + 1 else if qgg r 32 = true then r + 32 else if qgg r 80 = true then r + 80 else 0 := by
  unfold qah ko
  simp only [qig r 1 h0 h1 (by simp), qig r 32 h0 h1 (by simp), qig r 80 h0 h1 (by simp)]
  split
  · simp
  · split
    · simp
    · split <;> simp
theorem qqe (r b : Int) (h0 : -2147483648 ≤ r) (h1 : r ≤ 2147483647) (hb : b = 1 ∨ b = 32 ∨ b = 80) (h : qgg r b = true) : r + b ≤ 1119 := by
  rw [qig r b h0 h1 hb] at h
  by_cases h2 : r + b ≤ 1119
  · exact h2
  · exfalso
    have : kb (wrap32 (r + b)) = 0 := kd _ (by unfold wrap32; omega)
    omega
theorem qgh (r b : Int) : (qgg r b = true ∧ (uu (wrap32 (r + b)) != 0) = true ∧ (uu (wrap32 (r + b)) == r) = true) ∨ (qgg r b = false ∧ (uu (wrap32 (r + b)) != 0) = false) ∨ (qgg r b = false ∧ (uu (wrap32 (r + b)) != 0) = true ∧ (uu (wrap32 (r + b)) == r) = false) := by
  unfold qgg
  cases (uu (wrap32 (r + b)) != 0) <;> cases (uu (wrap32 (r + b)) == r) <;> simp
set_option maxHeartbeats 2000000 in
theorem qxc (r : Int) (h0 : -2147483648 ≤ r) (h1 : r ≤ 2147483647) (w : World) :
    Calls Tryz.prog 93 #[.int .i32 r] w fun e w' => e = .returned (.int .i32 (qah r)) ∧ Below w.heap.size w w' := by
  have HS : Hid _ := qtb r h0 h1
  have HL : Hid _ := qqe r 1 h0 h1 (by simp)
  have HL2 : Hid _ := qqe r 32 h0 h1 (by simp)
  have HL3 : Hid _ := qqe r 80 h0 h1 (by simp)
  have h0 : Hid _ := h0
  have h1 : Hid _ := h1
  go_enter Tryz.func93, Tryz.ntmps93
  go_wp2
  go_loop [8] (fun i => ∃ k : Nat, k ≤ 3 ∧ i = .int .i64 k ∧ (1 ≤ k → qgg r 1 = false) ∧ (2 ≤ k → qgg r 32 = false) ∧ (3 ≤ k → qgg r 80 = false)) (fun i => 3 - (intOf i).toNat)
  case atStart => exact ⟨0, by omega, rfl, by simp, by simp, by simp⟩
  case round =>
    obtain ⟨k, hk, rfl, g1, g2, g3⟩ := hrel
    obtain rfl | rfl | rfl | rfl : k = 0 ∨ k = 1 ∨ k = 2 ∨ k = 3 := by omega
    · clear g1 g2 g3
      rcases qgh r 1 with ⟨H, a, b⟩ | ⟨H, a⟩ | ⟨H, a, b⟩
      all_goals (have HH : Hid _ := H; clear H)
      · go_wp2_with (go_at_call 92; refine (xz _ _).mono ?_; rintro e w' ⟨rfl, rfl⟩)
        go_ret
        refine ⟨kr ?_, (Below.refl _ _).alloc (Nat.le_refl _) _⟩
        have hb := HL.out HH.out
        rw [HS.out, if_pos HH.out, uh _ (by have := h0.out; omega) (by omega)]
      · go_wp2_with (go_at_call 92; refine (xz _ _).mono ?_; rintro e w' ⟨rfl, rfl⟩)
        go_round
        case rel => exact ⟨1, by omega, by go_num, by simp [HH.out], by simp, by simp⟩
        case measure => simp [intOf]
      · go_wp2_with (go_at_call 92; refine (xz _ _).mono ?_; rintro e w' ⟨rfl, rfl⟩)
        go_round
        case rel => exact ⟨1, by omega, by go_num, by simp [HH.out], by simp, by simp⟩
        case measure => simp [intOf]
    · have G1 : Hid _ := g1 (by omega)
      clear g1 g2 g3
      rcases qgh r 32 with ⟨H, a, b⟩ | ⟨H, a⟩ | ⟨H, a, b⟩
      all_goals (have HH : Hid _ := H; clear H)
      · go_wp2_with (go_at_call 92; refine (xz _ _).mono ?_; rintro e w' ⟨rfl, rfl⟩)
        go_ret
        refine ⟨kr ?_, (Below.refl _ _).alloc (Nat.le_refl _) _⟩
        have hb := HL2.out HH.out
        rw [HS.out, if_neg (by simp [G1.out]), if_pos HH.out, uh _ (by have := h0.out; omega) (by omega)]
      · go_wp2_with (go_at_call 92; refine (xz _ _).mono ?_; rintro e w' ⟨rfl, rfl⟩)
        go_round
        case rel => exact ⟨2, by omega, by go_num, fun _ => G1.out, by simp [HH.out], by simp⟩
        case measure => simp [intOf]
      · go_wp2_with (go_at_call 92; refine (xz _ _).mono ?_; rintro e w' ⟨rfl, rfl⟩)
        go_round
        case rel => exact ⟨2, by omega, by go_num, fun _ => G1.out, by simp [HH.out], by simp⟩
        case measure => simp [intOf]
    · have G1 : Hid _ := g1 (by omega)
      have G2 : Hid _ := g2 (by omega)
      clear g1 g2 g3
      rcases qgh r 80 with ⟨H, a, b⟩ | ⟨H, a⟩ | ⟨H, a, b⟩
      all_goals (have HH : Hid _ := H; clear H)
      · go_wp2_with (go_at_call 92; refine (xz _ _).mono ?_; rintro e w' ⟨rfl, rfl⟩)
        go_ret
        refine ⟨kr ?_, (Below.refl _ _).alloc (Nat.le_refl _) _⟩
        have hb := HL3.out HH.out
        rw [HS.out, if_neg (by simp [G1.out]), if_neg (by simp [G2.out]), if_pos HH.out, uh _ (by have := h0.out; omega) (by omega)]
      · go_wp2_with (go_at_call 92; refine (xz _ _).mono ?_; rintro e w' ⟨rfl, rfl⟩)
        go_round
        case rel => exact ⟨3, by omega, by go_num, fun _ => G1.out, fun _ => G2.out, by simp [HH.out]⟩
        case measure => simp [intOf]
      · go_wp2_with (go_at_call 92; refine (xz _ _).mono ?_; rintro e w' ⟨rfl, rfl⟩)
        go_round
        case rel => exact ⟨3, by omega, by go_num, fun _ => G1.out, fun _ => G2.out, by simp [HH.out]⟩
        case measure => simp [intOf]
    · have G1 : Hid _ := g1 (by omega)
      have G2 : Hid _ := g2 (by omega)
      have G3 : Hid _ := g3 (by omega)
      clear g1 g2 g3
      go_wp2
      go_ret
      refine ⟨kr ?_, (Below.refl _ _).alloc (Nat.le_refl _) _⟩
      rw [HS.out, if_neg (by simp [G1.out]), if_neg (by simp [G2.out]), if_neg (by simp [G3.out])]
theorem qqf (r : Int) : (ko r = 0 ∧ qah r = 0) ∨ (ko r ≠ 0 ∧ qah r = r + ko r) := by
  unfold qah
  split <;> omega
theorem qtc (r : Int) (h0 : -2147483648 ≤ r) (h1 : r ≤ 2147483647) : qah r = 0 ↔ ko r = 0 := by
  have a := qqf r
  have b := qqd r
  rw [zbh r h0 h1] at *
  unfold SmallAt at b
  omega
set_option maxHeartbeats 1000000 in
theorem rblank_any (r : Int) (w : World) :
    Calls Tryz.prog 42 #[.int .i32 r] w fun e w' => e = .returned (.bool (blankB r)) ∧ w' = w := by
  go_enter Tryz.func42, Tryz.ntmps42
  go_wp2
  all_goals go_ret
  all_goals refine ⟨zr ?_, rfl⟩
  all_goals (go_light; unfold blankB; rw [Bool.eq_iff_iff]; simp only [Bool.or_eq_true, Bool.and_eq_true, decide_eq_true_eq, beq_iff_eq, beq_eq_false_iff_ne, ne_eq, Bool.false_eq_true, true_iff, false_iff] at *; omega)
theorem xr (r : Int) : xj r = true ↔ (r = 170 ∨ r = 181 ∨ r = 186 ∨ r = 223 ∨ r = 255 ∨ r = 304 ∨ r = 305 ∨ r = 312 ∨ r = 329 ∨ r = 376 ∨ r = 383 ∨ r = 962) := by unfold xj; simp
theorem zfc (r : Int) (h : r ≠ 170 ∧ r ≠ 181 ∧ r ≠ 186 ∧ r ≠ 223 ∧ r ≠ 255 ∧ r ≠ 304 ∧ r ≠ 305 ∧ r ≠ 312 ∧ r ≠ 329 ∧ r ≠ 376 ∧ r ≠ 383 ∧ r ≠ 962) : xj r = false := by unfold xj; simp; omega
set_option maxHeartbeats 4000000 in
theorem qtd (r : Int) (h0 : -2147483648 ≤ r) (h1 : r ≤ 2147483647) (w : World) :
    Calls Tryz.prog 70 #[.int .i32 r] w fun e w' => e = .returned (.bool (js r)) ∧ Below w.heap.size w w' := by
  have HC : Hid _ := yn r
  have HB : Hid _ := uw r
  have HY : Hid _ := qtc r h0 h1
  have H0 : Hid _ := h0
  have H1 : Hid _ := h1
  clear h0 h1
  go_enter Tryz.func70, Tryz.ntmps70
  go_wp2
  go_loop [7] (fun i => ∃ k : Nat, k ≤ 12 ∧ i = .int .i64 k ∧ Hid ((1 ≤ k → r ≠ 170) ∧ (2 ≤ k → r ≠ 181) ∧ (3 ≤ k → r ≠ 186) ∧ (4 ≤ k → r ≠ 223) ∧ (5 ≤ k → r ≠ 255) ∧ (6 ≤ k → r ≠ 304) ∧ (7 ≤ k → r ≠ 305) ∧ (8 ≤ k → r ≠ 312) ∧ (9 ≤ k → r ≠ 329) ∧ (10 ≤ k → r ≠ 376) ∧ (11 ≤ k → r ≠ 383) ∧ (12 ≤ k → r ≠ 962))) (fun i => 12 - (intOf i).toNat)
  case atStart => exact ⟨0, by omega, rfl, by show (1 ≤ 0 → r ≠ 170) ∧ (2 ≤ 0 → r ≠ 181) ∧ (3 ≤ 0 → r ≠ 186) ∧ (4 ≤ 0 → r ≠ 223) ∧ (5 ≤ 0 → r ≠ 255) ∧ (6 ≤ 0 → r ≠ 304) ∧ (7 ≤ 0 → r ≠ 305) ∧ (8 ≤ 0 → r ≠ 312) ∧ (9 ≤ 0 → r ≠ 329) ∧ (10 ≤ 0 → r ≠ 376) ∧ (11 ≤ 0 → r ≠ 383) ∧ (12 ≤ 0 → r ≠ 962); simp⟩
  case round =>
    obtain ⟨k, hk, rfl, G⟩ := hrel
    obtain rfl | rfl | rfl | rfl | rfl | rfl | rfl | rfl | rfl | rfl | rfl | rfl | rfl : k = 0 ∨ k = 1 ∨ k = 2 ∨ k = 3 ∨ k = 4 ∨ k = 5 ∨ k = 6 ∨ k = 7 ∨ k = 8 ∨ k = 9 ∨ k = 10 ∨ k = 11 ∨ k = 12 := by omega
    · by_cases e1 : r = 170
      · have E : Hid (r = 170) := e1
        have q : (r == 170) = true := by simp [e1]
        clear e1
        go_wp2
        all_goals go_ret
        all_goals refine ⟨zr ?_, (Below.refl _ _).alloc (Nat.le_refl _) _⟩
        all_goals (have e2 : xj r = true := (xr r).2 (by have := E.out; omega); unfold js; rw [e2]; simp)
      · have E : Hid (¬ r = 170) := e1
        have q : (r == 170) = false := by simp [e1]
        clear e1
        go_wp2
        go_round
        case rel =>
          refine ⟨1, by omega, by go_num, ?_⟩
          have g := G.out
          have e := E.out
          show (1 ≤ 1 → r ≠ 170) ∧ (2 ≤ 1 → r ≠ 181) ∧ (3 ≤ 1 → r ≠ 186) ∧ (4 ≤ 1 → r ≠ 223) ∧ (5 ≤ 1 → r ≠ 255) ∧ (6 ≤ 1 → r ≠ 304) ∧ (7 ≤ 1 → r ≠ 305) ∧ (8 ≤ 1 → r ≠ 312) ∧ (9 ≤ 1 → r ≠ 329) ∧ (10 ≤ 1 → r ≠ 376) ∧ (11 ≤ 1 → r ≠ 383) ∧ (12 ≤ 1 → r ≠ 962)
          omega
        case measure => simp [intOf]
    · by_cases e1 : r = 181
      · have E : Hid (r = 181) := e1
        have q : (r == 181) = true := by simp [e1]
        clear e1
        go_wp2
        all_goals go_ret
        all_goals refine ⟨zr ?_, (Below.refl _ _).alloc (Nat.le_refl _) _⟩
        all_goals (have e2 : xj r = true := (xr r).2 (by have := E.out; omega); unfold js; rw [e2]; simp)
      · have E : Hid (¬ r = 181) := e1
        have q : (r == 181) = false := by simp [e1]
        clear e1
        go_wp2
        go_round
        case rel =>
          refine ⟨2, by omega, by go_num, ?_⟩
          have g := G.out
          have e := E.out
          show (1 ≤ 2 → r ≠ 170) ∧ (2 ≤ 2 → r ≠ 181) ∧ (3 ≤ 2 → r ≠ 186) ∧ (4 ≤ 2 → r ≠ 223) ∧ (5 ≤ 2 → r ≠ 255) ∧ (6 ≤ 2 → r ≠ 304) ∧ (7 ≤ 2 → r ≠ 305) ∧ (8 ≤ 2 → r ≠ 312) ∧ (9 ≤ 2 → r ≠ 329) ∧ (10 ≤ 2 → r ≠ 376) ∧ (11 ≤ 2 → r ≠ 383) ∧ (12 ≤ 2 → r ≠ 962)
          omega
        case measure => simp [intOf]
    · by_cases e1 : r = 186
      · have E : Hid (r = 186) := e1
        have q : (r == 186) = true := by simp [e1]
        clear e1
        go_wp2
        all_goals go_ret
        all_goals refine ⟨zr ?_, (Below.refl _ _).alloc (Nat.le_refl _) _⟩
        all_goals (have e2 : xj r = true := (xr r).2 (by have := E.out; omega); unfold js; rw [e2]; simp)
      · have E : Hid (¬ r = 186) := e1
        have q : (r == 186) = false := by simp [e1]
        clear e1
        go_wp2
        go_round
        case rel =>
          refine ⟨3, by omega, by go_num, ?_⟩
          have g := G.out
          have e := E.out
          show (1 ≤ 3 → r ≠ 170) ∧ (2 ≤ 3 → r ≠ 181) ∧ (3 ≤ 3 → r ≠ 186) ∧ (4 ≤ 3 → r ≠ 223) ∧ (5 ≤ 3 → r ≠ 255) ∧ (6 ≤ 3 → r ≠ 304) ∧ (7 ≤ 3 → r ≠ 305) ∧ (8 ≤ 3 → r ≠ 312) ∧ (9 ≤ 3 → r ≠ 329) ∧ (10 ≤ 3 → r ≠ 376) ∧ (11 ≤ 3 → r ≠ 383) ∧ (12 ≤ 3 → r ≠ 962)
          omega
        case measure => simp [intOf]
    · by_cases e1 : r = 223
      · have E : Hid (r = 223) := e1
        have q : (r == 223) = true := by simp [e1]
        clear e1
        go_wp2
        all_goals go_ret
        all_goals refine ⟨zr ?_, (Below.refl _ _).alloc (Nat.le_refl _) _⟩
        all_goals (have e2 : xj r = true := (xr r).2 (by have := E.out; omega); unfold js; rw [e2]; simp)
      · have E : Hid (¬ r = 223) := e1
        have q : (r == 223) = false := by simp [e1]
        clear e1
        go_wp2
        go_round
        case rel =>
          refine ⟨4, by omega, by go_num, ?_⟩
          have g := G.out
          have e := E.out
          show (1 ≤ 4 → r ≠ 170) ∧ (2 ≤ 4 → r ≠ 181) ∧ (3 ≤ 4 → r ≠ 186) ∧ (4 ≤ 4 → r ≠ 223) ∧ (5 ≤ 4 → r ≠ 255) ∧ (6 ≤ 4 → r ≠ 304) ∧ (7 ≤ 4 → r ≠ 305) ∧ (8 ≤ 4 → r ≠ 312) ∧ (9 ≤ 4 → r ≠ 329) ∧ (10 ≤ 4 → r ≠ 376) ∧ (11 ≤ 4 → r ≠ 383) ∧ (12 ≤ 4 → r ≠ 962)
          omega
        case measure => simp [intOf]
    · by_cases e1 : r = 255
      · have E : Hid (r = 255) := e1
        have q : (r == 255) = true := by simp [e1]
        clear e1
        go_wp2
        all_goals go_ret
        all_goals refine ⟨zr ?_, (Below.refl _ _).alloc (Nat.le_refl _) _⟩
        all_goals (have e2 : xj r = true := (xr r).2 (by have := E.out; omega); unfold js; rw [e2]; simp)
      · have E : Hid (¬ r = 255) := e1
        have q : (r == 255) = false := by simp [e1]
        clear e1
        go_wp2
        go_round
        case rel =>
          refine ⟨5, by omega, by go_num, ?_⟩
          have g := G.out
          have e := E.out
          show (1 ≤ 5 → r ≠ 170) ∧ (2 ≤ 5 → r ≠ 181) ∧ (3 ≤ 5 → r ≠ 186) ∧ (4 ≤ 5 → r ≠ 223) ∧ (5 ≤ 5 → r ≠ 255) ∧ (6 ≤ 5 → r ≠ 304) ∧ (7 ≤ 5 → r ≠ 305) ∧ (8 ≤ 5 → r ≠ 312) ∧ (9 ≤ 5 → r ≠ 329) ∧ (10 ≤ 5 → r ≠ 376) ∧ (11 ≤ 5 → r ≠ 383) ∧ (12 ≤ 5 → r ≠ 962)
          omega
        case measure => simp [intOf]
    · by_cases e1 : r = 304
      · have E : Hid (r = 304) := e1
        have q : (r == 304) = true := by simp [e1]
        clear e1
        go_wp2
        all_goals go_ret
        all_goals refine ⟨zr ?_, (Below.refl _ _).alloc (Nat.le_refl _) _⟩
        all_goals (have e2 : xj r = true := (xr r).2 (by have := E.out; omega); unfold js; rw [e2]; simp)
      · have E : Hid (¬ r = 304) := e1
        have q : (r == 304) = false := by simp [e1]
        clear e1
        go_wp2
        go_round
        case rel =>
          refine ⟨6, by omega, by go_num, ?_⟩
          have g := G.out
          have e := E.out
          show (1 ≤ 6 → r ≠ 170) ∧ (2 ≤ 6 → r ≠ 181) ∧ (3 ≤ 6 → r ≠ 186) ∧ (4 ≤ 6 → r ≠ 223) ∧ (5 ≤ 6 → r ≠ 255) ∧ (6 ≤ 6 → r ≠ 304) ∧ (7 ≤ 6 → r ≠ 305) ∧ (8 ≤ 6 → r ≠ 312) ∧ (9 ≤ 6 → r ≠ 329) ∧ (10 ≤ 6 → r ≠ 376) ∧ (11 ≤ 6 → r ≠ 383) ∧ (12 ≤ 6 → r ≠ 962)
          omega
        case measure => simp [intOf]
    · by_cases e1 : r = 305
      · have E : Hid (r = 305) := e1
        have q : (r == 305) = true := by simp [e1]
        clear e1
        go_wp2
        all_goals go_ret
        all_goals refine ⟨zr ?_, (Below.refl _ _).alloc (Nat.le_refl _) _⟩
        all_goals (have e2 : xj r = true := (xr r).2 (by have := E.out; omega); unfold js; rw [e2]; simp)
      · have E : Hid (¬ r = 305) := e1
        have q : (r == 305) = false := by simp [e1]
        clear e1
        go_wp2
        go_round
        case rel =>
          refine ⟨7, by omega, by go_num, ?_⟩
          have g := G.out
          have e := E.out
          show (1 ≤ 7 → r ≠ 170) ∧ (2 ≤ 7 → r ≠ 181) ∧ (3 ≤ 7 → r ≠ 186) ∧ (4 ≤ 7 → r ≠ 223) ∧ (5 ≤ 7 → r ≠ 255) ∧ (6 ≤ 7 → r ≠ 304) ∧ (7 ≤ 7 → r ≠ 305) ∧ (8 ≤ 7 → r ≠ 312) ∧ (9 ≤ 7 → r ≠ 329) ∧ (10 ≤ 7 → r ≠ 376) ∧ (11 ≤ 7 → r ≠ 383) ∧ (12 ≤ 7 → r ≠ 962)
          omega
        case measure => simp [intOf]
    · by_cases e1 : r = 312
      · have E : Hid (r = 312) := e1
        have q : (r == 312) = true := by simp [e1]
        clear e1
        go_wp2
        all_goals go_ret
        all_goals refine ⟨zr ?_, (Below.refl _ _).alloc (Nat.le_refl _) _⟩
        all_goals (have e2 : xj r = true := (xr r).2 (by have := E.out; omega); unfold js; rw [e2]; simp)
      · have E : Hid (¬ r = 312) := e1
        have q : (r == 312) = false := by simp [e1]
        clear e1
        go_wp2
        go_round
        case rel =>
          refine ⟨8, by omega, by go_num, ?_⟩
          have g := G.out
          have e := E.out
          show (1 ≤ 8 → r ≠ 170) ∧ (2 ≤ 8 → r ≠ 181) ∧ (3 ≤ 8 → r ≠ 186) ∧ (4 ≤ 8 → r ≠ 223) ∧ (5 ≤ 8 → r ≠ 255) ∧ (6 ≤ 8 → r ≠ 304) ∧ (7 ≤ 8 → r ≠ 305) ∧ (8 ≤ 8 → r ≠ 312) ∧ (9 ≤ 8 → r ≠ 329) ∧ (10 ≤ 8 → r ≠ 376) ∧ (11 ≤ 8 → r ≠ 383) ∧ (12 ≤ 8 → r ≠ 962)
          omega
        case measure => simp [intOf]
    · by_cases e1 : r = 329
      · have E : Hid (r = 329) := e1
        have q : (r == 329) = true := by simp [e1]
        clear e1
        go_wp2
        all_goals go_ret
        all_goals refine ⟨zr ?_, (Below.refl _ _).alloc (Nat.le_refl _) _⟩
        all_goals (have e2 : xj r = true := (xr r).2 (by have := E.out; omega); unfold js; rw [e2]; simp)
      · have E : Hid (¬ r = 329) := e1
        have q : (r == 329) = false := by simp [e1]
        clear e1
        go_wp2
        go_round
        case rel =>
          refine ⟨9, by omega, by go_num, ?_⟩
          have g := G.out
          have e := E.out
          show (1 ≤ 9 → r ≠ 170) ∧ (2 ≤ 9 → r ≠ 181) ∧ (3 ≤ 9 → r ≠ 186) ∧ (4 ≤ 9 → r ≠ 223) ∧ (5 ≤ 9 → r ≠ 255) ∧ (6 ≤ 9 → r ≠ 304) ∧ (7 ≤ 9 → r ≠ 305) ∧ (8 ≤ 9 → r ≠ 312) ∧ (9 ≤ 9 → r ≠ 329) ∧ (10 ≤ 9 → r ≠ 376) ∧ (11 ≤ 9 → r ≠ 383) ∧ (12 ≤ 9 → r ≠ 962)
          omega
        case measure => simp [intOf]
    · by_cases e1 : r = 376
      · have E : Hid (r = 376) := e1
        have q : (r == 376) = true := by simp [e1]
        clear e1
        go_wp2
        all_goals go_ret
        all_goals refine ⟨zr ?_, (Below.refl _ _).alloc (Nat.le_refl _) _⟩
        all_goals (have e2 : xj r = true := (xr r).2 (by have := E.out; omega); unfold js; rw [e2]; simp)
      · have E : Hid (¬ r = 376) := e1
        have q : (r == 376) = false := by simp [e1]
        clear e1
        go_wp2
        go_round
        case rel =>
          refine ⟨10, by omega, by go_num, ?_⟩
          have g := G.out
          have e := E.out
          show (1 ≤ 10 → r ≠ 170) ∧ (2 ≤ 10 → r ≠ 181) ∧ (3 ≤ 10 → r ≠ 186) ∧ (4 ≤ 10 → r ≠ 223) ∧ (5 ≤ 10 → r ≠ 255) ∧ (6 ≤ 10 → r ≠ 304) ∧ (7 ≤ 10 → r ≠ 305) ∧ (8 ≤ 10 → r ≠ 312) ∧ (9 ≤ 10 → r ≠ 329) ∧ (10 ≤ 10 → r ≠ 376) ∧ (11 ≤ 10 → r ≠ 383) ∧ (12 ≤ 10 → r ≠ 962)
          omega
        case measure => simp [intOf]
    · by_cases e1 : r = 383
      · have E : Hid (r = 383) := e1
        have q : (r == 383) = true := by simp [e1]
        clear e1
        go_wp2
        all_goals go_ret
        all_goals refine ⟨zr ?_, (Below.refl _ _).alloc (Nat.le_refl _) _⟩
        all_goals (have e2 : xj r = true := (xr r).2 (by have := E.out; omega); unfold js; rw [e2]; simp)
      · have E : Hid (¬ r = 383) := e1
        have q : (r == 383) = false := by simp [e1]
        clear e1
        go_wp2
        go_round
        case rel =>
          refine ⟨11, by omega, by go_num, ?_⟩
          have g := G.out
          have e := E.out
          show (1 ≤ 11 → r ≠ 170) ∧ (2 ≤ 11 → r ≠ 181) ∧ (3 ≤ 11 → r ≠ 186) ∧ (4 ≤ 11 → r ≠ 223) ∧ (5 ≤ 11 → r ≠ 255) ∧ (6 ≤ 11 → r ≠ 304) ∧ (7 ≤ 11 → r ≠ 305) ∧ (8 ≤ 11 → r ≠ 312) ∧ (9 ≤ 11 → r ≠ 329) ∧ (10 ≤ 11 → r ≠ 376) ∧ (11 ≤ 11 → r ≠ 383) ∧ (12 ≤ 11 → r ≠ 962)
          omega
        case measure => simp [intOf]
    · by_cases e1 : r = 962
      · have E : Hid (r = 962) := e1
        have q : (r == 962) = true := by simp [e1]
        clear e1
        go_wp2
        all_goals go_ret
        all_goals refine ⟨zr ?_, (Below.refl _ _).alloc (Nat.le_refl _) _⟩
        all_goals (have e2 : xj r = true := (xr r).2 (by have := E.out; omega); unfold js; rw [e2]; simp)
      · have E : Hid (¬ r = 962) := e1
        have q : (r == 962) = false := by simp [e1]
        clear e1
        go_wp2
        go_round
        case rel =>
          refine ⟨12, by omega, by go_num, ?_⟩
          have g := G.out
          have e := E.out
          show (1 ≤ 12 → r ≠ 170) ∧ (2 ≤ 12 → r ≠ 181) ∧ (3 ≤ 12 → r ≠ 186) ∧ (4 ≤ 12 → r ≠ 223) ∧ (5 ≤ 12 → r ≠ 255) ∧ (6 ≤ 12 → r ≠ 304) ∧ (7 ≤ 12 → r ≠ 305) ∧ (8 ≤ 12 → r ≠ 312) ∧ (9 ≤ 12 → r ≠ 329) ∧ (10 ≤ 12 → r ≠ 376) ∧ (11 ≤ 12 → r ≠ 383) ∧ (12 ≤ 12 → r ≠ 962)
          omega
        case measure => simp [intOf]
    · have al : xj r = false := zfc r (by have := G.out; omega)
      have HA : Hid _ := al
      clear al
      by_cases hz : uu r = 0
      · have q : (uu r != 0) = false := by simp [hz]
        have HZ : Hid (uu r = 0) := hz
        clear hz
        go_wp2_with (first | (go_at_call 92; refine (xz _ _).mono ?_; rintro e w' ⟨rfl, rfl⟩) | (go_at_call 93; refine (qxc _ H0.out H1.out _).mono ?_; rintro e w' ⟨rfl, hb⟩))
        go_ret
        refine ⟨zr ?_, ?_⟩
        · have h2 := HC.out
          have h3 := HZ.out
          have h4 := HB.out
          have h5 := HY.out
          have hc : kb r = 0 := by omega
          unfold js
          rw [HA.out, hc]
          by_cases hs : ko r = 0
          · rw [h5.2 hs, hs]; rfl
          · have : ¬ qah r = 0 := fun h => hs (h5.1 h)
            simp [hs, this]
        · exact ((Below.refl _ _).alloc (Nat.le_refl _) _).trans (hb.mono (by simp))
      · have q : (uu r != 0) = true := by simp [hz]
        have HZ : Hid (¬ uu r = 0) := hz
        clear hz
        go_wp2_with (go_at_call 92; refine (xz _ _).mono ?_; rintro e w' ⟨rfl, rfl⟩)
        go_ret
        refine ⟨zr ?_, (Below.refl _ _).alloc (Nat.le_refl _) _⟩
        have h2 := HC.out
        have h3 := HZ.out
        have hc : ¬ kb r = 0 := by omega
        unfold js
        simp [hc]
end Go.Proofs.YtabpjchfkbhfpaaGreatDoor.C
namespace Go.Proofs
open Go.Shelf
def Tryz.lays151_ren : Go.Shelf.Ren := ⟨fun | 151 => 103 | 152 => 121 | 137 => 135 | 119 => 95 | 224 => 136 | 225 => 137 | 217 => 149 | 266 => 164 | n => n, fun | 9 => 9 | 21 => 21 | 4 => 4 | 3 => 3 | 5 => 5 | 0 => 0 | 46 => 109 | n => n, fun | n => n⟩
theorem Tryz.lays151 : Go.Proofs.Lays.n151 Tryz.prog Tryz.lays151_ren := {
  mixed := by kernel_rfl
  f119 := Tryz.func95.trans (congrArg some (by kernel_rfl))
  f137 := Tryz.func135.trans (congrArg some (by kernel_rfl))
  f151 := Tryz.func103.trans (congrArg some (by kernel_rfl))
  f152 := Tryz.func121.trans (congrArg some (by kernel_rfl))
  f217 := Tryz.func149.trans (congrArg some (by kernel_rfl))
  f224 := Tryz.func136.trans (congrArg some (by kernel_rfl))
  f225 := Tryz.func137.trans (congrArg some (by kernel_rfl))
  f266 := Tryz.func164.trans (congrArg some (by kernel_rfl))
  t0 := Tryz.underlying0
  a0 := Tryz.isAgg0
  z0 := Tryz.sizeOf0
  v0 := Tryz.zeroValue0
  t3 := Tryz.underlying3
  a3 := Tryz.isAgg3
  z3 := Tryz.sizeOf3
  v3 := Tryz.zeroValue3
  t4 := Tryz.underlying4
  a4 := Tryz.isAgg4
  z4 := Tryz.sizeOf4
  v4 := Tryz.zeroValue4
  t5 := Tryz.underlying5
  a5 := Tryz.isAgg5
  z5 := Tryz.sizeOf5
  v5 := Tryz.zeroValue5
  t9 := Tryz.underlying9
  a9 := Tryz.isAgg9
  z9 := Tryz.sizeOf9
  v9 := Tryz.zeroValue9
  t21 := Tryz.underlying21
  a21 := Tryz.isAgg21
  z21 := Tryz.sizeOf21
  v21 := Tryz.zeroValue21
  t46 := Tryz.underlying109
  a46 := Tryz.isAgg109
  z46 := Tryz.sizeOf109
  v46 := Tryz.zeroValue109 }
open Go.RowKit Go.Lib in
theorem Tryz.strings_ContainsRune_ascii (s : ByteArray) (r : Int) (w : World) (h0 : 0 ≤ r) (h1 : r < 128) :
    Calls Tryz.prog 103 #[.string s, .int .i32 r] w fun e w' => e = .returned (.bool (decide (0 ≤ Lib.indexByte s.data.toList r.toNat.toUInt8))) ∧ w' = w := Any.strings_ContainsRune_ascii Tryz.lays151 s r w h0 h1
def Tryz.laysAppend_ren : Go.Shelf.Ren := ⟨fun | 242 => 81 | 278 => 100 | n => n, fun | 37 => 27 | 21 => 21 | 51 => 65 | 4 => 4 | 5 => 5 | 46 => 109 | n => n, fun | n => n⟩
theorem Tryz.laysAppend : Go.Proofs.Lays.n242 Tryz.prog Tryz.laysAppend_ren := {
  mixed := by kernel_rfl
  f242 := Tryz.func81.trans (congrArg some (by kernel_rfl))
  f278 := Tryz.func100.trans (congrArg some (by kernel_rfl))
  t4 := Tryz.underlying4
  a4 := Tryz.isAgg4
  z4 := Tryz.sizeOf4
  v4 := Tryz.zeroValue4
  t5 := Tryz.underlying5
  a5 := Tryz.isAgg5
  z5 := Tryz.sizeOf5
  v5 := Tryz.zeroValue5
  t21 := Tryz.underlying21
  a21 := Tryz.isAgg21
  z21 := Tryz.sizeOf21
  v21 := Tryz.zeroValue21
  t37 := Tryz.underlying27
  a37 := Tryz.isAgg27
  z37 := Tryz.sizeOf27
  v37 := Tryz.zeroValue27
  t46 := Tryz.underlying109
  a46 := Tryz.isAgg109
  z46 := Tryz.sizeOf109
  v46 := Tryz.zeroValue109
  t51 := Tryz.underlying65
  a51 := Tryz.isAgg65
  z51 := Tryz.sizeOf65
  v51 := Tryz.zeroValue65 }
end Go.Proofs
namespace Go.Proofs.YtabpjchfkbhfpaaGreatDoor.C
open Go.RowKit
set_option linter.unusedSimpArgs false
set_option linter.unusedVariables false

/-- Is it written by its number? -/
def ctlB (r : Int) : Bool := decide (r < 32 ∨ 127 ≤ r ∧ r ≤ 159)
set_option maxHeartbeats 400000 in
theorem ctl_any (r : Int) (w : World) : Calls Tryz.prog 55 #[.int .i32 r] w fun e w' => e = .returned (.bool (ctlB r)) ∧ w' = w := by
  go_enter Tryz.func55, Tryz.ntmps55
  go_wp2
  all_goals go_ret
  all_goals refine ⟨zr ?_, rfl⟩
  all_goals (unfold ctlB; rw [Bool.eq_iff_iff]; simp at *; try omega)
set_option maxHeartbeats 400000 in
theorem rodd_any (r : Int) (w : World) : Calls Tryz.prog 41 #[.int .i32 r] w fun e w' => e = .returned (.bool (ctlB r)) ∧ w' = w := by
  go_enter Tryz.func41, Tryz.ntmps41
  go_wp2
  all_goals go_ret
  all_goals refine ⟨zr ?_, rfl⟩
  all_goals (unfold ctlB; rw [Bool.eq_iff_iff]; simp at *; try omega)
/-- The name of a character, or nothing. -/
def nameL (r : Int) : ByteArray :=
  if r = 0 then ⟨#[110, 117, 108]⟩ else if r = 7 then ⟨#[97, 108, 97, 114, 109]⟩ else if r = 8 then ⟨#[98, 97, 99, 107, 115, 112, 97, 99, 101]⟩ else if r = 9 then ⟨#[116, 97, 98]⟩ else if r = 10 then ⟨#[110, 101, 119, 108, 105, 110, 101]⟩ else if r = 11 then ⟨#[118, 116, 97, 98]⟩ else if r = 12 then ⟨#[112, 97, 103, 101]⟩ else if r = 13 then ⟨#[114, 101, 116, 117, 114, 110]⟩ else if r = 27 then ⟨#[101, 115, 99]⟩ else if r = 32 then ⟨#[115, 112, 97, 99, 101]⟩ else if r = 127 then ⟨#[100, 101, 108, 101, 116, 101]⟩ else ⟨#[]⟩
theorem zkh {a b : ByteArray} (h : a = b) : Ending.returned (.string a) = .returned (.string b) := by rw [h]
set_option maxHeartbeats 1000000 in
theorem nameOf_any (r : Int) (w : World) : Calls Tryz.prog 53 #[.int .i32 r] w fun e w' => e = .returned (.string (nameL r)) ∧ w' = w := by
  go_enter Tryz.func53, Tryz.ntmps53
  go_wp2
  all_goals go_ret
  all_goals refine ⟨zkh ?_, rfl⟩
  all_goals (unfold nameL; simp at *; simp [*])
end Go.Proofs.YtabpjchfkbhfpaaGreatDoor.C
namespace Go.Proofs
open Go.Shelf
def Tryz.lays119_ren : Go.Shelf.Ren := ⟨fun | 119 => 95 | n => n, fun | 21 => 21 | 4 => 4 | n => n, fun | n => n⟩
theorem Tryz.lays119 : Go.Proofs.Lays.n119 Tryz.prog Tryz.lays119_ren := {
  mixed := by kernel_rfl
  f119 := Tryz.func95.trans (congrArg some (by kernel_rfl))
  t4 := Tryz.underlying4
  a4 := Tryz.isAgg4
  z4 := Tryz.sizeOf4
  v4 := Tryz.zeroValue4
  t21 := Tryz.underlying21
  a21 := Tryz.isAgg21
  z21 := Tryz.sizeOf21
  v21 := Tryz.zeroValue21 }
theorem Tryz.utf8_ValidRune (r : Int) (w : World) :
    Calls Tryz.prog 95 #[.int .i32 r] w fun e w' => e = .returned (.bool (Lib.validRune r)) ∧ w' = w := Any.utf8_ValidRune Tryz.lays119 r w
def Tryz.laysValid_ren : Go.Shelf.Ren := ⟨fun | 196 => 73 | 259 => 96 | n => n, fun | 9 => 9 | 4 => 4 | 3 => 3 | 5 => 5 | 12 => 12 | 119 => 105 | 0 => 0 | 46 => 109 | 139 => 108 | 138 => 107 | 53 => 100 | n => n, fun | 3 => 0 | 4 => 1 | n => n⟩
theorem Tryz.laysValid : Go.Proofs.Lays.n196 Tryz.prog Tryz.laysValid_ren := {
  mixed := by kernel_rfl
  f196 := Tryz.func73.trans (congrArg some (by kernel_rfl))
  f259 := Tryz.func96.trans (congrArg some (by kernel_rfl))
  t0 := Tryz.underlying0
  a0 := Tryz.isAgg0
  z0 := Tryz.sizeOf0
  v0 := Tryz.zeroValue0
  t3 := Tryz.underlying3
  a3 := Tryz.isAgg3
  z3 := Tryz.sizeOf3
  v3 := Tryz.zeroValue3
  t4 := Tryz.underlying4
  a4 := Tryz.isAgg4
  z4 := Tryz.sizeOf4
  v4 := Tryz.zeroValue4
  t5 := Tryz.underlying5
  a5 := Tryz.isAgg5
  z5 := Tryz.sizeOf5
  v5 := Tryz.zeroValue5
  t9 := Tryz.underlying9
  a9 := Tryz.isAgg9
  z9 := Tryz.sizeOf9
  v9 := Tryz.zeroValue9
  t12 := Tryz.underlying12
  a12 := Tryz.isAgg12
  z12 := Tryz.sizeOf12
  v12 := Tryz.zeroValue12
  t46 := Tryz.underlying109
  a46 := Tryz.isAgg109
  z46 := Tryz.sizeOf109
  v46 := Tryz.zeroValue109
  t53 := Tryz.underlying100
  a53 := Tryz.isAgg100
  z53 := Tryz.sizeOf100
  v53 := Tryz.zeroValue100
  t119 := Tryz.underlying105
  a119 := Tryz.isAgg105
  z119 := Tryz.sizeOf105
  t138 := Tryz.underlying107
  a138 := Tryz.isAgg107
  z138 := Tryz.sizeOf107
  v138 := Tryz.zeroValue107
  t139 := Tryz.underlying108
  a139 := Tryz.isAgg108
  z139 := Tryz.sizeOf108
  v139 := Tryz.zeroValue108
  g3 := by kernel_rfl
  g4 := by kernel_rfl }
end Go.Proofs
namespace Go.Proofs.YtabpjchfkbhfpaaGreatDoor.C
open Go.RowKit
set_option linter.unusedSimpArgs false
set_option linter.unusedVariables false

/-- A text of plain letters. -/
def Asc (s : ByteArray) : Prop := ∀ (j : Nat) b, s.data.toList[j]? = some b → b.toNat < 128
set_option maxHeartbeats 4000000 in
set_option maxRecDepth 1000000 in
theorem zbj (s : ByteArray) (hs : Asc s) (w : World) : Calls Tryz.prog 121 #[.string s, .int .i32 65533] w fun e w' => e = .returned (.int .i64 (-1)) ∧ Below w.heap.size w w' := by
  go_enter Tryz.func121, Tryz.ntmps121
  go_wp2
  go_loopw [] (fun wr => ∃ (pos : Nat), wr.heap[w.heap.size]? = some (.stringIter s pos) ∧ Below w.heap.size w wr) (fun wr => s.size - wr.iterPos w.heap.size)
  case atStart =>
    refine ⟨0, ?_, (Below.refl _ w).alloc (Nat.le_refl _) _⟩
    simpa using World.iter_heap w s 0
  case round =>
    obtain ⟨pos, hit, hbw⟩ := hrel
    have hsz : w.heap.size < wr.heap.size := (Array.getElem?_eq_some_iff.1 hit).1
    by_cases hp : pos < s.size
    · have hnx : ∀ ty, (Instr.next (.pointer (some ⟨w.heap.size, 0, none⟩)) true ty).run Tryz.prog wr = _ := fun ty => Lib.run_next_any_at wr w.heap.size s pos ty hit hp
      have ha : (s[pos]'hp).toNat < 128 := hs pos _ (by simp [hp]; rfl)
      have hd := decode_ascii s pos hp ha
      have hit2 := Lib.iterAt_heap wr w.heap.size s pos (pos + 1) hit
      have hbw2 := Lib.below_iterAt hbw (k := w.heap.size) (by omega) s (pos + 1)
      rw [hd] at hnx
      have hq : ((((s[pos]'hp).toNat : Nat) : Int) == 65533) = false := by simp; omega
      go_wp2
      go_roundw
      case rel => exact ⟨pos + 1, hit2, hbw2⟩
      case measure =>
        simp only [World.iterPos, hit2, hit]
        omega
    · have hnx : ∀ ty, (Instr.next (.pointer (some ⟨w.heap.size, 0, none⟩)) true ty).run Tryz.prog wr = _ := fun ty => Lib.run_next_end_at wr w.heap.size s pos ty hit hp
      go_wp2
      go_ret
      exact ⟨rfl, hbw⟩
theorem qnb {c : UInt8} : ∀ l : List UInt8, (∀ b ∈ l, b ≠ c) → Lib.indexByte l c = -1
  | [], _ => rfl
  | b :: l, h => by
    have h1 : b ≠ c := h b (by simp)
    have h2 := qnb l (fun x hx => h x (by simp [hx]))
    simp [Lib.indexByte, h1, h2]
set_option maxHeartbeats 4000000 in
set_option maxRecDepth 1000000 in
theorem zca (s : ByteArray) (hs : Asc s) (h4 : 4 ≤ s.size) (h5 : s.size ≤ 100) (r : Int) (h0 : 128 ≤ r) (h1 : r ≤ 1114111) (hl : Lib.validRune r = true) (hr : r ≠ 65533) (w : World) : Calls Tryz.prog 121 #[.string s, .int .i32 r] w fun e w' => e = .returned (.int .i64 (-1)) ∧ Below w.heap.size w w' := by
  go_enter Tryz.func121, Tryz.ntmps121
  go_wp2_with (go_at_call 95; refine (Tryz.utf8_ValidRune _ _).mono ?_; rintro e w' ⟨rfl, rfl⟩)
  have hv : Utf8.valid r = true := by
    rw [validRune_eq]; unfold validRune; unfold Lib.validRune at hl; apply decide_eq_true; have := of_decide_eq_true hl; omega
  have hE : 2 ≤ (Utf8.encode r).size ∧ (Utf8.encode r).size ≤ 4 ∧ ∀ h : (Utf8.encode r).size - 1 < (Utf8.encode r).size, 128 ≤ ((Utf8.encode r)[(Utf8.encode r).size - 1]'h).toNat := encode_facts r hv h0
  have hcv : ∀ w, (convert 21 9 (.int .i32 r)).run Tryz.prog w = .ok (.string (Utf8.encode r)) w := fun w => run_convert_int_string w _ _ .i32 r (by kernel_rfl) Tryz.underlying9
  refine wp_scope_straight ?_
  go_wp2
  have mixed : Tryz.prog.follows .mixedOrders = true := by kernel_rfl
  obtain ⟨m, hm⟩ : ∃ m : Nat, (Utf8.encode r).size = m + 1 := ⟨(Utf8.encode r).size - 1, by omega⟩
  have hm0 : (((Utf8.encode r).size : Int) - 1) = ((m : Nat) : Int) := by omega
  have hi1 : m < s.size := by omega
  have hi2 : m < (Utf8.encode r).size := by omega
  have hE3 : 128 ≤ ((Utf8.encode r)[m]'hi2).toNat := by
    have := hE.2.2
    simp only [hm, Nat.add_sub_cancel] at this
    exact this (by omega)
  have hsm : (s[m]'hi1).toNat < 128 := hs m _ (by simp [hi1]; rfl)
  have hq : ((s[m]'hi1).toNat != ((Utf8.encode r)[m]'hi2).toNat) = true := by simp; omega
  clear hE hm
  go_loop [9] (fun i => i = .int .i64 ((m : Nat) : Int)) (fun i => 0)
  case atStart => rw [hm0]
  case round =>
    subst hrel
    rw [hm0]
    go_wp2
    refine wp_scope_straight ?_
    go_wp2
    go_region_o
    all_goals go_wp2
    have hib : Lib.indexByte (List.take (s.size - (m + 1)) (List.drop (m + 1) s.data.toList)) ((Utf8.encode r)[m]'hi2) = -1 := qnb _ (fun b hb => by
      obtain ⟨k, hk, hkb⟩ := List.getElem_of_mem (List.mem_of_mem_drop (List.mem_of_mem_take hb))
      have := hs k b (by rw [List.getElem?_eq_getElem hk, hkb])
      intro e
      rw [e] at this
      omega)
    have hsl : ((m : Nat) : Int) + 1 ≤ (s.size : Int) := by omega
    have hsn : m + 1 ≤ s.size := by omega
    have hs0 : (0 : Int) ≤ ((m : Nat) : Int) + 1 := by omega
    have hsr : ∀ w k, (Instr.slice 9 (.string s) (some (.int k (((m : Nat) : Int) + 1))) none none).run Tryz.prog w = .ok (.string (s.extract (m + 1) s.size)) w := fun w k => by
      rw [run_slice_string_from_if w _ s k _ Tryz.underlying9, if_pos ⟨hs0, hsl⟩]; rfl
    have hwr : IntKind.i64.wrap (((m : Nat) : Int) + 1) = ((m : Nat) : Int) + 1 := wrap_small _ (by omega) (by omega)
    clear hsl hsn hs0
    go_region_with_o (go_at_call 135; refine (Tryz.strings_IndexByte _ _ _).mono ?_; rintro e w2 ⟨rfl, rfl⟩)
    all_goals go_wp2
    all_goals (show bodyPost Tryz.prog Tryz.f121 (fun e w1 => e = Ending.returned (Value.int .i64 (-1)) ∧ Below w'.heap.size w' w1) .ret _ _; go_ret; exact ⟨rfl, ((Below.refl _ _).drew).drew⟩)
/-- A character's number. -/
def OkR (r : Int) : Prop := (0 ≤ r ∧ r < 55296) ∨ (57343 < r ∧ r ≤ 1114111)
theorem OkR.valid {r : Int} (h : OkR r) : Lib.validRune r = true := decide_eq_true h
set_option maxHeartbeats 1000000 in
theorem qte (s : ByteArray) (hs : Asc s) (h4 : 4 ≤ s.size) (h5 : s.size ≤ 100) (r : Int) (h : OkR r) (h0 : 128 ≤ r) (w : World) : Calls Tryz.prog 103 #[.string s, .int .i32 r] w fun e w' => e = .returned (.bool false) ∧ Below w.heap.size w w' := by
  have HC : Hid (Calls Tryz.prog 121 #[.string s, .int .i32 r] w fun e w' => e = .returned (.int .i64 (-1)) ∧ Below w.heap.size w w') := by
    by_cases hr : r = 65533
    · subst hr; exact zbj s hs w
    · exact zca s hs h4 h5 r h0 (by unfold OkR at h; omega) h.valid hr w
  go_enter Tryz.func103, Tryz.ntmps103
  go_wp2_with (go_at_call 121; refine HC.out.mono ?_; rintro e w' ⟨rfl, hb⟩)
  go_ret
  exact ⟨rfl, hb⟩
def S4 : ByteArray := ⟨#[43, 45, 46, 64]⟩
def S14 : ByteArray := ⟨#[33, 36, 37, 38, 42, 47, 58, 60, 61, 62, 63, 94, 95, 126]⟩
theorem zrg : Asc S4 := fun j b h => (by decide +kernel : ∀ b ∈ S4.data.toList, b.toNat < 128) b (List.mem_of_getElem? h)
theorem znj : Asc S14 := fun j b h => (by decide +kernel : ∀ b ∈ S14.data.toList, b.toNat < 128) b (List.mem_of_getElem? h)
def in4 (r : Int) : Bool := decide (r = 43 ∨ r = 45 ∨ r = 46 ∨ r = 64)
def qjf (r : Int) : Bool := decide (r = 33 ∨ r = 36 ∨ r = 37 ∨ r = 38 ∨ r = 42 ∨ r = 47 ∨ r = 58 ∨ r = 60 ∨ r = 61 ∨ r = 62 ∨ r = 63 ∨ r = 94 ∨ r = 95 ∨ r = 126)
theorem ix4 : ∀ k : Nat, k < 128 → decide (0 ≤ Lib.indexByte S4.data.toList (k : Int).toNat.toUInt8) = in4 k := by decide +kernel
theorem zrh : ∀ k : Nat, k < 128 → decide (0 ≤ Lib.indexByte S14.data.toList (k : Int).toNat.toUInt8) = qjf k := by decide +kernel
theorem zqe (r : Int) (h : OkR r) (w : World) : Calls Tryz.prog 103 #[.string S4, .int .i32 r] w fun e w' => e = .returned (.bool (in4 r)) ∧ Below w.heap.size w w' := by
  by_cases hr : r < 128
  · have h0 : 0 ≤ r := by unfold OkR at h; omega
    refine (Tryz.strings_ContainsRune_ascii S4 r w h0 hr).mono ?_
    rintro e w' ⟨rfl, rfl⟩
    have := ix4 r.toNat (by omega)
    rw [Int.toNat_of_nonneg h0] at this
    exact ⟨by rw [this], Below.refl _ _⟩
  · refine (qte S4 zrg (by decide) (by decide) r h (by omega) w).mono ?_
    rintro e w' ⟨rfl, hb⟩
    exact ⟨by rw [show in4 r = false from by unfold in4; apply decide_eq_false; omega], hb⟩
theorem zof (r : Int) (h : OkR r) (w : World) : Calls Tryz.prog 103 #[.string S14, .int .i32 r] w fun e w' => e = .returned (.bool (qjf r)) ∧ Below w.heap.size w w' := by
  by_cases hr : r < 128
  · have h0 : 0 ≤ r := by unfold OkR at h; omega
    refine (Tryz.strings_ContainsRune_ascii S14 r w h0 hr).mono ?_
    rintro e w' ⟨rfl, rfl⟩
    have := zrh r.toNat (by omega)
    rw [Int.toNat_of_nonneg h0] at this
    exact ⟨by rw [this], Below.refl _ _⟩
  · refine (qte S14 znj (by decide) (by decide) r h (by omega) w).mono ?_
    rintro e w' ⟨rfl, hb⟩
    exact ⟨by rw [show qjf r = false from by unfold qjf; apply decide_eq_false; omega], hb⟩
/-- May a symbol begin with it? -/
def firstB (r : Int) : Bool := js r || qjf r || (decide (127 < r) && !blankB r)
/-- May it stand in a symbol, but not at its beginning? -/
def restB (r : Int) : Bool := decide (48 ≤ r ∧ r ≤ 57) || in4 r
set_option maxHeartbeats 1000000 in
theorem isRest_any (r : Int) (h : OkR r) (w : World) : Calls Tryz.prog 85 #[.int .i32 r] w fun e w' => e = .returned (.bool (restB r)) ∧ Below w.heap.size w w' := by
  have HC : Hid _ := zqe r h w
  clear h
  go_enter Tryz.func85, Tryz.ntmps85
  go_wp2_with (go_at_call 103; refine Calls.mono HC.out ?_; rintro e w' ⟨rfl, hb⟩)
  all_goals go_ret
  all_goals refine ⟨zr ?_, by first | assumption | exact Below.refl _ _⟩
  all_goals (show (_ : Bool) = restB r; unfold restB; cases in4 r <;> simp at * <;> omega)
set_option maxHeartbeats 1000000 in
theorem isFirst_any (r : Int) (h : OkR r) (w : World) : Calls Tryz.prog 84 #[.int .i32 r] w fun e w' => e = .returned (.bool (firstB r)) ∧ Below w.heap.size w w' := by
  have HC : Hid _ := zof r h w
  clear h
  go_enter Tryz.func84, Tryz.ntmps84
  go_wp2_with (first | (go_at_call 103; refine Calls.mono HC.out ?_; rintro e w' ⟨rfl, hb⟩) | (go_at_call 102; refine (qxb _ _).mono ?_; rintro e w' ⟨rfl, rfl⟩) | (go_at_call 54; refine (blank_any _ _).mono ?_; rintro e w' ⟨rfl, rfl⟩))
  all_goals go_ret
  all_goals refine ⟨zr ?_, by first | assumption | exact Below.refl _ _⟩
  all_goals (show (_ : Bool) = firstB r; unfold firstB; simp [*]; try (intro _; omega))
theorem zki : ∀ b ∈ S14.data.toList, qjf ((b.toNat : Nat) : Int) = true := by decide +kernel
theorem zkj {r : Int} (hn : ∀ b ∈ S14.data.toList, ((b.toNat : Nat) : Int) ≠ r) : qjf r = false := by
  unfold qjf
  apply decide_eq_false
  intro h
  rcases h with h | h | h | h | h | h | h | h | h | h | h | h | h | h
  all_goals (subst h; revert hn; decide +kernel)
theorem zcb {r : Int} (h : qjf r = true) : firstB r = true := by unfold firstB; rw [h]; simp
theorem qxd {r : Int} (h : qjf r = false) : firstB r = ((decide (127 < r) && !blankB r) || js r) := by unfold firstB; rw [h]; cases js r <;> simp
set_option maxHeartbeats 4000000 in
set_option maxRecDepth 1000000 in
theorem rfirst_any (r : Int) (h : OkR r) (w : World) : Calls Tryz.prog 46 #[.int .i32 r] w fun e w' => e = .returned (.bool (firstB r)) ∧ Below w.heap.size w w' := by
  have H0 : Hid (-2147483648 ≤ r ∧ r ≤ 2147483647) := by
    show _ ∧ _
    unfold OkR at h; omega
  clear h
  obtain ⟨F, HF⟩ : ∃ F, Hid (firstB r = F) := ⟨_, rfl⟩
  rw [HF.out]
  go_enter Tryz.func46, Tryz.ntmps46
  go_wp2
  go_loopw [] (fun wr => ∃ (pos : Nat), wr.heap[w.heap.size]? = some (.stringIter S14 pos) ∧ Below w.heap.size w wr ∧ Hid (∀ j, j < pos → ∀ b, S14.data.toList[j]? = some b → ((b.toNat : Nat) : Int) ≠ r)) (fun wr => S14.size - wr.iterPos w.heap.size)
  case atStart =>
    refine ⟨0, ?_, (Below.refl _ w).alloc (Nat.le_refl _) _, fun j hj => absurd hj (Nat.not_lt_zero _)⟩
    exact World.iter_heap w S14 0
  case round =>
    obtain ⟨pos, hit, hbw, HN⟩ := hrel
    have hsz : w.heap.size < wr.heap.size := (Array.getElem?_eq_some_iff.1 hit).1
    by_cases hp : pos < S14.size
    · have hnx : ∀ ty, (Instr.next (.pointer (some ⟨w.heap.size, 0, none⟩)) true ty).run Tryz.prog wr = _ := fun ty => Lib.run_next_any_at wr w.heap.size S14 pos ty hit hp
      have hget : S14.data.toList[pos]? = some (S14[pos]'hp) := by simp [hp]; rfl
      have ha : (S14[pos]'hp).toNat < 128 := znj pos _ hget
      have hd := decode_ascii S14 pos hp ha
      have hit2 := Lib.iterAt_heap wr w.heap.size S14 pos (pos + 1) hit
      have hbw2 := Lib.below_iterAt hbw (k := w.heap.size) (by omega) S14 (pos + 1)
      rw [hd] at hnx
      obtain ⟨c, hc⟩ : ∃ c : UInt8, c = S14[pos]'hp := ⟨_, rfl⟩
      rw [← hc] at hnx hget ha
      clear hd hc
      by_cases hq : r = ((c.toNat : Nat) : Int)
      · have HQ : Hid (r = ((c.toNat : Nat) : Int)) := hq
        have hq2 : (r == ((c.toNat : Nat) : Int)) = true := by simp [hq]
        clear hq
        go_wp2
        all_goals go_ret
        all_goals refine ⟨zr ?_, hbw2⟩
        all_goals (rw [← HF.out, zcb (by rw [HQ.out]; exact zki c (List.mem_of_getElem? hget))])
      · have HQ : Hid (¬ r = ((c.toNat : Nat) : Int)) := hq
        have hq2 : (r == ((c.toNat : Nat) : Int)) = false := by simp [hq]
        clear hq
        go_wp2
        go_roundw
        case rel =>
          refine ⟨pos + 1, hit2, hbw2, fun j hj b hb => ?_⟩
          by_cases hj2 : j < pos
          · exact HN.out j hj2 b hb
          · have : j = pos := by omega
            subst this
            rw [hget] at hb
            injection hb with hb
            subst hb
            exact fun e => HQ.out e.symm
        case measure =>
          simp only [World.iterPos, hit2, hit]
          omega
    · have hnx : ∀ ty, (Instr.next (.pointer (some ⟨w.heap.size, 0, none⟩)) true ty).run Tryz.prog wr = _ := fun ty => Lib.run_next_end_at wr w.heap.size S14 pos ty hit hp
      have HO : Hid (qjf r = false) := zkj (fun b hb => by
        obtain ⟨k, hk, hkb⟩ := List.getElem_of_mem hb
        exact HN.out k (by have : S14.data.toList.length = S14.size := rfl; omega) b (by rw [List.getElem?_eq_getElem hk, hkb]))
      go_wp2_with (first | (go_at_call 42; refine (rblank_any _ _).mono ?_; rintro e w' ⟨rfl, rfl⟩) | (go_at_call 70; refine (qtd _ H0.out.1 H0.out.2 _).mono ?_; rintro e w' ⟨rfl, hb⟩))
      all_goals go_ret
      all_goals refine ⟨zr ?_, by first | exact hbw | exact hbw.trans (hb.mono hbw.size)⟩
      all_goals (rw [← HF.out, qxd HO.out]; show (_ : Bool) = _; simp [*]; try (intros; omega))
set_option maxHeartbeats 1000000 in
theorem rrest_any (r : Int) (h : OkR r) (w : World) : Calls Tryz.prog 45 #[.int .i32 r] w fun e w' => e = .returned (.bool (firstB r || restB r)) ∧ Below w.heap.size w w' := by
  have HC : Hid _ := rfirst_any r h w
  clear h
  obtain ⟨F, HF⟩ : ∃ F, Hid ((firstB r || restB r) = F) := ⟨_, rfl⟩
  rw [HF.out]
  go_enter Tryz.func45, Tryz.ntmps45
  go_wp2_with (go_at_call 46; refine Calls.mono HC.out ?_; rintro e w' ⟨rfl, hb⟩)
  all_goals go_ret
  all_goals refine ⟨zr ?_, by first | assumption | exact Below.refl _ _⟩
  all_goals (rw [← HF.out]; unfold restB in4; rw [Bool.eq_iff_iff]; simp [*]; try omega)
def hx (k : Nat) : UInt8 := (if k < 10 then 48 + k else 87 + k).toUInt8
def hexD (n : Nat) : List UInt8 := if n < 16 then [hx n] else hexD (n / 16) ++ [hx (n % 16)]
termination_by n
decreasing_by omega
def isT : Value → Nat
  | .bool true => 1
  | _ => 0
def qqg (b : Bool) (k : Nat) : List UInt8 := if b = true ∨ k ≠ 0 then hexD k else []
theorem zcc {b : Bool} {k : Nat} (h : b = true ∨ k ≠ 0) : qqg b k = qqg false (k / 16) ++ [hx (k % 16)] := by
  unfold qqg
  rw [if_pos h]
  by_cases h16 : k < 16
  · rw [hexD, if_pos h16, if_neg (by simp; omega), Nat.mod_eq_of_lt h16]; rfl
  · rw [hexD, if_neg h16, if_pos (by simp; omega)]
def S16 : ByteArray := ⟨#[48, 49, 50, 51, 52, 53, 54, 55, 56, 57, 97, 98, 99, 100, 101, 102]⟩
theorem s16 : ∀ j : Fin 16, S16.data[j.val]'(j.isLt) = hx j.val := by decide +kernel
theorem zla (c : UInt8) (t : List UInt8) : (⟨#[c]⟩ : ByteArray) ++ ⟨t.toArray⟩ = ⟨(c :: t).toArray⟩ := by
  apply ByteArray.ext
  simp
theorem zoa (wr : World) (c : Value) (t : TypeId) : (wr.alloc (.cells #[c] t)).cell? ((⟨wr.heap.size, 0, none⟩ : Addr).add 0) = some c := by
  have hh : (wr.alloc (.cells #[c] t)).heap[wr.heap.size]? = some (.cells #[c] t) := by
    show (wr.heap.push (.cells #[c] t))[wr.heap.size]? = _
    simp
  show (wr.alloc (.cells #[c] t)).cell? ⟨wr.heap.size, 0, none⟩ = some c
  rw [Lib.cell_of_heap hh]
  rfl
set_option maxHeartbeats 4000000 in
set_option maxRecDepth 1000000 in
theorem rhex_any (n : Nat) (hn : n ≤ 1114111) (w : World) : Calls Tryz.prog 43 #[.int .i32 ((n : Nat) : Int)] w fun e w' => e = .returned (.string ⟨(hexD n).toArray⟩) ∧ Below w.heap.size w w' := by
  go_enter Tryz.func43, Tryz.ntmps43
  go_wp2
  go_loopw [0, 3, 4] (fun v s f wr => ∃ (k : Nat) (t : List UInt8) (b : Bool), v = .int .i32 ((k : Nat) : Int) ∧ s = .string ⟨t.toArray⟩ ∧ f = .bool b ∧ k ≤ 1114111 ∧ t.length + k + isT f ≤ 1114112 ∧ Below w.heap.size w wr ∧ Hid (hexD n = qqg b k ++ t)) (fun v s f wr => (intOf v).toNat + isT f)
  case atStart => exact ⟨n, [], true, rfl, rfl, rfl, hn, by simp [isT]; omega, Below.refl _ _, by show hexD n = qqg true n ++ []; unfold qqg; simp⟩
  case round =>
    obtain ⟨k, t, b, rfl, rfl, rfl, hk, htl, hbw, HT⟩ := hrel
    have hcv : ∀ c : UInt8, (convert 27 9 (.slice (some ⟨wr.heap.size, 0, none⟩) 1 1)).run Tryz.prog (wr.alloc (.cells #[.int .u8 ((c.toNat : Nat) : Int)] 5)) = .ok (.string ⟨#[c]⟩) (wr.alloc (.cells #[.int .u8 ((c.toNat : Nat) : Int)] 5)) := fun c =>
      run_convert_bytes_back _ _ _ _ ⟨wr.heap.size, 0, none⟩ 1 [c] Tryz.underlying27 Tryz.underlying5 Tryz.underlying9 (fun j hj => by
        obtain rfl : j = 0 := by simpa using hj
        exact zoa _ _ _)
    have hlast : ∀ b, (b = true ∨ k ≠ 0) → Hid (hexD n = qqg b k ++ t) → hexD n = qqg false (k / 16) ++ (hx (k % 16) :: t) := fun b hb h => by
      have h2 : hexD n = qqg b k ++ t := h
      rw [h2, zcc hb, List.append_assoc]; rfl
    have hS : ∀ h, (⟨#[48, 49, 50, 51, 52, 53, 54, 55, 56, 57, 97, 98, 99, 100, 101, 102]⟩ : ByteArray)[k % 16]'h = hx (k % 16) := fun h => s16 ⟨k % 16, Nat.mod_lt _ (by decide)⟩
    have hal : ∀ o, Below w.heap.size w (wr.alloc o) := fun o => hbw.alloc hbw.size _
    rcases b with _ | _
    · by_cases hk0 : k = 0
      · subst hk0
        have HT2 : hexD n = t := HT.out
        have HT3 : Hid (hexD n = t) := HT2
        clear HT HT2
        go_wp2
        go_ret
        exact ⟨by rw [← HT3.out]; rfl, hbw⟩
      · have hk1 : (0 : Int) < (k : Int) := by omega
        have hl2 := hlast false (.inr hk0) HT
        have HL : Hid _ := hl2
        clear hl2 hlast HT
        go_wp2
        refine ⟨⟨k / 16, hx (k % 16) :: t, false, by simp, by rw [zla], rfl, by omega, by simp [isT] at *; omega, hal _, HL.out⟩, by simp [intOf, isT]; omega⟩
    · have hl2 := hlast true (.inl rfl) HT
      have HL : Hid _ := hl2
      clear hl2 hlast HT
      go_wp2
      refine ⟨⟨k / 16, hx (k % 16) :: t, false, by simp, by rw [zla], rfl, by omega, by simp [isT] at *; omega, hal _, HL.out⟩, by simp [intOf, isT]; omega⟩
def dc (k : Nat) : UInt8 := (48 + k).toUInt8
def decD (n : Nat) : List UInt8 := if n < 10 then [dc n] else decD (n / 10) ++ [dc (n % 10)]
termination_by n
decreasing_by omega
def qqh (b : Bool) (k : Nat) : List UInt8 := if b = true ∨ k ≠ 0 then decD k else []
theorem zcd {b : Bool} {k : Nat} (h : b = true ∨ k ≠ 0) : qqh b k = qqh false (k / 10) ++ [dc (k % 10)] := by
  unfold qqh
  rw [if_pos h]
  by_cases h16 : k < 10
  · rw [decD, if_pos h16, if_neg (by simp; omega), Nat.mod_eq_of_lt h16]; rfl
  · rw [decD, if_neg h16, if_pos (by simp; omega)]
theorem zog (k : Nat) : ((dc (k % 10)).toNat : Int) = 48 + ((k : Nat) : Int) % 10 := by
  unfold dc
  have : k % 10 < 10 := Nat.mod_lt _ (by decide)
  have h2 : ((48 + k % 10).toUInt8).toNat = 48 + k % 10 := by simp; omega
  rw [h2]; omega
set_option maxHeartbeats 4000000 in
set_option maxRecDepth 1000000 in
theorem rdec_any (n : Nat) (hn : n ≤ 255) (w : World) : Calls Tryz.prog 19 #[.int .i64 ((n : Nat) : Int)] w fun e w' => e = .returned (.string ⟨(decD n).toArray⟩) ∧ Below w.heap.size w w' := by
  go_enter Tryz.func19, Tryz.ntmps19
  go_wp2
  go_loopw [0, 3, 4] (fun v s f wr => ∃ (k : Nat) (t : List UInt8) (b : Bool), v = .int .i64 ((k : Nat) : Int) ∧ s = .string ⟨t.toArray⟩ ∧ f = .bool b ∧ k ≤ 255 ∧ t.length + k + isT f ≤ 256 ∧ Below w.heap.size w wr ∧ Hid (decD n = qqh b k ++ t)) (fun v s f wr => (intOf v).toNat + isT f)
  case atStart => exact ⟨n, [], true, rfl, rfl, rfl, hn, by simp [isT]; omega, Below.refl _ _, by show decD n = qqh true n ++ []; unfold qqh; simp⟩
  case round =>
    obtain ⟨k, t, b, rfl, rfl, rfl, hk, htl, hbw, HT⟩ := hrel
    have hcv : ∀ c : UInt8, (convert 27 9 (.slice (some ⟨wr.heap.size, 0, none⟩) 1 1)).run Tryz.prog (wr.alloc (.cells #[.int .u8 ((c.toNat : Nat) : Int)] 5)) = .ok (.string ⟨#[c]⟩) (wr.alloc (.cells #[.int .u8 ((c.toNat : Nat) : Int)] 5)) := fun c =>
      run_convert_bytes_back _ _ _ _ ⟨wr.heap.size, 0, none⟩ 1 [c] Tryz.underlying27 Tryz.underlying5 Tryz.underlying9 (fun j hj => by
        obtain rfl : j = 0 := by simpa using hj
        exact zoa _ _ _)
    have hlast : ∀ b, (b = true ∨ k ≠ 0) → Hid (decD n = qqh b k ++ t) → decD n = qqh false (k / 10) ++ (dc (k % 10) :: t) := fun b hb h => by
      have h2 : decD n = qqh b k ++ t := h
      rw [h2, zcd hb, List.append_assoc]; rfl
    have hcv2 : (convert 27 9 (.slice (some ⟨wr.heap.size, 0, none⟩) 1 1)).run Tryz.prog (wr.alloc (.cells #[.int .u8 (48 + ((k : Nat) : Int) % 10)] 5)) = .ok (.string ⟨#[dc (k % 10)]⟩) (wr.alloc (.cells #[.int .u8 (48 + ((k : Nat) : Int) % 10)] 5)) := by
      rw [← zog k]; exact hcv (dc (k % 10))
    clear hcv
    have hal : ∀ o, Below w.heap.size w (wr.alloc o) := fun o => hbw.alloc hbw.size _
    rcases b with _ | _
    · by_cases hk0 : k = 0
      · subst hk0
        have HT2 : decD n = t := HT.out
        have HT3 : Hid (decD n = t) := HT2
        clear HT HT2
        go_wp2
        go_ret
        exact ⟨by rw [← HT3.out]; rfl, hbw⟩
      · have hk1 : (0 : Int) < (k : Int) := by omega
        have hl2 := hlast false (.inr hk0) HT
        have HL : Hid _ := hl2
        clear hl2 hlast HT
        go_wp2
        refine ⟨⟨k / 10, dc (k % 10) :: t, false, by simp, by rw [zla], rfl, by omega, by simp [isT] at *; omega, hal _, HL.out⟩, by simp [intOf, isT]; omega⟩
    · have hl2 := hlast true (.inl rfl) HT
      have HL : Hid _ := hl2
      clear hl2 hlast HT
      go_wp2
      refine ⟨⟨k / 10, dc (k % 10) :: t, false, by simp, by rw [zla], rfl, by omega, by simp [isT] at *; omega, hal _, HL.out⟩, by simp [intOf, isT]; omega⟩
/-- A character as it is written in a string. -/
def strC (r : Int) : List UInt8 :=
  if r = 34 then [92, 34] else if r = 92 then [92, 92] else if r = 7 then [92, 97] else if r = 8 then [92, 98] else if r = 9 then [92, 116] else if r = 10 then [92, 110] else if r = 11 then [92, 118] else if r = 12 then [92, 102] else if r = 13 then [92, 114]
  else if ctlB r = true ∨ r = 8232 ∨ r = 65279 then [92, 120] ++ hexD r.toNat ++ [59] else Lib.encodeRune r
theorem hexD_len : ∀ n : Nat, n ≤ 1114111 → (hexD n).length ≤ 6 := by
  have key : ∀ (f n : Nat), 1 ≤ f → n < 16 ^ f → (hexD n).length ≤ f := by
    intro f
    induction f with
    | zero => intro n h; omega
    | succ f ih =>
      intro n _ hn
      rw [hexD]
      by_cases h16 : n < 16
      · rw [if_pos h16]; simp
      · rw [if_neg h16]
        have hf : 1 ≤ f := by
          rcases f with _ | f
          · simp at hn; omega
          · omega
        have := ih (n / 16) hf (by rw [Nat.div_lt_iff_lt_mul (by decide)]; rw [Nat.pow_succ] at hn; exact hn)
        simp; omega
  intro n hn
  exact key 6 n (by decide) (by have : (16 : Nat) ^ 6 = 16777216 := by decide
                                omega)
theorem strC_len (r : Int) (h0 : 0 ≤ r) (h1 : r ≤ 1114111) : (strC r).length ≤ 9 := by
  unfold strC
  have h6 := hexD_len r.toNat (by omega)
  have h4 := encodeRune_len r
  repeat (split; · simp)
  split
  · simp; omega
  · omega
end Go.Proofs.YtabpjchfkbhfpaaGreatDoor.C
namespace Go.Proofs.YtabpjchfkbhfpaaGreatDoor.G
open Go.RowKit Go.Lib
set_option linter.unusedVariables false
set_option linter.unusedSimpArgs false

/-- A character by its number. -/
def jk (r : Int) : List UInt8 := [92, 120] ++ C.hexD r.toNat
def kv (pl : Bool) (r : Int) : List UInt8 := if pl = true then encodeRune r else [35] ++ (if C.nameL r ≠ ⟨#[]⟩ then [92] ++ (C.nameL r).data.toList else if (C.blankB r || C.ctlB r) = true then jk r else [92] ++ encodeRune r)
def qcd (pl : Bool) (s : ByteArray) : List UInt8 := if pl = true then s.data.toList else [34] ++ (qn s.data.toList).flatMap C.strC ++ [34]
/-- A character of a symbol. -/
def inS (first : Bool) (r : Int) : List UInt8 := if (C.firstB r || (!first && C.restB r)) = true then encodeRune r else jk r ++ [59]
def inL (first : Bool) : List Int → List UInt8
  | [] => []
  | r :: rs => inS first r ++ inL false rs
def kw (pl : Bool) (s : ByteArray) : List UInt8 := if pl = true ∨ s = ⟨#[43]⟩ ∨ s = ⟨#[45]⟩ ∨ s = ⟨#[46, 46, 46]⟩ then s.data.toList else if s = ⟨#[]⟩ then [124, 124] else if hasPrefix s.data.toList [45, 62] = true then [45, 62] ++ inL false (qn (s.data.toList.drop 2)) else inL true (qn s.data.toList)
/-- Numbers with blanks between. -/
def qib (first : Bool) : List UInt8 → List UInt8
  | [] => []
  | b :: bs => (if first = true then [] else [32]) ++ C.decD b.toNat ++ qib false bs
def qra (rl : List UInt8) : List UInt8 := [35, 118, 117, 56, 40] ++ qib true rl ++ [41]
/-- A node that holds no others. -/
def xd (pl : Bool) (k n : Int) (q : Q6) (s : ByteArray) (rl : List UInt8) : List UInt8 :=
  if k = 1 then [40, 41] else if k = 2 then (if n = 1 then [35, 116] else [35, 102]) else if k = 3 then jg 10 q else if k = 4 then kv pl n else if k = 5 then qcd pl s else if k = 6 then kw pl s else if k = 7 then qra rl else if k = 10 then [35, 60, 118, 111, 105, 100, 62] else [35, 60] ++ s.data.toList ++ [62]
/-- The symbol quote. -/
def isQ (t : Tr) : Bool := decide (t.k = 6) && decide (t.s = ⟨#[113, 117, 111, 116, 101]⟩)
mutual
/-- The text of a datum; as the rest of a list; and the texts of data, with blanks between. -/
def wrT (pl : Bool) : Tr → List UInt8
  | .mk k n q s rl ts => if k = 8 then prT pl ts else if k = 9 then [35, 40] ++ wrL pl true ts ++ [41] else xd pl k n q s rl
def prT (pl : Bool) : List Tr → List UInt8
  | [] => []
  | [_] => []
  | a :: b :: _ => if (isQ a && qtT b) = true then [39] ++ itT pl b else [40] ++ wrT pl a ++ tlT pl b ++ [41]
def tlT (pl : Bool) : Tr → List UInt8
  | .mk k n q s rl ts => if k = 8 then tl2 pl ts else if k = 1 then [] else [32, 46, 32] ++ (if k = 9 then [35, 40] ++ wrL pl true ts ++ [41] else xd pl k n q s rl)
def tl2 (pl : Bool) : List Tr → List UInt8
  | [] => []
  | [_] => []
  | a :: b :: _ => [32] ++ wrT pl a ++ tlT pl b
def wrL (pl : Bool) (first : Bool) : List Tr → List UInt8
  | [] => []
  | t :: ts => (if first = true then [] else [32]) ++ wrT pl t ++ wrL pl false ts
/-- The text of the first item. -/
def itT (pl : Bool) : Tr → List UInt8
  | .mk _ _ _ _ _ ts => it2 pl ts
def it2 (pl : Bool) : List Tr → List UInt8
  | [] => []
  | a :: _ => wrT pl a
/-- Is it a list of one item? -/
def qtT : Tr → Bool
  | .mk k _ _ _ _ ts => decide (k = 8) && decide ((ts.getD 1 (.mk 0 0 Q6.none ⟨#[]⟩ [] [])).k = 1)
end
end Go.Proofs.YtabpjchfkbhfpaaGreatDoor.G
namespace Go.Proofs
open Go.Shelf
def Tryz.lays240_ren : Go.Shelf.Ren := ⟨fun | 240 => 49 | 276 => 75 | n => n, fun | 70 => 38 | 0 => 0 | 72 => 40 | 4 => 4 | 164 => 88 | 37 => 27 | 5 => 5 | 9 => 9 | 20 => 20 | n => n, fun | n => n⟩
theorem Tryz.lays240 : Go.Proofs.Lays.n240 Tryz.prog Tryz.lays240_ren := {
  mixed := by kernel_rfl
  f240 := Tryz.func49.trans (congrArg some (by kernel_rfl))
  f276 := Tryz.func75.trans (congrArg some (by kernel_rfl))
  t0 := Tryz.underlying0
  a0 := Tryz.isAgg0
  z0 := Tryz.sizeOf0
  v0 := Tryz.zeroValue0
  t4 := Tryz.underlying4
  a4 := Tryz.isAgg4
  z4 := Tryz.sizeOf4
  v4 := Tryz.zeroValue4
  t9 := Tryz.underlying9
  a9 := Tryz.isAgg9
  z9 := Tryz.sizeOf9
  v9 := Tryz.zeroValue9
  t20 := Tryz.underlying20
  a20 := Tryz.isAgg20
  z20 := Tryz.sizeOf20
  v20 := Tryz.zeroValue20
  t70 := Tryz.underlying38
  a70 := Tryz.isAgg38
  z70 := Tryz.sizeOf38
  v70 := Tryz.zeroValue38
  t72 := Tryz.underlying40
  a72 := Tryz.isAgg40
  z72 := Tryz.sizeOf40
  v72 := Tryz.zeroValue40
  t164 := Tryz.underlying88
  a164 := Tryz.isAgg88
  z164 := Tryz.sizeOf88
  v164 := Tryz.zeroValue88 }
theorem Tryz.Builder_X72_240 : Builder.X72 Tryz.prog Tryz.lays240_ren := {
  sizeBuilder := by kernel_rfl
  liesBuilder := by kernel_rfl }
end Go.Proofs
namespace Go.Proofs.YtabpjchfkbhfpaaGreatDoor.G
open Go.RowKit Go.Shelf
set_option linter.unusedVariables false
set_option linter.unusedSimpArgs false

theorem zlc {w : World} {gw : Nat} (h0 : w.cell? ⟨gw, 0, none⟩ = some (.pointer (some ⟨gw, 0, none⟩))) : Calls Tryz.prog 49 #[.pointer (some ⟨gw, 0, none⟩)] w fun e w' => e = .returned (.tuple #[]) ∧ w' = w :=
  Any.Builder_copyCheck_used Tryz.lays240 Tryz.Builder_X72_240 gw w h0
set_option maxHeartbeats 1000000 in
set_option maxRecDepth 100000 in
theorem zga {w : World} {gw : Nat} (h0 : w.cell? ⟨gw, 0, none⟩ = some (.pointer none)) (hsh : w.shape? gw = some (42, 3)) (hfz : w.frozen? ⟨gw, 0, none⟩ = false) : Calls Tryz.prog 49 #[.pointer (some ⟨gw, 0, none⟩)] w fun e w' => e = .returned (.tuple #[]) ∧ w' = w.setCell ⟨gw, 0, none⟩ (.pointer (some ⟨gw, 0, none⟩)) := by
  obtain ⟨j, hj, hjs⟩ := Option.map_eq_some_iff.1 Tryz.Builder_X72_240.sizeBuilder
  go_enter Tryz.func49, Tryz.ntmps49
  go_wp2
  rw [Lib.run_to_unsafe w ⟨gw, 0, none⟩ Tryz.underlying38 Tryz.underlying88 hj (by rw [hjs]; decide) hsh (Nat.zero_lt_succ 2)]
  simp only [Result.andThen]
  rw [Oper.upon_value]
  go_wp2
  rw [run_callFunc_extern Tryz.func75 (by kernel_rfl) (by kernel_rfl) (by kernel_rfl) (e := Extern.AbiNoEscape.same) (by kernel_rfl)]
  rw [Lib.run_noEscape]
  simp only [Result.andThen]
  rw [Oper.upon_value]
  go_wp2
  rw [Lib.run_from_unsafe w ⟨gw, 0, none⟩ Tryz.underlying88 Tryz.underlying38 hj hsh (by kernel_rfl)]
  simp only [Result.andThen]
  rw [Oper.upon_value]
  go_wp2
  go_end0
  exact ⟨rfl, rfl⟩
theorem qxh {w0 w : World} {gw : Nat} {p v : Value} {pl : Bool} {L : List Ck} (hp : p = .pointer none ∨ p = .pointer (some ⟨gw, 0, none⟩)) (hM : Mg w0 w (.obj gw (.cells #[p, v, .bool pl] 42) :: L)) : Calls Tryz.prog 49 #[.pointer (some ⟨gw, 0, none⟩)] w fun e w' => e = .returned (.tuple #[]) ∧ Mg w0 w' (.obj gw (.cells #[.pointer (some ⟨gw, 0, none⟩), v, .bool pl] 42) :: L) := by
  have hc := hM.cell 0 (vs := [p, v, .bool pl]) rfl 0 rfl
  rcases hp with rfl | rfl
  · have hb := hM.obj 0 rfl
    refine (zga hc (by simp [World.shape?, hb]) (hM.froz 0 (vs := [_, _, _]) rfl 0)).mono ?_
    rintro e w' ⟨rfl, rfl⟩
    exact ⟨rfl, hM.put 0 (vs := [_, v, .bool pl]) rfl 0 _⟩
  · refine (zlc hc).mono ?_
    rintro e w' ⟨rfl, rfl⟩
    exact ⟨rfl, hM⟩
theorem qti {B : Nat} {w0 w : World} (h : Below B w0 w) {g : Nat} (hg : B ≤ g) (n : Nat) : Below B w0 (w.freeze ⟨g, 0, none⟩ n) := Lib.below_freeze h (p := ⟨g, 0, none⟩) hg n
set_option maxHeartbeats 1000000 in
set_option maxRecDepth 100000 in
theorem zld {w : World} {B gw g cap : Nat} {p q : Value} {l : List UInt8} {cur : Array Value} (h0 : l ≠ []) (hbk : w.heap[gw]? = some (.cells #[p, .slice (some ⟨g, 0, none⟩) l.length cap, q] 42 (0, 0))) (hg : w.heap[g]? = some (.cells cur 5 (0, 0))) (hcap : l.length ≤ cap) (hmax : l.length ≤ 9223372036854775807) (hB : B ≤ g)
    (hcs : ∀ j x, l[j]? = some x → w.cell? ⟨g, j, none⟩ = some (.int .u8 ((x : UInt8).toNat : Nat))) (hsz : l.length ≤ cur.size) : Calls Tryz.prog 13 #[.pointer (some ⟨gw, 0, none⟩)] w fun e w' => e = .returned (.string ⟨l.toArray⟩) ∧ Below B w w' := by
  have hl0 : l.length ≠ 0 := by simpa using h0
  have mixed : Tryz.prog.follows .mixedOrders = true := by kernel_rfl
  have c1 : w.drew.cell? ⟨gw, 1, none⟩ = some (.slice (some ⟨g, 0, none⟩) l.length cap) := by
    have : w.drew.heap[gw]? = some (.cells #[p, .slice (some ⟨g, 0, none⟩) l.length cap, q] 42 (0, 0)) := hbk
    rw [Lib.cell_of_heap this]; rfl
  have hSD : (Builtin.unsafeSliceData_ #[27] 61 #[.slice (some ⟨g, 0, none⟩) l.length cap]).run Tryz.prog w.drew = .ok (.pointer (some ⟨g, 0, none⟩)) w.drew :=
    Lib.run_unsafeSliceData_row _ _ _ _ _ _ (by omega)
  have hUS : (Builtin.unsafeString_ #[61, 3] 9 #[.pointer (some ⟨g, 0, none⟩), .int .i64 l.length]).run Tryz.prog w.drew = .ok (.string ⟨l.toArray⟩) (w.drew.freeze ⟨g, 0, none⟩ l.length) :=
    Lib.run_unsafeString_row w.drew 61 3 9 5 Tryz.underlying61 (by kernel_rfl) g cur.size (by have hg' : w.drew.heap[g]? = some (.cells cur 5 (0, 0)) := hg; simp [World.shape?, hg']) l h0 (by omega) (by omega) (fun j x hx => by rw [jz, Nat.zero_add]; exact hcs j x hx)
  go_enter Tryz.func13, Tryz.ntmps13
  go_wp2
  go_region_o
  all_goals (go_wp2; go_ret; exact ⟨rfl, qti (Below.drew (Below.refl B w)) hB _⟩)
/-- A text appended to a row of bytes: the row qaa where it is, or lies in a new block. -/
theorem qtj {P : Program} (w : World) (base : Nat) (t u ty e : TypeId) (i : TypeInfo) (ht : P.underlying t = some (.slice e)) (hu : P.underlying u = some .string) (hi : P.info? e = some i) (hz : i.zero = some (.int .u8 0)) (hsize : i.size = 1) (hby : i.bytes = 1)
    (v : Value) (n : Nat) (xs : List Value) (hown : w.ownsRow base e 1 v n xs) (s : ByteArray) (h63 : n + s.size ≤ 140737488355328) (hbase : base ≤ w.heap.size) :
    ∃ v' w', (Builtin.append_ #[t, u] ty #[v, .string s]).run P w = .ok v' w' ∧ w'.ownsRow base e 1 v' (n + s.size) (xs ++ Lib.strCells s) ∧ w.grownBy w' v.ownBlock ∧ (v'.ownBlock = v.ownBlock ∨ v'.ownBlock = some w.heap.size) := by
  obtain ⟨v', w', hr, h2, h3, h4⟩ := Lib.run_append_own_string (P := P) w base t u ty e i ht hu hi hz hsize hby v n xs hown s (by unfold maxLen; omega) h63 hbase
  refine ⟨v', w', hr, h2, h3, ?_⟩
  rcases hown.2 with ⟨rfl, rfl⟩ | ⟨g, cap, cur, rfl, hbg, hg, hnc, hcm, hcs, htake⟩
  · by_cases hm : s.size = 0
    · left; rw [h4.2 ⟨rfl, hm⟩]
    · right
      have hr2 := run_append_nil_string (P := P) w t u ty e i (.int .u8 0) ht hu hi hz s (by omega) (by omega) (by rw [hby]; omega)
      rw [hr] at hr2
      injection hr2 with e1 _
      rw [e1]; rfl
  · by_cases hroom : n + s.size ≤ cap
    · left
      have hr2 := Lib.run_append_room_string (P := P) w t u ty e i ht hu hi hsize g n cap cur hg s hroom (by simp at hcs; omega)
      rw [hr] at hr2
      injection hr2 with e1 _
      rw [e1]; rfl
    · right
      have hxl : xs.length = n := by simpa using hown.1
      have hr2 := Lib.run_append_grow_string (P := P) w t u ty e i (.int .u8 0) ht hu hi hz ⟨g, 0, none⟩ n cap xs (by rw [hsize]; simpa using hxl) (hown.cells (g := g) rfl) s (by omega) (by omega) (by rw [hby]; exact growslice_fits (by omega) (by omega))
      rw [hr] at hr2
      injection hr2 with e1 _
      rw [e1]; rfl
section
variable {P : Program} {w0 w : World} {L : List Ck} {l : List (Nat × Value)} {dst : Option Tmp} {ty : TypeId} {pos : String} {after : Array Edge} {guard : Option (Nat × Bool)} {v : Value}
theorem zle {w : World} {B : Nat} {e : TypeId} {v v' : Value} {n n' : Nat} {xs xs' : List Value} {d : Ck} (hd : d.holds B w) (hat : v'.ownBlock = v.ownBlock ∨ v'.ownBlock = some w.heap.size) (ha : Ap (.row e 1 v n xs) d) : Ap (.row e 1 v' n' xs') d := by
  have hl := Ck.lt hd
  have key : ∀ z, d.at_ = some z → v.ownBlock ≠ some z → v'.ownBlock ≠ some z := fun z hz hne e => by
    rcases hat with h | h
    · exact hne (h ▸ e)
    · rw [h] at e
      have := (hl z hz).2
      have e2 : w.heap.size = z := Option.some.inj e
      omega
  cases d with
  | obj g' o' => exact key g' rfl ha
  | row e' sz' v2 n2 xs2 =>
    by_cases hz : v2.ownBlock = none
    · by_cases hv : v'.ownBlock = none
      · exact .inl hv
      · exact .inr (fun e => hv (e.trans hz))
    · obtain ⟨z, hz⟩ := Option.ne_none_iff_exists'.1 hz
      right
      rw [hz]
      refine key z hz ?_
      rcases ha with ha | ha
      · rw [ha]; simp
      · exact fun e => ha (e.trans hz.symm)
  | bld b' bs' => exact ⟨ha.1, key b' rfl ha.2⟩
theorem qua {t u : TypeId} {x y : Operand} (ht : P.underlying t = some (.slice BY)) (hu : P.underlying u = some .string) (hinfo : (P.info? BY).map (fun i => (i.zero, i.size, i.bytes)) = some (some (.int .u8 0), 1, 1)) (hM : Mg w0 w L) (k : Nat) {q : Nat} {xs : List Value} (hk : L[k]? = some (.row BY 1 v q xs)) (hx : ev l x = some v) {s : ByteArray} (hy : ev l y = some (.string s)) (hlen : q + s.size ≤ 140737488355328) :
    ∃ v' w', Does P l ⟨dst, .call ⟨.builtin .append, #[x, y], #[t, u]⟩, ty, pos, after, guard⟩ w v' w' ∧ Mg w0 w' (L.set k (.row BY 1 v' (q + s.size) (xs ++ Lib.strCells s))) := by
  obtain ⟨i, hi, hzz⟩ := Option.map_eq_some_iff.1 hinfo
  simp only [Prod.mk.injEq] at hzz
  obtain ⟨hz, hs, hb⟩ := hzz
  obtain ⟨v', w', hr, hown, hgr, hat⟩ := qtj (P := P) w w0.heap.size t u ty BY i ht hu hi hz hs hb v q xs (hM.has k hk) s hlen hM.bel.size
  refine ⟨v', w', fun ρ h => ?_, hM.turn k hk (by simp) hgr hown (fun d hd ha => zle (hM.all d hd) hat ha)⟩
  simp [execOp, resolve, invoke, builtin, h x _ hx, h y _ hy, hr]
end
/-- Pieces that are no rows of bytes. -/
def QT (T : List Ck) : Prop := ∀ d ∈ T, ∃ g o, d = .obj g o ∧ qac o
theorem QT.nil : QT [] := fun d h => by cases h
theorem QT.cons {g : Nat} {cs : Array Value} {t : TypeId} {T : List Ck} (h : t ≠ BY) (hT : QT T) : QT (.obj g (.cells cs t) :: T) := fun d hd => by
  rcases List.mem_cons.1 hd with rfl | hd
  · exact ⟨_, _, rfl, kt h⟩
  · exact hT d hd
theorem zgb {w0 w : World} {gw : Nat} {ob : Obj} {v : Value} {q : Nat} {xs : List Value} {T : List Ck} (hM : Mg w0 w (.obj gw ob :: .row BY 1 v q xs :: T)) (ho : qac ob) (hT : QT T) {r : Int} (hr0 : -2147483648 ≤ r) (hr1 : r ≤ 2147483647) (hlen : q + 4 ≤ 140737488355328) :
    Calls Tryz.prog 81 #[v, .int .i32 r] w fun e w' => ∃ v', e = .returned v' ∧ Mg w0 w' (.obj gw ob :: .row BY 1 v' (q + (Lib.runeCells r).length) (xs ++ Lib.runeCells r) :: T) := by
  refine (Any.utf8_AppendRune_plain Tryz.laysAppend (by kernel_rfl) w0.heap.size v q xs r hr0 hr1 w (hM.has 1 rfl) hlen hM.bel.size).mono ?_
  rintro e w' ⟨v', rfl, hown, o, hgr⟩
  refine ⟨v', rfl, ?_⟩
  have hM1 : Mg w0 (w.alloc o) (.obj gw ob :: .row BY 1 v q xs :: T) := hM.call ((Below.refl _ _).alloc (Nat.le_refl _) _)
  have key : ∀ g o', Ck.holds w0.heap.size (w.alloc o) (.obj g o') → Ap (.row BY 1 v q xs) (.obj g o') → qac o' → v'.ownBlock ≠ some g := fun g o' hd ha hq hg => by
    have hd' := Ck.grown hd (hM1.has 1 rfl) (by simp) ha hgr
    rcases hown.2 with ⟨rfl, _⟩ | ⟨g2, cap, cur, rfl, hbg, hgc, _⟩
    · cases hg
    · have e1 : g2 = g := Option.some.inj hg
      subst e1
      exact hq cur (0, 0) (Option.some.inj (hd'.2.symm.trans hgc))
  refine hM1.turn 1 (c' := .row BY 1 v' _ _) rfl (by simp) hgr hown (fun d hd ha => ?_)
  rcases List.mem_cons.1 hd with rfl | hd
  · exact key _ _ (hM1.has 0 rfl) ha ho
  · rcases List.mem_cons.1 hd with rfl | hd2
    · rcases ha with h0 | h0
      · by_cases h1 : v'.ownBlock = none
        · exact .inl h1
        · exact .inr (fun e => h1 (e.trans h0))
      · exact absurd rfl h0
    · obtain ⟨g, o', rfl, hq⟩ := hT d hd2
      exact key _ _ (hM1.all _ (List.mem_cons_of_mem _ hd)) ha hq
end Go.Proofs.YtabpjchfkbhfpaaGreatDoor.G
namespace Go.Proofs.YtabpjchfkbhfpaaGreatDoor.C
open Go.RowKit
set_option linter.unusedSimpArgs false
set_option linter.unusedVariables false

/-- The library's table says that 16 ji in four zeros. -/
def Tz16 (w : World) : Prop := w.cell? ⟨5, 15, none⟩ = some (.int .u8 4)
set_option maxHeartbeats 1000000 in
theorem zlf (w : World) (h : Tz16 w) : Calls Tryz.prog 148 #[.int .u64 16] w fun e w' => e = .returned (.int .i64 4) ∧ w' = w := by
  have h' : w.cell? ⟨5, 15, none⟩ = some (.int .u8 4) := h
  have key : IntKind.u64.wrap (bits BinOp.and IntKind.u64 16 (IntKind.u64.wrap (-16)) * 285870213051353865) / 288230376151711744 = 15 := by decide +kernel
  go_enter Tryz.func148, Tryz.ntmps148
  go_wp2_with (simp only [key])
  go_ret
  exact ⟨rfl, rfl⟩
set_option maxHeartbeats 1000000 in
theorem tz_16 (w : World) (h : Tz16 w) : Calls Tryz.prog 132 #[.int .u64 16] w fun e w' => e = .returned (.int .i64 4) ∧ w' = w := by
  go_enter Tryz.func132, Tryz.ntmps132
  go_wp2_with (go_at_call 148; refine (zlf _ h).mono ?_; rintro e w' ⟨rfl, rfl⟩)
  go_ret
  exact ⟨rfl, rfl⟩
end Go.Proofs.YtabpjchfkbhfpaaGreatDoor.C
namespace Go.Proofs.YtabpjchfkbhfpaaGreatDoor.G
open Go.RowKit Go.Lib
set_option linter.unusedVariables false
set_option linter.unusedSimpArgs false

/-- An array of 65 bytes whose last ones are these. -/
def xt (ds : List Value) : List Value := List.replicate (65 - ds.length) (.int .u8 0) ++ ds
def S36 : ByteArray := ⟨#[48, 49, 50, 51, 52, 53, 54, 55, 56, 57, 97, 98, 99, 100, 101, 102, 103, 104, 105, 106, 107, 108, 109, 110, 111, 112, 113, 114, 115, 116, 117, 118, 119, 120, 121, 122]⟩
theorem s36 : ∀ j : Fin 16, (S36.data.toList.getD j.val 0) = C.hx j.val := by decide +kernel
theorem qka {m : Nat} (h : m < 18446744073709551616) : bits .and .u64 ((m : Nat) : Int) 15 = ((m % 16 : Nat) : Int) := by
  have e := and_u64 m 15 h (by decide)
  rw [show m &&& 15 = m % 16 from Nat.and_two_pow_sub_one_eq_mod m 4] at e
  exact e
section
variable {P : Program} {w0 w : World} {L : List Ck} {l : List (Nat × Value)} {dst : Option Tmp} {ty : TypeId} {pos : String} {after : Array Edge} {guard : Option (Nat × Bool)} {v : Value}
theorem jn {t : TypeId} (ht : P.underlying t = some .string) {x y : Operand} {m : Nat} {z : Int} (hx : ev l x = some (.string S36)) (hy : ev l y = some (.int .u64 z)) (hz : z = ((m : Nat) : Int)) (hm : m < 16) : Does P l ⟨dst, .index t x y, ty, pos, after, guard⟩ w (.int .u8 (((C.hx m).toNat : Nat) : Int)) w := fun ρ h => by
  subst hz
  have hi : m < S36.size := by show m < 36; omega
  have := run_index_string (P := P) w t S36 .u64 ((m : Nat) : Int) ht
  have hi' : m < S36.data.size := hi
  have e : S36.data.toList.getD m 0 = S36[m] := by
    rw [List.getD_eq_getElem?_getD, Array.getElem?_toList, Array.getElem?_eq_getElem hi']
    rfl
  rw [← s36 ⟨m, hm⟩, e]
  simp [execOp, h x _ hx, h y _ hy, this, hi]
theorem vw {t : TypeId} {x y : Operand} {u u' : Value} (hx : ev l x = some u) (hy : ev l y = some u') (hr : ∀ w, (Instr.sliceAt t u (some u') none none).run P w = .ok v w) : Does P l ⟨dst, .slice t x (some y) none none, ty, pos, after, guard⟩ w v w := fun ρ h => by
  simp [execOp, h x _ hx, h y _ hy, hr]
theorem qha (hM : Mg w0 w L) (k : Nat) {g : Nat} {e : TypeId} {ds : List UInt8} (hk : L[k]? = some (.obj g (.cells (xt (Lib.byteCells ds)).toArray e))) (hl : ds.length ≤ 65) : Rb w (some ⟨g, 65 - ds.length, none⟩) ds := by
  refine ⟨fun hne => ⟨g, 65 - ds.length, rfl, (Array.getElem?_eq_some_iff.1 (hM.obj k hk)).1, fun j hj => ?_⟩⟩
  refine hM.cell k hk _ ?_
  unfold xt
  rw [Lib.byteCells_length, List.getElem?_append_right (by rw [List.length_replicate]; omega), List.length_replicate, show 65 - ds.length + j - (65 - ds.length) = j by omega]
  unfold Lib.byteCells
  rw [List.getElem?_map, List.getElem?_eq_getElem hj]
  simp [List.getD, List.getElem?_eq_getElem hj]
end
theorem qdf {n : Nat} (h : n < 16) : C.hexD n = [C.hx n] := by rw [C.hexD, if_pos h]
theorem vj {n : Nat} (h : ¬ n < 16) {l : List UInt8} (k : C.hexD (n / 16) = l) : C.hexD n = l ++ [C.hx (n % 16)] := by rw [C.hexD, if_neg h, k]
end Go.Proofs.YtabpjchfkbhfpaaGreatDoor.G
namespace Go.Proofs
open Go.Shelf
def Tryz.laysItoa_ren : Go.Shelf.Ren := ⟨fun | 171 => 61 | 243 => 86 | 246 => 101 | 283 => 114 | 284 => 115 | 285 => 116 | 286 => 117 | 129 => 129 | 317 => 128 | 318 => 130 | 319 => 131 | 320 => 132 | 337 => 147 | 338 => 148 | n => n, fun | 3 => 3 | 9 => 9 | 2 => 2 | 4 => 4 | 171 => 118 | 0 => 0 | 53 => 100 | 37 => 27 | 5 => 5 | 173 => 121 | 212 => 128 | 51 => 65 | 20 => 20 | 213 => 129 | 46 => 109 | 232 => 150 | 233 => 151 | n => n, fun | 17 => 2 | 18 => 4 | 19 => 5 | n => n⟩
theorem Tryz.laysItoa : Go.Proofs.LaysM.n171 Tryz.prog Tryz.laysItoa_ren := {
  mixed := by kernel_rfl
  f129 := Tryz.func129.trans (congrArg some (by kernel_rfl))
  f171 := Tryz.func61.trans (congrArg some (by kernel_rfl))
  f243 := Tryz.func86.trans (congrArg some (by kernel_rfl))
  f246 := Tryz.func101.trans (congrArg some (by kernel_rfl))
  f283 := Tryz.func114.trans (congrArg some (by kernel_rfl))
  f284 := Tryz.func115.trans (congrArg some (by kernel_rfl))
  f285 := Tryz.func116.trans (congrArg some (by kernel_rfl))
  f286 := Tryz.func117.trans (congrArg some (by kernel_rfl))
  f317 := Tryz.func128.trans (congrArg some (by kernel_rfl))
  f318 := Tryz.func130.trans (congrArg some (by kernel_rfl))
  f319 := Tryz.func131.trans (congrArg some (by kernel_rfl))
  f320 := Tryz.func132.trans (congrArg some (by kernel_rfl))
  f337 := Tryz.func147.trans (congrArg some (by kernel_rfl))
  f338 := Tryz.func148.trans (congrArg some (by kernel_rfl))
  t0 := Tryz.underlying0
  a0 := Tryz.isAgg0
  z0 := Tryz.sizeOf0
  v0 := Tryz.zeroValue0
  t2 := Tryz.underlying2
  a2 := Tryz.isAgg2
  z2 := Tryz.sizeOf2
  v2 := Tryz.zeroValue2
  t3 := Tryz.underlying3
  a3 := Tryz.isAgg3
  z3 := Tryz.sizeOf3
  v3 := Tryz.zeroValue3
  t4 := Tryz.underlying4
  a4 := Tryz.isAgg4
  z4 := Tryz.sizeOf4
  v4 := Tryz.zeroValue4
  t5 := Tryz.underlying5
  a5 := Tryz.isAgg5
  z5 := Tryz.sizeOf5
  v5 := Tryz.zeroValue5
  t9 := Tryz.underlying9
  a9 := Tryz.isAgg9
  z9 := Tryz.sizeOf9
  v9 := Tryz.zeroValue9
  t20 := Tryz.underlying20
  a20 := Tryz.isAgg20
  z20 := Tryz.sizeOf20
  v20 := Tryz.zeroValue20
  t37 := Tryz.underlying27
  a37 := Tryz.isAgg27
  z37 := Tryz.sizeOf27
  v37 := Tryz.zeroValue27
  t46 := Tryz.underlying109
  a46 := Tryz.isAgg109
  z46 := Tryz.sizeOf109
  v46 := Tryz.zeroValue109
  t51 := Tryz.underlying65
  a51 := Tryz.isAgg65
  z51 := Tryz.sizeOf65
  v51 := Tryz.zeroValue65
  t53 := Tryz.underlying100
  a53 := Tryz.isAgg100
  z53 := Tryz.sizeOf100
  v53 := Tryz.zeroValue100
  t171 := Tryz.underlying118
  a171 := Tryz.isAgg118
  z171 := Tryz.sizeOf118
  v171 := Tryz.zeroValue118
  t173 := Tryz.underlying121
  a173 := Tryz.isAgg121
  z173 := Tryz.sizeOf121
  v173 := Tryz.zeroValue121
  t212 := Tryz.underlying128
  a212 := Tryz.isAgg128
  z212 := Tryz.sizeOf128
  v212 := Tryz.zeroValue128
  t213 := Tryz.underlying129
  a213 := Tryz.isAgg129
  z213 := Tryz.sizeOf129
  t232 := Tryz.underlying150
  a232 := Tryz.isAgg150
  z232 := Tryz.sizeOf150
  v232 := Tryz.zeroValue150
  t233 := Tryz.underlying151
  a233 := Tryz.isAgg151
  z233 := Tryz.sizeOf151
  v233 := Tryz.zeroValue151
  g17 := by kernel_rfl
  g18 := by kernel_rfl
  g19 := by kernel_rfl
  i0 := by kernel_rfl
  i2 := by kernel_rfl
  i3 := by kernel_rfl
  i4 := by kernel_rfl
  i5 := by kernel_rfl
  i9 := by kernel_rfl
  i20 := by kernel_rfl
  i37 := by kernel_rfl
  i46 := by kernel_rfl
  i51 := by kernel_rfl
  i53 := by kernel_rfl
  i171 := by kernel_rfl
  i173 := by kernel_rfl
  i212 := by kernel_rfl
  i232 := by kernel_rfl
  i233 := by kernel_rfl
  m17 := by kernel_rfl
  m18 := by kernel_rfl
  m19 := by kernel_rfl }
end Go.Proofs
namespace Go.Proofs.YtabpjchfkbhfpaaGreatDoor.C
open Go.RowKit
set_option linter.unusedSimpArgs false
set_option linter.unusedVariables false

/-- The library's table of powers of ten is there. -/
def Tp10 (w : World) : Prop := Lib.TabIs Tryz.prog w "internal/strconv.uint64pow10" .u64 Lib.pow10Tab
theorem Tp10.below {w w' : World} (h : Tp10 w) (hb : Below w.heap.size w w') : Tp10 w' := Joins.tab_stays (g := 2) (by kernel_rfl) h hb (Nat.le_refl _)
theorem zgc : ∀ k : Fin 256, Lib.itoa (k.val : Int) = decD k.val := by decide +kernel
theorem qub (w : World) (k : Nat) : Below w.heap.size w (w.drewN k) := by
  induction k with
  | zero => exact Below.refl _ _
  | succ k ih => exact ih.drew
theorem itoa_any {w : World} (h : Tp10 w) {n : Nat} (hn : n < 256) : Calls Tryz.prog 61 #[.int .i64 ((n : Nat) : Int)] w fun e w' => e = .returned (.string ⟨(decD n).toArray⟩) ∧ Below w.heap.size w w' := by
  refine (Any.strconv_Itoa Tryz.laysItoa ((n : Nat) : Int) (by omega) (by omega) w h).mono fun e w' ⟨h1, k, os, h2⟩ => ?_
  have e := zgc ⟨n, hn⟩
  simp only at e
  rw [e] at h1
  refine ⟨h1, ?_⟩
  subst h2
  have hb := qub w k
  refine ⟨hb.os, hb.tape, hb.output, ?_, fun j hj => ?_⟩
  · have := hb.size
    show w.heap.size ≤ ((w.drewN k).heap ++ os).size
    rw [Array.size_append]; omega
  · show ((w.drewN k).heap ++ os)[j]? = _
    rw [Array.getElem?_append_left (Nat.lt_of_lt_of_le hj hb.size)]
    exact hb.block j hj
end Go.Proofs.YtabpjchfkbhfpaaGreatDoor.C
namespace Go.Proofs.YtabpjchfkbhfpaaGreatDoor.G
open Go.RowKit Go.Lib
set_option linter.unusedVariables false
set_option linter.unusedSimpArgs false

theorem QT.it {g : Nat} {s : ByteArray} {p : Nat} {T : List Ck} (hT : QT T) : QT (.obj g (.stringIter s p) :: T) := fun d hd => by
  rcases List.mem_cons.1 hd with rfl | hd
  · exact ⟨_, _, rfl, qdc _ _⟩
  · exact hT d hd
/-- The letter behind a backslash. -/
def abt (m : Nat) : UInt8 := [97, 98, 116, 110, 118, 102, 114].getD m 0
def S7 : ByteArray := ⟨#[97, 98, 116, 110, 118, 102, 114]⟩
theorem s7 : ∀ j : Fin 7, (S7.data.toList.getD j.val 0) = abt j.val := by decide +kernel
theorem qrb {P : Program} {w : World} {l : List (Nat × Value)} {dst : Option Tmp} {ty : TypeId} {pos : String} {after : Array Edge} {guard : Option (Nat × Bool)} {t : TypeId} (ht : P.underlying t = some .string) {x y : Operand} {m : Nat} {z : Int} (hx : ev l x = some (.string S7)) (hy : ev l y = some (.int .i32 z)) (hz : z = ((m : Nat) : Int)) (hm : m < 7) : Does P l ⟨dst, .index t x y, ty, pos, after, guard⟩ w (.int .u8 (((abt m).toNat : Nat) : Int)) w := fun ρ h => by
  subst hz
  have hi : m < S7.size := by show m < 7; omega
  have := run_index_string (P := P) w t S7 .i32 ((m : Nat) : Int) ht
  have hi' : m < S7.data.size := hi
  have e : S7.data.toList.getD m 0 = S7[m] := by
    rw [List.getD_eq_getElem?_getD, Array.getElem?_toList, Array.getElem?_eq_getElem hi']
    rfl
  rw [← s7 ⟨m, hm⟩, e]
  simp [execOp, h x _ hx, h y _ hy, this, hi]
theorem zgd {n : Nat} (h0 : 7 ≤ n) (h1 : n ≤ 13) : C.strC ((n : Nat) : Int) = [92] ++ [abt (n - 7)] := by
  have h : n = 7 ∨ n = 8 ∨ n = 9 ∨ n = 10 ∨ n = 11 ∨ n = 12 ∨ n = 13 := by omega
  rcases h with rfl | rfl | rfl | rfl | rfl | rfl | rfl <;> rfl
theorem qbh {n : Nat} (h : n = 34 ∨ n = 92) : C.strC ((n : Nat) : Int) = [92] ++ encodeRune ((n : Nat) : Int) := by rcases h with rfl | rfl <;> rfl
theorem vh {n : Nat} (h : ¬ (7 ≤ n ∧ n ≤ 13)) (h2 : ¬ (n = 34 ∨ n = 92)) (h3 : C.ctlB ((n : Nat) : Int) = true ∨ ((n : Nat) : Int) = 8232 ∨ ((n : Nat) : Int) = 65279) : C.strC ((n : Nat) : Int) = jk ((n : Nat) : Int) ++ [59] := by
  unfold C.strC jk
  rw [if_neg (by omega), if_neg (by omega), if_neg (by omega), if_neg (by omega), if_neg (by omega), if_neg (by omega), if_neg (by omega), if_neg (by omega), if_neg (by omega), if_pos h3]
theorem qdg {n : Nat} (h : ¬ (7 ≤ n ∧ n ≤ 13)) (h2 : ¬ (n = 34 ∨ n = 92)) (h3 : ¬ (C.ctlB ((n : Nat) : Int) = true ∨ ((n : Nat) : Int) = 8232 ∨ ((n : Nat) : Int) = 65279)) : C.strC ((n : Nat) : Int) = encodeRune ((n : Nat) : Int) := by
  unfold C.strC
  rw [if_neg (by omega), if_neg (by omega), if_neg (by omega), if_neg (by omega), if_neg (by omega), if_neg (by omega), if_neg (by omega), if_neg (by omega), if_neg (by omega), if_neg h3]
theorem ke (n : Nat) : jk ((n : Nat) : Int) = [92, 120] ++ C.hexD n := by unfold jk; rw [Int.toNat_natCast]
theorem ui {n : Nat} (h : n ≤ 1114111) : (jk ((n : Nat) : Int)).length ≤ 8 := by
  rw [ke, List.length_append]
  have := C.hexD_len n h
  simp only [List.length_cons, List.length_nil]
  omega
theorem uj (r : Int) : (C.nameL r).data.toList.length ≤ 9 := by
  unfold C.nameL
  repeat' split
  all_goals decide
theorem qdh (r : Int) : (C.nameL r).size ≤ 9 := by rw [← zf]; exact uj r
theorem vd {n : Nat} (h : C.OkR ((n : Nat) : Int)) : n ≤ 1114111 := by unfold C.OkR at h; omega
section
variable {pl : Bool} {n : Nat}
theorem zoi (h : pl = true) : kv pl ((n : Nat) : Int) = encodeRune ((n : Nat) : Int) := if_pos h
theorem zge (h : pl = false) (h1 : C.nameL ((n : Nat) : Int) ≠ ⟨#[]⟩) : kv pl ((n : Nat) : Int) = [35] ++ ([92] ++ (C.nameL ((n : Nat) : Int)).data.toList) := by unfold kv; rw [if_neg (by rw [h]; decide), if_pos h1]
theorem qrc (h : pl = false) (h1 : C.nameL ((n : Nat) : Int) = ⟨#[]⟩) (h2 : (C.blankB ((n : Nat) : Int) || C.ctlB ((n : Nat) : Int)) = true) : kv pl ((n : Nat) : Int) = [35] ++ jk ((n : Nat) : Int) := by unfold kv; rw [if_neg (by rw [h]; decide), if_neg (fun k => k h1), if_pos h2]
theorem zgf (h : pl = false) (h1 : C.nameL ((n : Nat) : Int) = ⟨#[]⟩) (h2 : (C.blankB ((n : Nat) : Int) || C.ctlB ((n : Nat) : Int)) = false) : kv pl ((n : Nat) : Int) = [35] ++ ([92] ++ encodeRune ((n : Nat) : Int)) := by unfold kv; rw [if_neg (by rw [h]; decide), if_neg (fun k => k h1), if_neg (by rw [h2]; decide)]
end
end Go.Proofs.YtabpjchfkbhfpaaGreatDoor.G
namespace Go.Proofs
open Go.Shelf
def Tryz.lays99_ren : Go.Shelf.Ren := ⟨fun | 99 => 58 | 206 => 83 | n => n, fun | 9 => 9 | 4 => 4 | 3 => 3 | n => n, fun | n => n⟩
theorem Tryz.lays99 : Go.Proofs.Lays.n99 Tryz.prog Tryz.lays99_ren := {
  mixed := by kernel_rfl
  f99 := Tryz.func58.trans (congrArg some (by kernel_rfl))
  f206 := Tryz.func83.trans (congrArg some (by kernel_rfl))
  t3 := Tryz.underlying3
  a3 := Tryz.isAgg3
  z3 := Tryz.sizeOf3
  v3 := Tryz.zeroValue3
  t4 := Tryz.underlying4
  a4 := Tryz.isAgg4
  z4 := Tryz.sizeOf4
  v4 := Tryz.zeroValue4
  t9 := Tryz.underlying9
  a9 := Tryz.isAgg9
  z9 := Tryz.sizeOf9
  v9 := Tryz.zeroValue9 }
open Go.RowKit Go.Lib in
theorem Tryz.strings_HasPrefix (s p : ByteArray) (w : World) :
    Calls Tryz.prog 58 #[.string s, .string p] w fun e w' => e = .returned (.bool (Lib.hasPrefix s.data.toList p.data.toList)) ∧ w' = w := Any.strings_HasPrefix Tryz.lays99 s p w
end Go.Proofs
namespace Go.Proofs.YtabpjchfkbhfpaaGreatDoor.G
open Go.RowKit Go.Lib
set_option linter.unusedVariables false
set_option linter.unusedSimpArgs false

theorem xe {s : ByteArray} {p r q : Nat} (e : Utf8.decode s p = (r, q)) : C.OkR ((r : Nat) : Int) := by
  have hd := decodeL_drop s p
  rw [e] at hd
  have := un (s.data.toList.drop p)
  rw [hd] at this
  simp only at this
  unfold C.OkR
  omega
theorem qkb {fl : Bool} {r : Int} (h : (C.firstB r || (!fl && C.restB r)) = true) : inS fl r = encodeRune r := if_pos h
theorem qne {fl : Bool} {r : Int} (h : (C.firstB r || (!fl && C.restB r)) = false) : inS fl r = jk r ++ [59] := if_neg (by rw [h]; decide)
theorem qaj (fl : Bool) (r : Int) (rs : List Int) : inL fl (r :: rs) = inS fl r ++ inL false rs := rfl
theorem zlg (fl : Bool) : inL fl [] = [] := rfl
theorem kf (fl : Bool) {n : Nat} (h : n ≤ 1114111) : (inS fl ((n : Nat) : Int)).length ≤ 9 := by
  unfold inS
  have := ui h
  have := yd ((n : Nat) : Int)
  split
  · omega
  · rw [List.length_append]; simp only [List.length_cons, List.length_nil]; omega
theorem qrd {n : Nat} (h : n ≤ 1114111) : (C.strC ((n : Nat) : Int)).length ≤ 9 := C.strC_len _ (by omega) (by omega)
theorem qfd : ∀ k : Fin 256, (C.decD k.val).length ≤ 3 := by decide +kernel
theorem qih {f : Bool} {l : List UInt8} {i : Nat} (hi : i < l.length) : qib f (l.drop i) = (if f = true then [] else [32]) ++ C.decD (l.getD i 0).toNat ++ qib false (l.drop (i + 1)) := by
  rw [List.drop_eq_getElem_cons hi, show l.getD i 0 = l[i] from by simp [List.getD, List.getElem?_eq_getElem hi]]
  rfl
theorem quc {f : Bool} {l : List UInt8} {i : Nat} (hi : ¬ i < l.length) : qib f (l.drop i) = [] := by rw [List.drop_of_length_le (by omega)]; rfl
theorem qkc {w : World} {s t : ByteArray} {b : Bool} (h : hasPrefix s.data.toList t.data.toList = b) : Calls Tryz.prog 58 #[.string s, .string t] w fun e w' => e = .returned (.bool b) ∧ Below w.heap.size w w' := h ▸ (Tryz.strings_HasPrefix s t w).mono fun e w' ⟨h, e2⟩ => ⟨h, e2 ▸ Below.refl _ _⟩
section
variable {pl : Bool} {s : ByteArray}
theorem qdi (h : pl = true ∨ s = ⟨#[43]⟩ ∨ s = ⟨#[45]⟩ ∨ s = ⟨#[46, 46, 46]⟩) : kw pl s = s.data.toList := if_pos h
theorem zgg (h : ¬ (pl = true ∨ s = ⟨#[43]⟩ ∨ s = ⟨#[45]⟩ ∨ s = ⟨#[46, 46, 46]⟩)) (h1 : s = ⟨#[]⟩) : kw pl s = [124, 124] := by unfold kw; rw [if_neg h, if_pos h1]
theorem zgh (h : ¬ (pl = true ∨ s = ⟨#[43]⟩ ∨ s = ⟨#[45]⟩ ∨ s = ⟨#[46, 46, 46]⟩)) (h1 : s ≠ ⟨#[]⟩) (h2 : hasPrefix s.data.toList [45, 62] = true) : kw pl s = [45, 62] ++ inL false (qn (s.data.toList.drop 2)) := by unfold kw; rw [if_neg h, if_neg h1, if_pos h2]
theorem qxi (h : ¬ (pl = true ∨ s = ⟨#[43]⟩ ∨ s = ⟨#[45]⟩ ∨ s = ⟨#[46, 46, 46]⟩)) (h1 : s ≠ ⟨#[]⟩) (h2 : hasPrefix s.data.toList [45, 62] = false) : kw pl s = inL true (qn s.data.toList) := by unfold kw; rw [if_neg h, if_neg h1, if_neg (by rw [h2]; decide)]
theorem qxj (h : hasPrefix s.data.toList [45, 62] = true) : 2 ≤ s.size := by
  have := qwe h
  rw [zf] at this
  exact this
end
theorem zcg (s : ByteArray) (p : Nat) : qn (s.extract p s.size).data.toList = qn (s.data.toList.drop p) := by rw [qaf]
theorem zoj (s : ByteArray) (p : Nat) : (s.extract p s.size).size = s.size - p := by
  rw [← zf, qaf, List.length_drop, zf]
theorem zlh {s : ByteArray} (h : s ≠ ⟨#[]⟩) : s.size ≠ 0 := fun k => h (by
  cases s with
  | mk a => congr 1; exact Array.eq_empty_of_size_eq_zero k)
theorem zob {a : List Nat} (hd : Dig a) : (tD a 10).length ≤ 32 * a.length + 1 := by
  rw [zfj]
  unfold textS
  by_cases hs : sound a = true
  · obtain ⟨ea, na⟩ := sound_words hd hs
    rw [hs, decide_eq_true (show (2 : Int) ≤ ((10 : Nat) : Int) ∧ ((10 : Nat) : Int) ≤ 36 from by omega), Int.toNat_natCast]
    simp only [if_true]
    split
    · show 1 ≤ _
      omega
    · show (txt 10 (val a)).size ≤ _
      rw [qtg]
      have h3 := qth (r := 10) (by omega) (val a) (val a) (Nat.le_refl _)
      have h4 : bl (val a) ≤ 32 * a.length := bl_le.2 (by rw [← pw_two]; exact words_length_iff.1 (by rw [← ea]; exact Nat.le_refl _))
      omega
  · have hs := Bool.eq_false_iff.2 hs
    rw [hs]
    show (0 : Nat) ≤ _
    omega
theorem zgi {t q : List Nat} (ht : Dig t) (hq : Dig q) : (szL 10 t q).length ≤ 32 * (t.length + q.length) + 3 := by
  have h1 := zob ht
  have h2 := zob hq
  unfold szL
  rw [List.length_append]
  split
  · simp only [List.length_nil]; omega
  · rw [List.length_cons]; omega
theorem qud {q : Q6} (h : zfa q) : (jg 10 q).length ≤ 32 * (q.t1.length + q.q1.length + (q.t2.length + q.q2.length)) + 9 := by
  have hd : Dig q.t1 ∧ Dig q.q1 ∧ Dig q.t2 ∧ Dig q.q2 := by
    obtain ⟨u, v, rfl, _, _⟩ := h
    exact ⟨words_dig _, words_dig _, words_dig _, words_dig _⟩
  have h1 := zgi hd.1 hd.2.1
  have h2 := zgi hd.2.2.1 hd.2.2.2
  have h3 : (ze 10 q.b1 q.t1 q.q1).length ≤ 32 * (q.t1.length + q.q1.length) + 4 := by
    unfold ze
    rw [List.length_append]
    split <;> simp only [List.length_cons, List.length_nil] <;> omega
  have h4 : (imL 10 q.b2 q.t2 q.q2).length ≤ 32 * (q.t2.length + q.q2.length) + 4 := by
    unfold imL
    rw [List.length_append]
    split <;> split <;> simp only [List.length_cons, List.length_nil] <;> omega
  unfold jg
  split
  · omega
  · rw [List.length_append, List.length_append]
    split <;> simp only [List.length_cons, List.length_nil] <;> omega
theorem qnf {f : Int → List UInt8} (hf : ∀ n : Nat, n ≤ 1114111 → (f ((n : Nat) : Int)).length ≤ 9) : ∀ (m : Nat) (l : List UInt8), ((jv m l).flatMap f).length ≤ 9 * m
  | 0, l => by simp [jv]
  | m + 1, l => by
    unfold jv
    split
    · simp
    · rw [List.flatMap_cons, List.length_append]
      have h1 := qnf hf m (l.drop (decodeL l).2)
      have h2 := hf (decodeL l).1 (by have := (un l).1; omega)
      omega
theorem qya : ∀ (m : Nat) (fl : Bool) (l : List UInt8), (inL fl (jv m l)).length ≤ 9 * m
  | 0, fl, l => by simp [jv, inL]
  | m + 1, fl, l => by
    unfold jv
    split
    · simp [inL]
    · rw [qaj, List.length_append]
      have h1 := qya m false (l.drop (decodeL l).2)
      have h2 := kf fl (n := (decodeL l).1) (by have := (un l).1; omega)
      omega
theorem zli (pl : Bool) (s : ByteArray) : (qcd pl s).length ≤ 9 * s.size + 2 := by
  unfold qcd
  have h1 := qnf (f := C.strC) (fun n h => qrd h) s.data.toList.length s.data.toList
  have h2 := zf s
  split
  · omega
  · rw [List.length_append, List.length_append]
    simp only [List.length_cons, List.length_nil]
    unfold qn
    omega
theorem zlj (pl : Bool) (s : ByteArray) : (kw pl s).length ≤ 9 * s.size + 2 := by
  unfold kw
  have h1 := qya s.data.toList.length true s.data.toList
  have h3 := qya (s.data.toList.drop 2).length false (s.data.toList.drop 2)
  rw [List.length_drop] at h3
  have h2 := zf s
  split
  · omega
  · split
    · simp only [List.length_cons, List.length_nil]; omega
    · split
      · rw [List.length_append]
        simp only [List.length_cons, List.length_nil]
        unfold qn
        rw [List.length_drop]
        omega
      · unfold qn
        omega
theorem zai : ∀ (f : Bool) (l : List UInt8), (qib f l).length ≤ 4 * l.length
  | _, [] => by simp [qib]
  | f, b :: bs => by
    have h1 := zai false bs
    have h2 := qfd ⟨b.toNat, b.toNat_lt⟩
    simp only at h2
    unfold qib
    rw [List.length_append, List.length_append, List.length_cons]
    split <;> simp only [List.length_cons, List.length_nil] <;> omega
theorem zma (pl : Bool) {n : Int} (h0 : 0 ≤ n) (h1 : n ≤ 1114111) : (kv pl n).length ≤ 11 := by
  unfold kv
  have h2 := yd n
  have h3 := uj n
  have h4 := ui (n := n.toNat) (by omega)
  rw [Int.toNat_of_nonneg h0] at h4
  split
  · omega
  · rw [List.length_append]
    split
    · rw [List.length_append]; simp only [List.length_cons, List.length_nil]; omega
    · split
      · simp only [List.length_cons, List.length_nil]; omega
      · rw [List.length_append]; simp only [List.length_cons, List.length_nil]; omega
theorem zgj (pl : Bool) {k n : Int} {q : Q6} {s : ByteArray} {rl : List UInt8} {ml : Nat} (b : Bare k n q s rl.length ml) (hr : k = 3 → zfa q) : (xd pl k n q s rl).length + 16 ≤ 64 * (s.size + rl.length + (q.t1.length + q.q1.length + (q.t2.length + q.q2.length)) + 1) := by
  have hn := zfb b
  have h3 := zma pl hn.1 hn.2
  have h4 := zli pl s
  have h5 := zlj pl s
  have h6 := zai true rl
  have h7 := zf s
  unfold xd qra
  split
  · simp only [List.length_cons, List.length_nil]; omega
  split
  · split <;> simp only [List.length_cons, List.length_nil] <;> omega
  split
  · rename_i hk; have := qud (hr hk); omega
  split
  · omega
  split
  · omega
  split
  · omega
  split
  · simp only [List.length_append, List.length_cons, List.length_nil]; omega
  split
  · simp only [List.length_cons, List.length_nil]; omega
  · simp only [List.length_append, List.length_cons, List.length_nil]; omega
theorem qre (pl : Bool) : ∀ (f : Bool) (ts : List Tr), (∀ t ∈ ts, (wrT pl t).length + 16 ≤ 64 * t.bulk) → (wrL pl f ts).length ≤ 64 * Tr.bulks ts
  | _, [], _ => by simp [wrL]
  | f, t :: ts, h => by
    have h1 := qre pl false ts fun x hx => h x (List.mem_cons_of_mem _ hx)
    have h2 := h t List.mem_cons_self
    rw [wrL, Tr.bulks, List.length_append, List.length_append]
    split <;> simp only [List.length_cons, List.length_nil] <;> omega
theorem qba (pl : Bool) : ∀ t : Tr, t.good → (wrT pl t).length + 16 ≤ 64 * t.bulk ∧ (tlT pl t).length + 8 ≤ 64 * t.bulk ∧ (itT pl t).length + 16 ≤ 64 * t.bulk := by
  refine Tr.indT fun k n q s rl ts ih hg => ?_
  rw [qpg] at hg
  have hleaf := zgj pl hg.1 hg.2.1
  have hv := qre pl true ts fun t ht => (ih t ht (hg.2.2 t ht)).1
  rw [vg]
  have h2 : (tl2 pl ts).length ≤ 64 * Tr.bulks ts ∧ (prT pl ts).length ≤ 64 * Tr.bulks ts ∧ (it2 pl ts).length ≤ 64 * Tr.bulks ts := by
    match ts with
    | [] => simp [tl2, prT, it2]
    | [a] => 
      have h1 := ih a (by simp) (hg.2.2 a (by simp))
      simp [tl2, prT, it2, Tr.bulks]
      omega
    | a :: b :: us =>
      have h1 := ih a (by simp) (hg.2.2 a (by simp))
      have h2 := ih b (by simp) (hg.2.2 b (by simp))
      rw [tl2, prT, it2, Tr.bulks, Tr.bulks]
      refine ⟨?_, ?_, by omega⟩
      · simp only [List.length_append, List.length_cons, List.length_nil]; omega
      · split <;> simp only [List.length_append, List.length_cons, List.length_nil] <;> omega
  rw [wrT, tlT, itT]
  refine ⟨?_, ?_, by omega⟩
  · split
    · omega
    · split
      · simp only [List.length_append, List.length_cons, List.length_nil]; omega
      · omega
  · split
    · omega
    · split
      · simp only [List.length_nil]; omega
      · rw [List.length_append]
        split <;> simp only [List.length_append, List.length_cons, List.length_nil] <;> omega
/-! ### Node by node -/
section
variable {t p p0 p1 : Dt} {pl : Bool}
theorem kx : wrT pl t.tr = if t.d.k = 8 then prT pl (t.ts.map Dt.tr) else if t.d.k = 9 then [35, 40] ++ wrL pl true (t.ts.map Dt.tr) ++ [41] else xd pl t.d.k t.d.n t.d.y.q t.d.s t.d.rl := by rw [Dt.tr_eta, wrT]
theorem qfe (h : p.d.k = 8) (l2 : p.ts.length = 2) (i0 : p.ts[0]? = some p0) (i1 : p.ts[1]? = some p1) : tlT pl p.tr = [32] ++ wrT pl p0.tr ++ tlT pl p1.tr := by
  rw [Dt.tr_eta, tlT, if_pos h, qde l2 i0 i1]
  simp only [List.map_cons, List.map_nil, tl2]
theorem zha (h : p.d.k = 1) : tlT pl p.tr = [] := by rw [Dt.tr_eta, tlT, if_neg (by omega), if_pos h]
theorem zhb (h : p.d.k ≠ 8) (h1 : p.d.k ≠ 1) : tlT pl p.tr = [32, 46, 32] ++ wrT pl p.tr := by
  rw [kx]
  conv => lhs; rw [Dt.tr_eta, tlT, if_neg h, if_neg h1]
  rw [if_neg h]
theorem que (h : t.d.k = 8) (l2 : t.ts.length = 2) (i0 : t.ts[0]? = some p0) (i1 : t.ts[1]? = some p1) (hq : (isQ p0.tr && qtT p1.tr) = true) : wrT pl t.tr = [39] ++ itT pl p1.tr := by
  rw [kx, if_pos h, qde l2 i0 i1]
  simp only [List.map_cons, List.map_nil, prT]
  rw [if_pos hq]
theorem qrf (h : t.d.k = 8) (l2 : t.ts.length = 2) (i0 : t.ts[0]? = some p0) (i1 : t.ts[1]? = some p1) (hq : (isQ p0.tr && qtT p1.tr) = false) : wrT pl t.tr = [40] ++ (wrT pl p0.tr ++ tlT pl p1.tr) ++ [41] := by
  rw [kx, if_pos h, qde l2 i0 i1]
  simp only [List.map_cons, List.map_nil, prT]
  rw [if_neg (by rw [hq]; decide)]
  simp only [List.append_assoc]
theorem zhc {f : Bool} {i : Nat} (hi : t.ts[i]? = some p) : wrL pl f ((t.ts.map Dt.tr).drop i) = (if f = true then [] else [32]) ++ wrT pl p.tr ++ wrL pl false ((t.ts.map Dt.tr).drop (i + 1)) := by rw [yk hi, wrL]
theorem zmb {f : Bool} {i : Nat} (h : ¬ i < t.ts.length) : wrL pl f ((t.ts.map Dt.tr).drop i) = [] := by rw [uf h, wrL]
theorem qhb : isQ p.tr = (decide (p.d.k = 6) && decide (p.d.s = ⟨#[113, 117, 111, 116, 101]⟩)) := by rw [Dt.tr_eta]; rfl
theorem quf (h : p.d.k = 8) (l2 : p.ts.length = 2) (i0 : p.ts[0]? = some p0) (i1 : p.ts[1]? = some p1) : qtT p.tr = decide (p1.d.k = 1) := by
  rw [Dt.tr_eta, qtT, decide_eq_true h, qde l2 i0 i1, Bool.true_and]
  simp only [List.map_cons, List.map_nil]
  rw [show ([p0.tr, p1.tr].getD 1 (.mk 0 0 Q6.none ⟨#[]⟩ [] [])) = p1.tr from rfl, Dt.tr_eta p1]
  rfl
theorem zoc (h : p.d.k ≠ 8) : qtT p.tr = false := by rw [Dt.tr_eta, qtT, decide_eq_false h, Bool.false_and]
theorem zqg (l2 : p.ts.length = 2) (i0 : p.ts[0]? = some p0) (i1 : p.ts[1]? = some p1) : itT pl p.tr = wrT pl p0.tr := by
  rw [Dt.tr_eta, itT, qde l2 i0 i1]
  simp only [List.map_cons, List.map_nil, it2]
theorem qbi (l2 : p.ts.length = 2) (i0 : p.ts[0]? = some p0) (i1 : p.ts[1]? = some p1) : p0.tr.bulk + p1.tr.bulk + 1 ≤ p.tr.bulk := by
  rw [Dt.tr_eta p, vg, qde l2 i0 i1]
  simp only [List.map_cons, List.map_nil, Tr.bulks]
  omega
theorem qkd {ts : List Dt} {i : Nat} {t : Dt} (hi : ts[i]? = some t) : Tr.bulks ((ts.map Dt.tr).drop i) = t.tr.bulk + Tr.bulks ((ts.map Dt.tr).drop (i + 1)) := by rw [yk hi, Tr.bulks]
theorem qff : Tr.bulks (t.ts.map Dt.tr) + 1 ≤ t.tr.bulk := by
  rw [Dt.tr_eta t, vg]
  omega
end
open Go.RowKit
set_option maxRecDepth 100000
theorem TrU_is1_21 : Is1 Tryz.prog 21 := ⟨⟨_, Tryz.underlying21, rfl⟩, by kernel_rfl⟩
theorem TrU_is1_5 : Is1 Tryz.prog 5 := ⟨⟨_, Tryz.underlying5, rfl⟩, by kernel_rfl⟩
open Go.Lib
theorem qhg {f p : Nat} {l : List UInt8} (hl : l ≠ []) : xy (f + 1) p l = ((p : Int), uR (decodeL l).1 (decodeL l).2) :: xy f (p + (decodeL l).2) (l.drop (decodeL l).2) := by
 conv => lhs; unfold xy
 rw [if_neg hl]
theorem qfg {w : World} {so : Option Addr} {l : List UInt8} {i : Nat} (h : Rb w so l) (hi : i < l.length) : ∃ b off, so = some ⟨b, off, none⟩ ∧ b < w.heap.size ∧ ∀ j, j < l.length → w.cell? ⟨b, off + j, none⟩ = some (.int .u8 (((l.getD j 0).toNat : Nat) : Int)) :=
 h.pos (fun k => by rw [k] at hi; exact absurd hi (Nat.not_lt_zero _))
/-- Units as the document keeps them: a character, whether there is none, its place. -/
def ju (us : List (Int × Int)) : List Value := us.flatMap fun u => if u.2 = -1 then [.int .i32 0, .bool true, .int .i64 u.1] else [.int .i32 u.2, .bool false, .int .i64 u.1]
theorem qrg {x : Int} (i : Nat) (m : Int) (hm : m = ((2 ^ i - 1 : Nat) : Int)) (hs : m ≤ 255) (h0 : 0 ≤ x) (h1 : x ≤ 255) : bits .and .u8 x m = x % ((2 ^ i : Nat) : Int) := by
 obtain ⟨n, rfl⟩ : ∃ n : Nat, x = (n : Int) := ⟨x.toNat, by omega⟩
 subst hm
 have h2 : n &&& (2 ^ i - 1) = n % 2 ^ i := Nat.and_two_pow_sub_one_eq_mod n i
 have e : (BitVec.ofInt IntKind.u8.bits (n : Int) &&& BitVec.ofInt IntKind.u8.bits (((2 ^ i - 1 : Nat)) : Int)).toNat = n % 2 ^ i := by
  rw [← h2, BitVec.ofInt_natCast, BitVec.ofInt_natCast, BitVec.toNat_and, BitVec.toNat_ofNat, BitVec.toNat_ofNat]
  show n % 256 &&& (2 ^ i - 1) % 256 = _
  rw [Nat.mod_eq_of_lt (by omega), Nat.mod_eq_of_lt (by omega)]
 show IntKind.u8.wrap ((BitVec.ofInt IntKind.u8.bits (n : Int) &&& BitVec.ofInt IntKind.u8.bits (((2 ^ i - 1 : Nat)) : Int)).toNat : Int) = _
 rw [e]
 have := Nat.mod_le n (2 ^ i)
 exact (in_u8 (by omega) (by omega)).trans (Int.natCast_emod n (2 ^ i))
theorem zpa {c x : Int} (h0 : 0 ≤ c) (h1 : c ≤ 33554431) (h2 : 0 ≤ x) (h3 : x ≤ 63) : bits .or .i32 (c * 64) x = c * 64 + x := by
 obtain ⟨a, rfl⟩ : ∃ a : Nat, c = (a : Int) := ⟨c.toNat, by omega⟩
 obtain ⟨n, rfl⟩ : ∃ n : Nat, x = (n : Int) := ⟨x.toNat, by omega⟩
 have := Nat.two_pow_add_eq_or_of_lt (i := 6) (b := n) (by omega) a
 rw [show (2 : Nat) ^ 6 = 64 from rfl] at this
 have e := zod (64 * a) n (by omega) (by omega)
 rw [show (((64 * a : Nat)) : Int) = (a : Int) * 64 from by omega] at e
 rw [e, ← this]
 omega
/-- The units from a place on. -/
def qhh (l : List UInt8) (i : Nat) : List (Int × Int) := xy (l.length - i) i (l.drop i)
theorem qyb (l : List UInt8) : qhh l 0 = jq l := by unfold qhh jq; rw [List.drop_zero, Nat.sub_zero]
theorem qyc {l : List UInt8} {i : Nat} (h : ¬ i < l.length) : qhh l i = [] := by unfold qhh; rw [show l.length - i = 0 from by omega]; rfl
theorem qke {l : List UInt8} {i r q : Nat} (h : i < l.length) (e : decodeN (l.length - i) (l.getD i 0).toNat (l.getD (i + 1) 0).toNat (l.getD (i + 2) 0).toNat (l.getD (i + 3) 0).toNat = (r, q)) : qhh l i = ((i : Int), uR r q) :: qhh l (i + q) := by
 have hne : l.drop i ≠ [] := fun k => by
  have := congrArg List.length k
  rw [List.length_drop, List.length_nil] at this
  omega
 have hd : decodeL (l.drop i) = (r, q) := by
  rw [decodeL_N, uq, uq, uq, uq, List.length_drop]
  exact e
 have hw := xl _ hne
 rw [hd, List.length_drop] at hw
 simp only at hw
 unfold qhh
 obtain ⟨m, hm⟩ : ∃ m, l.length - i = m + 1 := ⟨l.length - i - 1, by omega⟩
 rw [hm, qhg hne, hd, List.drop_drop]
 simp only
 rw [qae m (l.length - (i + q)) _ _ (by rw [List.length_drop]; omega) (by rw [List.length_drop]; omega)]
/-- What the first byte of a character says. -/
def LeadU (x n : Nat) (r : Int) : Prop := (x < 128 ∧ n = 1 ∧ r = x) ∨ (192 ≤ x ∧ x < 224 ∧ n = 2 ∧ r = x % 32) ∨ (224 ≤ x ∧ x < 240 ∧ n = 3 ∧ r = x % 16) ∨ (240 ≤ x ∧ x < 248 ∧ n = 4 ∧ r = x % 8) ∨ ((128 ≤ x ∧ x < 192 ∨ 248 ≤ x) ∧ n = 0 ∧ r = 0)
/-- The bytes behind it, so far. -/
def ContU (len i n : Nat) (b1 b2 b3 : Nat) (r : Int) (k : Nat) (rk : Int) (ok : Bool) : Prop := (ok = true ∧ 0 < n ∧ i + n ≤ len ∧ k ≤ n ∧ ((k = 1 ∧ rk = r) ∨ (k = 2 ∧ b1 / 64 = 2 ∧ rk = r * 64 + ((b1 % 64 : Nat) : Int)) ∨ (k = 3 ∧ b1 / 64 = 2 ∧ b2 / 64 = 2 ∧ rk = (r * 64 + ((b1 % 64 : Nat) : Int)) * 64 + ((b2 % 64 : Nat) : Int)) ∨ (k = 4 ∧ b1 / 64 = 2 ∧ b2 / 64 = 2 ∧ b3 / 64 = 2 ∧ rk = ((r * 64 + ((b1 % 64 : Nat) : Int)) * 64 + ((b2 % 64 : Nat) : Int)) * 64 + ((b3 % 64 : Nat) : Int)))) ∨
 (ok = false ∧ (¬ (0 < n ∧ i + n ≤ len) ∨ (1 < n ∧ b1 / 64 ≠ 2) ∨ (2 < n ∧ b2 / 64 ≠ 2) ∨ (3 < n ∧ b3 / 64 ≠ 2)))
def qdj (n : Nat) : Int := if n = 2 then 128 else if n = 3 then 2048 else 65536
theorem zhd {n : Nat} (h0 : 2 ≤ n) (h1 : n ≤ 4) : ([.int .i32 0, .int .i32 0, .int .i32 128, .int .i32 2048, .int .i32 65536] : List Value)[n * 1]? = some (.int .i32 (qdj n)) := by
 have h : n = 2 ∨ n = 3 ∨ n = 4 := by omega
 rcases h with rfl | rfl | rfl <;> rfl
theorem zpb {x n : Nat} {r : Int} (h : LeadU x n r) : n ≤ 4 ∧ 0 ≤ r ∧ r ≤ 127 ∧ (1 < n → r ≤ 31) := by unfold LeadU at h; omega
theorem qyd {len i n b1 b2 b3 : Nat} {r : Int} {ok : Bool} (h : ok = decide (0 < n ∧ i + n ≤ len)) : ContU len i n b1 b2 b3 r 1 r ok := by
 unfold ContU
 by_cases k : 0 < n ∧ i + n ≤ len
 ·
  exact .inl ⟨by rw [h, decide_eq_true k], k.1, k.2, by omega, .inl ⟨rfl, rfl⟩⟩
 ·
  exact .inr ⟨by rw [h, decide_eq_false k], .inl k⟩
theorem zch {l : List UInt8} {i n k : Nat} {r rk : Int} (hn : n ≤ 4) (h : ContU l.length i n (l.getD (i + 1) 0).toNat (l.getD (i + 2) 0).toNat (l.getD (i + 3) 0).toNat r k rk true) (hk : k < n) : ContU l.length i n (l.getD (i + 1) 0).toNat (l.getD (i + 2) 0).toNat (l.getD (i + 3) 0).toNat r (k + 1) (rk * 64 + (((l.getD (i + k) 0).toNat : Nat) : Int) % 64) ((((l.getD (i + k) 0).toNat : Nat) : Int) / 64 == 2) := by
 rcases h with ⟨_, h1, h2, h3, h4⟩ | ⟨h, _⟩
 ·
  unfold ContU
  have e : k = 1 ∨ k = 2 ∨ k = 3 := by omega
  rcases e with rfl | rfl | rfl
  ·
   by_cases hb : (((l.getD (i + 1) 0).toNat : Nat) : Int) / 64 = 2
   ·
    exact .inl ⟨beq_iff_eq.2 hb, h1, h2, by omega, by omega⟩
   ·
    exact .inr ⟨beq_eq_false_iff_ne.2 hb, by omega⟩
  ·
   by_cases hb : (((l.getD (i + 2) 0).toNat : Nat) : Int) / 64 = 2
   ·
    exact .inl ⟨beq_iff_eq.2 hb, h1, h2, by omega, by omega⟩
   ·
    exact .inr ⟨beq_eq_false_iff_ne.2 hb, by omega⟩
  ·
   by_cases hb : (((l.getD (i + 3) 0).toNat : Nat) : Int) / 64 = 2
   ·
    exact .inl ⟨beq_iff_eq.2 hb, h1, h2, by omega, by omega⟩
   ·
    exact .inr ⟨beq_eq_false_iff_ne.2 hb, by omega⟩
 ·
  cases h
theorem kz {len i n b1 b2 b3 k : Nat} {r rk : Int} (h : ContU len i n b1 b2 b3 r k rk true) : 0 < n ∧ i + n ≤ len ∧ k ≤ n ∧ 1 ≤ k ∧ (0 ≤ r → r ≤ 31 → k ≤ 3 → 0 ≤ rk ∧ rk ≤ 200000) ∧ (0 ≤ r → r ≤ 31 → 0 ≤ rk ∧ rk ≤ 20000000) ∧ (k = 1 → rk = r) := by
 rcases h with ⟨_, h1, h2, h3, h4⟩ | ⟨h, _⟩
 ·
  omega
 ·
  cases h
def EndU (len i n : Nat) (b0 b1 b2 b3 : Nat) (rk : Int) (ok : Bool) : Prop := (ok = true ∧ decodeN (len - i) b0 b1 b2 b3 = (rk.toNat, n) ∧ uR rk.toNat n = rk ∧ 0 ≤ rk ∧ 1 ≤ n ∧ i + n ≤ len) ∨ (ok = false ∧ decodeN (len - i) b0 b1 b2 b3 = (65533, 1))
set_option maxHeartbeats 1000000 in
theorem qye {len i n b0 b1 b2 b3 : Nat} {r rk : Int} (hi : i < len) (h0 : b0 < 256) (hL : LeadU b0 n r) (hC : ContU len i n b1 b2 b3 r n rk true) (h : n = 1 ∨ (qdj n ≤ rk ∧ rk ≤ 1114111 ∧ (rk < 55296 ∨ 57343 < rk))) : EndU len i n b0 b1 b2 b3 rk true := by
 rcases hC with ⟨_, h1, h2, h3, h4⟩ | ⟨h, _⟩
 ·
  unfold LeadU at hL
  unfold qdj at h
  have hn : n = 1 ∨ n = 2 ∨ n = 3 ∨ n = 4 := by omega
  refine .inl ⟨rfl, ?_, ?_, by rcases hn with rfl | rfl | rfl | rfl <;> omega, h1, h2⟩
  ·
   unfold decodeN
   rcases hn with rfl | rfl | rfl | rfl
   ·
    rw [if_pos (by omega)]
    exact Prod.ext (by show b0 = rk.toNat; omega) rfl
   ·
    simp only [if_true] at h
    rw [if_neg (by omega), if_pos (by omega), if_pos (by omega)]
    exact Prod.ext (by show (_ : Nat) = rk.toNat; omega) rfl
   ·
    rw [if_neg (show ¬ 3 = 2 by decide), if_pos rfl] at h
    rw [if_neg (by omega), if_neg (by omega), if_pos (by omega), if_pos (by omega)]
    exact Prod.ext (by show (_ : Nat) = rk.toNat; omega) rfl
   ·
    rw [if_neg (show ¬ 4 = 2 by decide), if_neg (show ¬ 4 = 3 by decide)] at h
    rw [if_neg (by omega), if_neg (by omega), if_neg (by omega), if_pos (by omega), if_pos (by omega)]
    exact Prod.ext (by show (_ : Nat) = rk.toNat; omega) rfl
  ·
   unfold uR
   rw [if_neg (by rcases hn with rfl | rfl | rfl | rfl <;> omega)]
   rcases hn with rfl | rfl | rfl | rfl <;> omega
 ·
  cases h
set_option maxHeartbeats 1000000 in
theorem qrh {len i n b0 b1 b2 b3 k : Nat} {r rk : Int} {ok : Bool} (hi : i < len) (h0 : b0 < 256) (hL : LeadU b0 n r) (hC : ContU len i n b1 b2 b3 r k rk ok) (hk : ok = true → k = n) (h : ok = false ∨ (n ≠ 1 ∧ ¬ (qdj n ≤ rk ∧ rk ≤ 1114111 ∧ (rk < 55296 ∨ 57343 < rk)))) : EndU len i n b0 b1 b2 b3 rk false := by
 refine .inr ⟨rfl, ?_⟩
 unfold LeadU at hL
 unfold decodeN
 rcases hC with ⟨hb, h1, h2, h3, h4⟩ | ⟨hb, h4⟩
 ·
  have hkn := hk hb
  subst hkn
  rcases h with h | ⟨h5, h6⟩
  ·
   rw [hb] at h; cases h
  ·
   have hn : k = 2 ∨ k = 3 ∨ k = 4 := by omega
   unfold qdj at h6
   rcases hn with rfl | rfl | rfl
   ·
    simp only [if_true] at h6
    rw [if_neg (by omega), if_pos (by omega), if_neg (by omega)]
   ·
    rw [if_neg (show ¬ 3 = 2 by decide), if_pos rfl] at h6
    rw [if_neg (by omega), if_neg (by omega), if_pos (by omega), if_neg (by omega)]
   ·
    rw [if_neg (show ¬ 4 = 2 by decide), if_neg (show ¬ 4 = 3 by decide)] at h6
    rw [if_neg (by omega), if_neg (by omega), if_neg (by omega), if_pos (by omega), if_neg (by omega)]
 ·
  rw [if_neg (by omega), if_neg (by omega), if_neg (by omega), if_neg (by omega)]
set_option maxHeartbeats 4000000 in
theorem zci {w : World} {so : Option Addr} {cap : Nat} {l : List UInt8} (hb : Rb w so l) (hlen : l.length ≤ 2000000) : Calls Tryz.prog 104 #[.slice so l.length cap] w fun e w' => ∃ v, e = .returned v ∧ Mg w w' [.row 96 3 v (jq l).length (ju (jq l))] := by
 have M : Mg w w ([]) := Mg.start w
 refine qm (l := [(0, .slice so l.length cap)]) Tryz.func104 rfl Tryz.ntmps104 rfl rfl ?_
 intro Q hret hnorm hP a A
 refine wsk fun K1 hK1 => wrl (sda A λa A↦?_)
 refine qa (hK1 _ _ (wsk fun K2 hK2 => wrl (yj (e := 96) (sz := 3) (m := 0) (vs := []) A M rfl rfl rfl (qr rfl (by kernel_rfl)) rfl rfl (.inl (by decide)) ?_)))
 intro g3 w4 M a A
 refine sda A λa A↦?_
 refine qa (hK2 _ _ (wsk fun K5 hK5 => wsk fun K6 hK6 => wrl (sda A λa A↦?_)))
 refine qa (hK6 _ _ (wp_block (zt (fun m_ a w1 => ∃ (i : Nat) (acc : List (Int × Int)) (vo : Value), m_ = l.length - i ∧ (acc ++ qhh l i = jq l ∧ i ≤ l.length ∧ acc.length ≤ i) ∧ Sl a 122 [(0, .slice so l.length cap), (2, .slice none 0 0), (3, vo), (4, .int .i64 (((i : Nat) : Int))), (12, .slice (some ⟨g3, 0, none⟩) 0 0)] ∧ Mg w w1 (.row 96 3 (vo) acc.length ((ju acc)) :: [])) _ ⟨0, [], .slice (some ⟨g3, 0, none⟩) 0 0, rfl, ⟨by rw [qyb]; rfl, Nat.zero_le _, Nat.le_refl _⟩, A.keep _ ⟨rfl, rfl, rfl, rfl, rfl, trivial⟩, M⟩ ?_)))
 clear M A
 rintro m_ a w7 ⟨i, acc, vo, rfl, hinv9, A, M⟩ K8 hK8
 obtain ⟨hrun, hi9, hacc⟩ := hinv9
 refine wsk fun K10 hK10 => wsk fun K11 hK11 => wrl ?_
 iterate 2 refine sdm A λa A↦?_
 refine sdo A (qx Tryz.underlying27 rfl) λa A↦?_
 rcases tf (decide (((i : Nat) : Int) < ((l.length : Nat) : Int))) with hb12 | hb12
 ·
  have hb12' := of_decide_eq_true hb12
  refine sdc A zg hb12 λa A↦?_
  refine qa (hK11 _ _ (wp_cond_true (A.ev rfl) ?_))
  refine wp_skip (hK10 _ _ (wp_block (wsk fun K13 hK13 => wrl ?_)))
  iterate 2 refine sda A λa A↦?_
  refine qa (hK13 _ _ (wsk fun K14 hK14 => ?_))
  have hi8 : i < l.length := by omega
  refine wrl ?_
  iterate 2 refine sdm A λa A↦?_
  obtain ⟨bx, ox, hx1, hx2, hx3⟩ := qfg (i := i) hb (by omega)
  have hu9 := (l.getD (i) 0).toNat_lt
  refine sdo (v := .pointer (some ⟨bx, ox + (i), none⟩)) A (jf (k := i) Tryz.underlying27 (by kernel_rfl) rfl rfl rfl hx1 (by omega)) λa A↦?_
  refine sdo (v := .int .u8 ((((l.getD i 0).toNat : Nat) : Int))) A (qej M hx2 (hx3 (i) (by omega)) TrU_is1_5 rfl) λa A↦?_
  refine sda A λa A↦?_
  refine qa (hK14 _ _ (wsk fun K15 hK15 => ?_))
  have hJ16 : ∀ a w1, (∃ (n : Nat) (r : Int), (LeadU (l.getD i 0).toNat n r) ∧ Sl a 122 [(0, .slice so l.length cap), (2, .slice none 0 0), (3, vo), (4, .int .i64 (((i : Nat) : Int))), (5, .int .i64 (((n : Nat) : Int))), (6, .int .i32 r), (12, .slice (some ⟨g3, 0, none⟩) 0 0), (13, .int .i64 (((i : Nat) : Int))), (14, .slice so l.length cap), (15, .int .i64 (((l.length : Nat) : Int))), (16, .bool true), (17, .slice so l.length cap), (18, .int .i64 (((i : Nat) : Int))), (19, .pointer (some ⟨bx, ox + (i), none⟩)), (20, .int .u8 ((((l.getD i 0).toNat : Nat) : Int)))] ∧ Mg w w1 (.row 96 3 (vo) acc.length ((ju acc)) :: [])) → K15 a w1 := by
   clear A M
   rintro a w17 ⟨n, r, hf18, A, M⟩
   have hL := hf18
   have hn4 := zpb hL
   refine hK15 _ _ (wsk fun K19 hK19 => ?_)
   have hJ20 : ∀ a w1, (∃ (ok : Bool), (ok = decide (0 < n ∧ i + n ≤ l.length)) ∧ Sl a 122 [(0, .slice so l.length cap), (2, .slice none 0 0), (3, vo), (4, .int .i64 (((i : Nat) : Int))), (5, .int .i64 (((n : Nat) : Int))), (6, .int .i32 r), (8, .bool ok), (12, .slice (some ⟨g3, 0, none⟩) 0 0), (13, .int .i64 (((i : Nat) : Int))), (14, .slice so l.length cap), (15, .int .i64 (((l.length : Nat) : Int))), (16, .bool true), (17, .slice so l.length cap), (18, .int .i64 (((i : Nat) : Int))), (19, .pointer (some ⟨bx, ox + (i), none⟩)), (20, .int .u8 ((((l.getD i 0).toNat : Nat) : Int)))] ∧ Mg w w1 (.row 96 3 (vo) acc.length ((ju acc)) :: [])) → K19 a w1 := by
    clear A M
    rintro a w21 ⟨ok, hf22, A, M⟩
    have hok := hf22
    refine hK19 _ _ (wsk fun K23 hK23 => ?_)
    have hJ24 : ∀ a w1, (∃ (k : Nat) (rk : Int) (ok3 : Bool), (ContU l.length i n (l.getD (i + 1) 0).toNat (l.getD (i + 2) 0).toNat (l.getD (i + 3) 0).toNat r k rk ok3 ∧ (ok3 = true → k = n)) ∧ Sl a 122 [(0, .slice so l.length cap), (2, .slice none 0 0), (3, vo), (4, .int .i64 (((i : Nat) : Int))), (5, .int .i64 (((n : Nat) : Int))), (6, .int .i32 rk), (8, .bool ok3), (12, .slice (some ⟨g3, 0, none⟩) 0 0), (13, .int .i64 (((i : Nat) : Int))), (14, .slice so l.length cap), (15, .int .i64 (((l.length : Nat) : Int))), (16, .bool true), (17, .slice so l.length cap), (18, .int .i64 (((i : Nat) : Int))), (19, .pointer (some ⟨bx, ox + (i), none⟩)), (20, .int .u8 ((((l.getD i 0).toNat : Nat) : Int)))] ∧ Mg w w1 (.row 96 3 (vo) acc.length ((ju acc)) :: [])) → K23 a w1 := by
     clear A M
     rintro a w25 ⟨k, rk, ok3, hf26, A, M⟩
     obtain ⟨hC, hkn⟩ := hf26
     refine hK23 _ _ (wsk fun K27 hK27 => ?_)
     have hJ28 : ∀ a w1, (∃ (ok4 : Bool), (EndU l.length i n (l.getD i 0).toNat (l.getD (i + 1) 0).toNat (l.getD (i + 2) 0).toNat (l.getD (i + 3) 0).toNat rk ok4) ∧ Sl a 122 [(0, .slice so l.length cap), (2, .slice none 0 0), (3, vo), (4, .int .i64 (((i : Nat) : Int))), (5, .int .i64 (((n : Nat) : Int))), (6, .int .i32 rk), (8, .bool ok4), (12, .slice (some ⟨g3, 0, none⟩) 0 0), (13, .int .i64 (((i : Nat) : Int))), (14, .slice so l.length cap), (15, .int .i64 (((l.length : Nat) : Int))), (16, .bool true), (17, .slice so l.length cap), (18, .int .i64 (((i : Nat) : Int))), (19, .pointer (some ⟨bx, ox + (i), none⟩)), (20, .int .u8 ((((l.getD i 0).toNat : Nat) : Int)))] ∧ Mg w w1 (.row 96 3 (vo) acc.length ((ju acc)) :: [])) → K27 a w1 := by
      clear A M
      rintro a w29 ⟨ok4, hf30, A, M⟩
      have hE := hf30
      refine hK27 _ _ (wsk fun K31 hK31 => wrl (sdm A λa A↦?_))
      refine qa (hK31 _ _ ?_)
      refine wp_cond_split (t := ok4) (A.ev rfl) (fun hc32 => ?_) (fun hc32 => ?_)
      ·
       refine wsk fun K33 hK33 => wrl ?_
       iterate 3 refine sdm A λa A↦?_
       refine sdo (v := .agg #[.int .i32 rk, .bool false, .int .i64 (((i : Nat) : Int))]) A (jb rfl (fun w => by kernel_rfl)) λa A↦?_
       refine yj (e := 96) (sz := 3) (m := 1) (vs := [.int .i32 rk, .bool false, .int .i64 (((i : Nat) : Int))]) A M rfl rfl rfl (qr rfl (by kernel_rfl)) rfl rfl (.inl (by decide)) ?_
       intro g34 w35 M a A
       refine qbe (e := 96) (sz := 3) (k := 1) (q := acc.length) (m := 1) (xs := (ju acc)) (news := [.int .i32 rk, .bool false, .int .i64 (((i : Nat) : Int))]) (L' := fun v36 => (.row 96 3 (.slice (some ⟨g34, 0, none⟩) 1 1) 1 ([.int .i32 rk, .bool false, .int .i64 (((i : Nat) : Int))]) :: .row 96 3 (v36) (acc.length + 1) ((ju acc) ++ [.int .i32 rk, .bool false, .int .i64 (((i : Nat) : Int))]) :: [])) A rfl rfl rfl (qbd (z := .agg #[.int .i32 0, .bool false, .int .i64 0]) (sz := 3) (by_ := 16) Tryz.underlying93 (by kernel_rfl) rfl rfl rfl M 1 rfl rfl 0 rfl rfl rfl rfl (by omega)) (fun _ => rfl) ?_
       intro v36 w37 M a A
       refine sda A λa A↦?_
       refine qa (hK33 _ _ (wrl ?_))
       iterate 2 refine sdm A λa A↦?_
       refine sdo (v := .int .i64 (((i + n : Nat) : Int))) A (qe rfl rfl (ar_add ((in_i64 (by omega) (by omega)).trans (by omega)))) λa A↦?_
       refine sda A λa A↦?_
       refine qa ?_
       obtain ⟨hd, hr9, hrk, hn1, hn2⟩ : decodeN (l.length - i) (l.getD i 0).toNat (l.getD (i + 1) 0).toNat (l.getD (i + 2) 0).toNat (l.getD (i + 3) 0).toNat = (rk.toNat, n) ∧ uR rk.toNat n = rk ∧ 0 ≤ rk ∧ 1 ≤ n ∧ i + n ≤ l.length := by
        rcases hE with ⟨_, h⟩ | ⟨h, _⟩
        ·
         exact h
        ·
         rw [hc32] at h; cases h
       have hs9 := qke hi8 hd
       rw [hr9] at hs9
       replace M : Mg w w37 [.row 96 3 v36 (acc ++ [((i : Int), rk)]).length (ju (acc ++ [((i : Int), rk)]))] := by
        have h9 := M.sub (.cons _ (.cons_cons _ (.refl _)))
        have e9 : ju (acc ++ [((i : Int), rk)]) = ju acc ++ [.int .i32 rk, .bool false, .int .i64 (((i : Nat) : Int))] := by
         unfold ju
         rw [List.flatMap_append, List.flatMap_singleton]
         rw [if_neg (show ¬ _ = (-1 : Int) by simp only; omega)]
        rw [e9, List.length_append]
        exact h9
       refine hK8 _ _ _ (by omega) ⟨i + n, acc ++ [((i : Int), rk)], v36, rfl, ⟨by rw [← hrun, hs9, List.append_assoc]; rfl, by omega, by rw [List.length_append]; simp only [List.length_cons, List.length_nil]; omega⟩, A.keep _ ⟨rfl, rfl, rfl, rfl, rfl, trivial⟩, M⟩
      ·
       refine wsk fun K38 hK38 => wrl ?_
       iterate 2 refine sdm A λa A↦?_
       refine sdo (v := .agg #[.int .i32 0, .bool true, .int .i64 (((i : Nat) : Int))]) A (jb rfl (fun w => by kernel_rfl)) λa A↦?_
       refine yj (e := 96) (sz := 3) (m := 1) (vs := [.int .i32 0, .bool true, .int .i64 (((i : Nat) : Int))]) A M rfl rfl rfl (qr rfl (by kernel_rfl)) rfl rfl (.inl (by decide)) ?_
       intro g39 w40 M a A
       refine qbe (e := 96) (sz := 3) (k := 1) (q := acc.length) (m := 1) (xs := (ju acc)) (news := [.int .i32 0, .bool true, .int .i64 (((i : Nat) : Int))]) (L' := fun v41 => (.row 96 3 (.slice (some ⟨g39, 0, none⟩) 1 1) 1 ([.int .i32 0, .bool true, .int .i64 (((i : Nat) : Int))]) :: .row 96 3 (v41) (acc.length + 1) ((ju acc) ++ [.int .i32 0, .bool true, .int .i64 (((i : Nat) : Int))]) :: [])) A rfl rfl rfl (qbd (z := .agg #[.int .i32 0, .bool false, .int .i64 0]) (sz := 3) (by_ := 16) Tryz.underlying93 (by kernel_rfl) rfl rfl rfl M 1 rfl rfl 0 rfl rfl rfl rfl (by omega)) (fun _ => rfl) ?_
       intro v41 w42 M a A
       refine sda A λa A↦?_
       refine qa (hK38 _ _ (wrl (sdm A λa A↦?_)))
       refine sdo (v := .int .i64 (((i + 1 : Nat) : Int))) A (qe rfl rfl (ar_add ((in_i64 (by omega) (by omega)).trans (by omega)))) λa A↦?_
       refine sda A λa A↦?_
       refine qa ?_
       have hd : decodeN (l.length - i) (l.getD i 0).toNat (l.getD (i + 1) 0).toNat (l.getD (i + 2) 0).toNat (l.getD (i + 3) 0).toNat = (65533, 1) := by
        rcases hE with ⟨h, _⟩ | ⟨_, h⟩
        ·
         rw [hc32] at h; cases h
        ·
         exact h
       have hr9 : uR 65533 1 = -1 := by unfold uR; rw [if_pos ⟨rfl, by decide⟩]
       have hs9 := qke hi8 hd
       rw [hr9] at hs9
       replace M : Mg w w42 [.row 96 3 v41 (acc ++ [((i : Int), (-1))]).length (ju (acc ++ [((i : Int), (-1))]))] := by
        have h9 := M.sub (.cons _ (.cons_cons _ (.refl _)))
        have e9 : ju (acc ++ [((i : Int), (-1))]) = ju acc ++ [.int .i32 0, .bool true, .int .i64 (((i : Nat) : Int))] := by
         unfold ju
         rw [List.flatMap_append, List.flatMap_singleton]
         rw [if_pos rfl]
        rw [e9, List.length_append]
        exact h9
       refine hK8 _ _ _ (by omega) ⟨i + 1, acc ++ [((i : Int), (-1))], v41, rfl, ⟨by rw [← hrun, hs9, List.append_assoc]; rfl, by omega, by rw [List.length_append]; simp only [List.length_cons, List.length_nil]; omega⟩, A.keep _ ⟨rfl, rfl, rfl, rfl, rfl, trivial⟩, M⟩
     refine wsk fun K43 hK43 => wrl ?_
     iterate 2 refine sdm A λa A↦?_
     rcases ok3 with _ | _
     ·
      iterate 2 refine qh A rfl rfl rfl λa A↦?_
      refine sdk (v := .bool false) A λa A↦?_
      refine qa (hK43 _ _ (wp_cond_false (A.ev rfl) ?_))
      refine wp_skip ?_
      replace M : Mg w w25 (.row 96 3 (vo) acc.length ((ju acc)) :: []) := by
       have h9 := M.sub (.cons_cons _ (.refl _))
       exact h9
      exact hJ28 _ _ ⟨false, qrh hi8 ((l.getD i 0).toNat_lt) hL hC hkn (.inl rfl), A.keep _ ⟨rfl, rfl, rfl, rfl, rfl, rfl, rfl, rfl, rfl, rfl, rfl, rfl, rfl, rfl, rfl, rfl, trivial⟩, M⟩
     ·
      refine sdm A λa A↦?_
      rcases tf (decide (1 < ((n : Nat) : Int))) with hb44 | hb44
      ·
       have hb44' := of_decide_eq_true hb44
       refine sdc A je hb44 λa A↦?_
       refine sdk (v := .bool true) A λa A↦?_
       refine qa (hK43 _ _ (wp_cond_true (A.ev rfl) ?_))
       refine wsk fun K45 hK45 => wrl (yj (e := 21) (sz := 1) (m := 5) (vs := [.int .i32 0, .int .i32 0, .int .i32 128, .int .i32 2048, .int .i32 65536]) A M rfl rfl rfl (qr rfl (by kernel_rfl)) rfl rfl (.inl (by decide)) ?_)
       intro g46 w47 M a A
       refine sda A λa A↦?_
       refine qa (hK45 _ _ ?_)
       have hc9 := kz hC
       refine wrl ?_
       iterate 3 refine sdm A λa A↦?_
       refine sdo (v := .pointer (some ⟨g46, n * 1, none⟩)) A (qhf (k := n) Tryz.underlying70 (by kernel_rfl) rfl rfl rfl (by omega)) λa A↦?_
       refine sdo (v := .int .i32 (qdj n)) A (qfa M 0 rfl (zhd (by omega) (by omega)) TrU_is1_21 rfl) λa A↦?_
       rcases tf (decide (qdj n ≤ rk)) with hb48 | hb48
       ·
        have hb48' := of_decide_eq_true hb48
        refine sdc A jh hb48 λa A↦?_
        iterate 2 refine sdm A λa A↦?_
        rcases tf (decide (rk ≤ 1114111)) with hb49 | hb49
        ·
         have hb49' := of_decide_eq_true hb49
         refine sdc A vf hb49 λa A↦?_
         refine sdk (v := .bool true) A λa A↦?_
         iterate 2 refine sdm A λa A↦?_
         rcases tf (decide (rk < 55296)) with hb50 | hb50
         ·
          have hb50' := of_decide_eq_true hb50
          refine sdc A zg hb50 λa A↦?_
          refine sdm A λa A↦?_
          iterate 2 refine qh A rfl rfl rfl λa A↦?_
          iterate 2 refine sdk (v := .bool true) A λa A↦?_
          refine sda A λa A↦?_
          refine qa ?_
          replace M : Mg w w47 (.row 96 3 (vo) acc.length ((ju acc)) :: []) := by
           have h9 := M.sub (.cons _ (.cons_cons _ (.refl _)))
           exact h9
          have hc8 := kz hC
          exact hJ28 _ _ ⟨true, qye hi8 ((l.getD i 0).toNat_lt) hL (hkn rfl ▸ hC) (by omega), A.keep _ ⟨rfl, rfl, rfl, rfl, rfl, rfl, rfl, rfl, rfl, rfl, rfl, rfl, rfl, rfl, rfl, rfl, trivial⟩, M⟩
         ·
          have hb50' := of_decide_eq_false hb50
          refine sdc A zg hb50 λa A↦?_
          iterate 2 refine sdm A λa A↦?_
          rcases tf (decide (57343 < rk)) with hb51 | hb51
          ·
           have hb51' := of_decide_eq_true hb51
           refine sdc A je hb51 λa A↦?_
           iterate 2 refine sdk (v := .bool true) A λa A↦?_
           refine sda A λa A↦?_
           refine qa ?_
           replace M : Mg w w47 (.row 96 3 (vo) acc.length ((ju acc)) :: []) := by
            have h9 := M.sub (.cons _ (.cons_cons _ (.refl _)))
            exact h9
           have hc8 := kz hC
           exact hJ28 _ _ ⟨true, qye hi8 ((l.getD i 0).toNat_lt) hL (hkn rfl ▸ hC) (by omega), A.keep _ ⟨rfl, rfl, rfl, rfl, rfl, rfl, rfl, rfl, rfl, rfl, rfl, rfl, rfl, rfl, rfl, rfl, trivial⟩, M⟩
          ·
           have hb51' := of_decide_eq_false hb51
           refine sdc A je hb51 λa A↦?_
           iterate 2 refine sdk (v := .bool false) A λa A↦?_
           refine sda A λa A↦?_
           refine qa ?_
           replace M : Mg w w47 (.row 96 3 (vo) acc.length ((ju acc)) :: []) := by
            have h9 := M.sub (.cons _ (.cons_cons _ (.refl _)))
            exact h9
           have hc8 := kz hC
           exact hJ28 _ _ ⟨false, qrh hi8 ((l.getD i 0).toNat_lt) hL hC hkn (.inr ⟨by omega, by omega⟩), A.keep _ ⟨rfl, rfl, rfl, rfl, rfl, rfl, rfl, rfl, rfl, rfl, rfl, rfl, rfl, rfl, rfl, rfl, trivial⟩, M⟩
        ·
         have hb49' := of_decide_eq_false hb49
         refine sdc A vf hb49 λa A↦?_
         refine sdk (v := .bool false) A λa A↦?_
         refine sdm A λa A↦?_
         iterate 3 refine qh A rfl rfl rfl λa A↦?_
         iterate 2 refine yb A rfl rfl rfl λa A↦?_
         refine qh A rfl rfl rfl λa A↦?_
         refine sdk (v := .bool false) A λa A↦?_
         refine sda A λa A↦?_
         refine qa ?_
         replace M : Mg w w47 (.row 96 3 (vo) acc.length ((ju acc)) :: []) := by
          have h9 := M.sub (.cons _ (.cons_cons _ (.refl _)))
          exact h9
         have hc8 := kz hC
         exact hJ28 _ _ ⟨false, qrh hi8 ((l.getD i 0).toNat_lt) hL hC hkn (.inr ⟨by omega, by omega⟩), A.keep _ ⟨rfl, rfl, rfl, rfl, rfl, rfl, rfl, rfl, rfl, rfl, rfl, rfl, rfl, rfl, rfl, rfl, trivial⟩, M⟩
       ·
        have hb48' := of_decide_eq_false hb48
        refine sdc A jh hb48 λa A↦?_
        refine sdm A λa A↦?_
        iterate 2 refine qh A rfl rfl rfl λa A↦?_
        refine sdk (v := .bool false) A λa A↦?_
        refine sdm A λa A↦?_
        iterate 3 refine qh A rfl rfl rfl λa A↦?_
        iterate 2 refine yb A rfl rfl rfl λa A↦?_
        refine qh A rfl rfl rfl λa A↦?_
        refine sdk (v := .bool false) A λa A↦?_
        refine sda A λa A↦?_
        refine qa ?_
        replace M : Mg w w47 (.row 96 3 (vo) acc.length ((ju acc)) :: []) := by
         have h9 := M.sub (.cons _ (.cons_cons _ (.refl _)))
         exact h9
        have hc8 := kz hC
        exact hJ28 _ _ ⟨false, qrh hi8 ((l.getD i 0).toNat_lt) hL hC hkn (.inr ⟨by omega, by omega⟩), A.keep _ ⟨rfl, rfl, rfl, rfl, rfl, rfl, rfl, rfl, rfl, rfl, rfl, rfl, rfl, rfl, rfl, rfl, trivial⟩, M⟩
      ·
       have hb44' := of_decide_eq_false hb44
       refine sdc A je hb44 λa A↦?_
       refine sdk (v := .bool false) A λa A↦?_
       refine qa (hK43 _ _ (wp_cond_false (A.ev rfl) ?_))
       refine wp_skip ?_
       replace M : Mg w w25 (.row 96 3 (vo) acc.length ((ju acc)) :: []) := by
        have h9 := M.sub (.cons_cons _ (.refl _))
        exact h9
       have hc8 := kz hC
       exact hJ28 _ _ ⟨true, qye hi8 ((l.getD i 0).toNat_lt) hL (hkn rfl ▸ hC) (by omega), A.keep _ ⟨rfl, rfl, rfl, rfl, rfl, rfl, rfl, rfl, rfl, rfl, rfl, rfl, rfl, rfl, rfl, rfl, trivial⟩, M⟩
    refine wsk fun K52 hK52 => wrl (sda A λa A↦?_)
    refine qa (hK52 _ _ (wp_block (zt (fun m_ a w1 => ∃ (k : Nat) (rk : Int) (ok2 : Bool), m_ = 5 - k ∧ (ContU l.length i n (l.getD (i + 1) 0).toNat (l.getD (i + 2) 0).toNat (l.getD (i + 3) 0).toNat r k rk ok2) ∧ Sl a 122 [(0, .slice so l.length cap), (2, .slice none 0 0), (3, vo), (4, .int .i64 (((i : Nat) : Int))), (5, .int .i64 (((n : Nat) : Int))), (6, .int .i32 rk), (8, .bool ok2), (9, .int .i64 (((k : Nat) : Int))), (12, .slice (some ⟨g3, 0, none⟩) 0 0), (13, .int .i64 (((i : Nat) : Int))), (14, .slice so l.length cap), (15, .int .i64 (((l.length : Nat) : Int))), (16, .bool true), (17, .slice so l.length cap), (18, .int .i64 (((i : Nat) : Int))), (19, .pointer (some ⟨bx, ox + (i), none⟩)), (20, .int .u8 ((((l.getD i 0).toNat : Nat) : Int)))] ∧ Mg w w1 (.row 96 3 (vo) acc.length ((ju acc)) :: [])) _ ⟨1, r, ok, rfl, qyd hok, A.keep _ ⟨rfl, rfl, rfl, rfl, rfl, rfl, rfl, rfl, rfl, rfl, rfl, rfl, rfl, rfl, rfl, rfl, rfl, trivial⟩, M⟩ ?_)))
    clear M A
    rintro m_ a w53 ⟨k, rk, ok2, rfl, hinv55, A, M⟩ K54 hK54
    have hC := hinv55
    refine wsk fun K56 hK56 => wsk fun K57 hK57 => wrl ?_
    iterate 2 refine sdm A λa A↦?_
    rcases ok2 with _ | _
    ·
     iterate 3 refine qh A rfl rfl rfl λa A↦?_
     refine sdk (v := .bool false) A λa A↦?_
     refine qa (hK57 _ _ (wp_cond_false (A.ev rfl) ?_))
     refine wp_exit ?_
     exact hJ24 _ _ ⟨k, rk, false, ⟨hC, fun h => by cases h⟩, A.keep _ ⟨rfl, rfl, rfl, rfl, rfl, rfl, rfl, rfl, rfl, rfl, rfl, rfl, rfl, rfl, rfl, rfl, trivial⟩, M⟩
    ·
     iterate 2 refine sdm A λa A↦?_
     rcases tf (decide (((k : Nat) : Int) < ((n : Nat) : Int))) with hb58 | hb58
     ·
      have hb58' := of_decide_eq_true hb58
      refine sdc A zg hb58 λa A↦?_
      refine sdk (v := .bool true) A λa A↦?_
      refine qa (hK57 _ _ (wp_cond_true (A.ev rfl) ?_))
      refine wp_skip (hK56 _ _ (wsk fun K59 hK59 => wp_block (wsk fun K60 hK60 => ?_)))
      have hc9 := kz hC
      refine wrl ?_
      iterate 3 refine sdm A λa A↦?_
      refine sdo (v := .int .i64 (((i + k : Nat) : Int))) A (qe rfl rfl (ar_add ((in_i64 (by omega) (by omega)).trans (by omega)))) λa A↦?_
      obtain ⟨bx, ox, hx1, hx2, hx3⟩ := qfg (i := i + k) hb (by omega)
      have hu9 := (l.getD (i + k) 0).toNat_lt
      refine sdo (v := .pointer (some ⟨bx, ox + (i + k), none⟩)) A (jf (k := i + k) Tryz.underlying27 (by kernel_rfl) rfl rfl rfl hx1 (by omega)) λa A↦?_
      refine sdo (v := .int .u8 ((((l.getD (i + k) 0).toNat : Nat) : Int))) A (qej M hx2 (hx3 (i + k) (by omega)) TrU_is1_5 rfl) λa A↦?_
      refine sda A λa A↦?_
      refine qa (hK60 _ _ (wsk fun K61 hK61 => wrl (sdm A λa A↦?_)))
      refine sdo (v := .int .u8 (((((l.getD (i + k) 0).toNat : Nat) : Int)) / 64)) A (qe rfl rfl (ar_shr (n := 6) rfl rfl rfl)) λa A↦?_
      refine sdo (v := .bool ((((((l.getD (i + k) 0).toNat : Nat) : Int)) / 64 == 2))) A (qe rfl rfl qg) λa A↦?_
      refine sda A λa A↦?_
      refine qa (hK61 _ _ (wrl (sdm A λa A↦?_)))
      refine sdo (v := .int .i32 (rk * 64)) A (qe rfl rfl (ar_shl (n := 6) rfl rfl (in_i32 (by omega) (by omega)))) λa A↦?_
      refine sdm A λa A↦?_
      refine sdo (v := .int .u8 (((((l.getD (i + k) 0).toNat : Nat) : Int)) % 64)) A (qe rfl rfl (ar_and (qrg 6 63 rfl (by decide) (by omega) (by omega)))) λa A↦?_
      refine sdo (v := .int .i32 (((((l.getD (i + k) 0).toNat : Nat) : Int)) % 64)) A (qt rfl (ar_conv Tryz.underlying5 Tryz.underlying21 (in_i32 (by omega) (by omega)))) λa A↦?_
      refine sdo (v := .int .i32 (rk * 64 + (((((l.getD (i + k) 0).toNat : Nat) : Int)) % 64))) A (qe rfl rfl (ar_or (zpa (by omega) (by omega) (by omega) (by omega)))) λa A↦?_
      refine sda A λa A↦?_
      refine qa (hK59 _ _ (wrl (sdm A λa A↦?_)))
      refine sdo (v := .int .i64 (((k + 1 : Nat) : Int))) A (qe rfl rfl (ar_add ((in_i64 (by omega) (by omega)).trans (by omega)))) λa A↦?_
      refine sda A λa A↦?_
      refine qa ?_
      refine hK54 _ _ _ (by omega) ⟨k + 1, rk * 64 + (((((l.getD (i + k) 0).toNat : Nat) : Int)) % 64), (((((l.getD (i + k) 0).toNat : Nat) : Int)) / 64 == 2), rfl, zch (by omega) hC (by omega), A.keep _ ⟨rfl, rfl, rfl, rfl, rfl, rfl, rfl, rfl, rfl, rfl, rfl, rfl, rfl, rfl, rfl, rfl, rfl, trivial⟩, M⟩
     ·
      have hb58' := of_decide_eq_false hb58
      refine sdc A zg hb58 λa A↦?_
      refine sdk (v := .bool false) A λa A↦?_
      refine qa (hK57 _ _ (wp_cond_false (A.ev rfl) ?_))
      refine wp_exit ?_
      exact hJ24 _ _ ⟨k, rk, true, ⟨hC, fun _ => by have := kz hC; omega⟩, A.keep _ ⟨rfl, rfl, rfl, rfl, rfl, rfl, rfl, rfl, rfl, rfl, rfl, rfl, rfl, rfl, rfl, rfl, trivial⟩, M⟩
   refine wrl (sdm A λa A↦?_)
   rcases tf (decide (0 < ((n : Nat) : Int))) with hb62 | hb62
   ·
    have hb62' := of_decide_eq_true hb62
    refine sdc A je hb62 λa A↦?_
    iterate 3 refine sdm A λa A↦?_
    refine sdo (v := .int .i64 (((i + n : Nat) : Int))) A (qe rfl rfl (ar_add ((in_i64 (by omega) (by omega)).trans (by omega)))) λa A↦?_
    refine sdm A λa A↦?_
    refine sdo A (qx Tryz.underlying27 rfl) λa A↦?_
    rcases tf (decide (((i + n : Nat) : Int) ≤ ((l.length : Nat) : Int))) with hb63 | hb63
    ·
     have hb63' := of_decide_eq_true hb63
     refine sdc A vf hb63 λa A↦?_
     refine sdk (v := .bool true) A λa A↦?_
     refine sda A λa A↦?_
     refine qa ?_
     exact hJ20 _ _ ⟨true, (decide_eq_true (by omega)).symm, A.keep _ ⟨rfl, rfl, rfl, rfl, rfl, rfl, rfl, rfl, rfl, rfl, rfl, rfl, rfl, rfl, rfl, rfl, trivial⟩, M⟩
    ·
     have hb63' := of_decide_eq_false hb63
     refine sdc A vf hb63 λa A↦?_
     refine sdk (v := .bool false) A λa A↦?_
     refine sda A λa A↦?_
     refine qa ?_
     exact hJ20 _ _ ⟨false, (decide_eq_false (by omega)).symm, A.keep _ ⟨rfl, rfl, rfl, rfl, rfl, rfl, rfl, rfl, rfl, rfl, rfl, rfl, rfl, rfl, rfl, rfl, trivial⟩, M⟩
   ·
    have hb62' := of_decide_eq_false hb62
    refine sdc A je hb62 λa A↦?_
    refine sdm A λa A↦?_
    iterate 6 refine qh A rfl rfl rfl λa A↦?_
    refine sdk (v := .bool false) A λa A↦?_
    refine sda A λa A↦?_
    refine qa ?_
    exact hJ20 _ _ ⟨false, (decide_eq_false (by omega)).symm, A.keep _ ⟨rfl, rfl, rfl, rfl, rfl, rfl, rfl, rfl, rfl, rfl, rfl, rfl, rfl, rfl, rfl, rfl, trivial⟩, M⟩
  refine wp_block (wsk fun K64 hK64 => wrl (sdm A λa A↦?_))
  rcases tf (decide ((((l.getD i 0).toNat : Nat) : Int) < 128)) with hb65 | hb65
  ·
   have hb65' := of_decide_eq_true hb65
   refine sdc A zg hb65 λa A↦?_
   refine sda A λa A↦?_
   refine qa (hK64 _ _ (wp_cond_true (A.ev rfl) ?_))
   refine wrl (sdm A λa A↦?_)
   refine sdo (v := .int .i32 ((((l.getD i 0).toNat : Nat) : Int))) A (qt rfl (ar_conv Tryz.underlying5 Tryz.underlying21 (in_i32 (by omega) (by omega)))) λa A↦?_
   iterate 2 refine sda A λa A↦?_
   refine qa ?_
   exact hJ16 _ _ ⟨1, (((l.getD i 0).toNat : Nat) : Int), (by unfold LeadU; omega), A.keep _ ⟨rfl, rfl, rfl, rfl, rfl, rfl, rfl, rfl, rfl, rfl, rfl, rfl, rfl, rfl, rfl, trivial⟩, M⟩
  ·
   have hb65' := of_decide_eq_false hb65
   refine sdc A zg hb65 λa A↦?_
   refine sda A λa A↦?_
   refine qa (hK64 _ _ (wp_cond_false (A.ev rfl) ?_))
   refine wsk fun K66 hK66 => wrl (sdm A λa A↦?_)
   refine sdo (v := .int .u8 (((((l.getD i 0).toNat : Nat) : Int)) / 32)) A (qe rfl rfl (ar_shr (n := 5) rfl rfl rfl)) λa A↦?_
   rcases tf ((((((l.getD i 0).toNat : Nat) : Int)) / 32 == 6)) with hb67 | hb67
   ·
    have hb67' := eq_of_beq hb67
    refine sdc A qg hb67 λa A↦?_
    refine sda A λa A↦?_
    refine qa (hK66 _ _ (wp_cond_true (A.ev rfl) ?_))
    refine wrl (sdm A λa A↦?_)
    refine sdo (v := .int .u8 (((((l.getD i 0).toNat : Nat) : Int)) % 32)) A (qe rfl rfl (ar_and (qrg 5 31 rfl (by decide) (by omega) (by omega)))) λa A↦?_
    refine sdo (v := .int .i32 (((((l.getD i 0).toNat : Nat) : Int)) % 32)) A (qt rfl (ar_conv Tryz.underlying5 Tryz.underlying21 (in_i32 (by omega) (by omega)))) λa A↦?_
    iterate 2 refine sda A λa A↦?_
    refine qa ?_
    exact hJ16 _ _ ⟨2, ((((l.getD i 0).toNat : Nat) : Int)) % 32, (by unfold LeadU; omega), A.keep _ ⟨rfl, rfl, rfl, rfl, rfl, rfl, rfl, rfl, rfl, rfl, rfl, rfl, rfl, rfl, rfl, trivial⟩, M⟩
   ·
    have hb67' := ne_of_beq_false hb67
    refine sdc A qg hb67 λa A↦?_
    refine sda A λa A↦?_
    refine qa (hK66 _ _ (wp_cond_false (A.ev rfl) ?_))
    refine wsk fun K68 hK68 => wrl (sdm A λa A↦?_)
    refine sdo (v := .int .u8 (((((l.getD i 0).toNat : Nat) : Int)) / 16)) A (qe rfl rfl (ar_shr (n := 4) rfl rfl rfl)) λa A↦?_
    rcases tf ((((((l.getD i 0).toNat : Nat) : Int)) / 16 == 14)) with hb69 | hb69
    ·
     have hb69' := eq_of_beq hb69
     refine sdc A qg hb69 λa A↦?_
     refine sda A λa A↦?_
     refine qa (hK68 _ _ (wp_cond_true (A.ev rfl) ?_))
     refine wrl (sdm A λa A↦?_)
     refine sdo (v := .int .u8 (((((l.getD i 0).toNat : Nat) : Int)) % 16)) A (qe rfl rfl (ar_and (qrg 4 15 rfl (by decide) (by omega) (by omega)))) λa A↦?_
     refine sdo (v := .int .i32 (((((l.getD i 0).toNat : Nat) : Int)) % 16)) A (qt rfl (ar_conv Tryz.underlying5 Tryz.underlying21 (in_i32 (by omega) (by omega)))) λa A↦?_
     iterate 2 refine sda A λa A↦?_
     refine qa ?_
     exact hJ16 _ _ ⟨3, ((((l.getD i 0).toNat : Nat) : Int)) % 16, (by unfold LeadU; omega), A.keep _ ⟨rfl, rfl, rfl, rfl, rfl, rfl, rfl, rfl, rfl, rfl, rfl, rfl, rfl, rfl, rfl, trivial⟩, M⟩
    ·
     have hb69' := ne_of_beq_false hb69
     refine sdc A qg hb69 λa A↦?_
     refine sda A λa A↦?_
     refine qa (hK68 _ _ (wp_cond_false (A.ev rfl) ?_))
     refine wsk fun K70 hK70 => wrl (sdm A λa A↦?_)
     refine sdo (v := .int .u8 (((((l.getD i 0).toNat : Nat) : Int)) / 8)) A (qe rfl rfl (ar_shr (n := 3) rfl rfl rfl)) λa A↦?_
     rcases tf ((((((l.getD i 0).toNat : Nat) : Int)) / 8 == 30)) with hb71 | hb71
     ·
      have hb71' := eq_of_beq hb71
      refine sdc A qg hb71 λa A↦?_
      refine sda A λa A↦?_
      refine qa (hK70 _ _ (wp_cond_true (A.ev rfl) ?_))
      refine wrl (sdm A λa A↦?_)
      refine sdo (v := .int .u8 (((((l.getD i 0).toNat : Nat) : Int)) % 8)) A (qe rfl rfl (ar_and (qrg 3 7 rfl (by decide) (by omega) (by omega)))) λa A↦?_
      refine sdo (v := .int .i32 (((((l.getD i 0).toNat : Nat) : Int)) % 8)) A (qt rfl (ar_conv Tryz.underlying5 Tryz.underlying21 (in_i32 (by omega) (by omega)))) λa A↦?_
      iterate 2 refine sda A λa A↦?_
      refine qa ?_
      exact hJ16 _ _ ⟨4, ((((l.getD i 0).toNat : Nat) : Int)) % 8, (by unfold LeadU; omega), A.keep _ ⟨rfl, rfl, rfl, rfl, rfl, rfl, rfl, rfl, rfl, rfl, rfl, rfl, rfl, rfl, rfl, trivial⟩, M⟩
     ·
      have hb71' := ne_of_beq_false hb71
      refine sdc A qg hb71 λa A↦?_
      refine sda A λa A↦?_
      refine qa (hK70 _ _ (wp_cond_false (A.ev rfl) ?_))
      refine wp_skip ?_
      exact hJ16 _ _ ⟨0, 0, (by unfold LeadU; omega), A.keep _ ⟨rfl, rfl, rfl, rfl, rfl, rfl, rfl, rfl, rfl, rfl, rfl, rfl, rfl, rfl, rfl, trivial⟩, M⟩
 ·
  have hb12' := of_decide_eq_false hb12
  refine sdc A zg hb12 λa A↦?_
  refine qa (hK11 _ _ (wp_cond_false (A.ev rfl) ?_))
  refine wp_exit (hK5 _ _ (wsk fun K72 hK72 => wrl (sdm A λa A↦?_)))
  refine sda A λa A↦?_
  refine qa (hK72 _ _ (wp_ret (hret _ _ (en1 A rfl (qf rfl) ?_))))
  rw [qyc (by omega), List.append_nil] at hrun
  subst hrun
  exact ⟨_, rfl, M⟩
theorem qbb {w : World} {B : Nat} {e : TypeId} {sz : Nat} {v : Value} {n : Nat} {xs : List Value} (h : w.ownsRow B e sz v n xs) : ∃ so cap, v = .slice so n cap := by
  rcases h.2 with ⟨rfl, rfl⟩ | ⟨g, cap, cur, rfl, _⟩
  · exact ⟨none, 0, rfl⟩
  · exact ⟨_, cap, rfl⟩
section
variable {P : Program} {w0 w : World} {L : List Ck} {l : List (Nat × Value)} {dst : Option Tmp} {ty : TypeId} {pos : String} {after : Array Edge} {guard : Option (Nat × Bool)} {v : Value}
theorem qyf {w' : World} {s d : TypeId} {x : Operand} {u : Value} (hx : ev l x = some u) (hr : (convert s d u).run P w = .ok v w') : Does P l ⟨dst, .convert s d x, ty, pos, after, guard⟩ w v w' := fun ρ h => by
  simp only [execOp, h x _ hx, Sem.run_bind, hr, Result.andThen_ok, Sem.run_pure]
theorem qfh (hM : Mg w0 w L) (k : Nat) {e : TypeId} {sz n cap : Nat} {so : Option Addr} {xs : List Value} (hk : L[k]? = some (.row e sz (.slice so n cap) n xs)) (hn : 0 < n) : ∃ g, so = some ⟨g, 0, none⟩ := by
  rcases (hM.has k hk).2 with ⟨_, h0⟩ | ⟨g, cap', cur, he, _⟩
  · omega
  · cases he; exact ⟨g, rfl⟩
theorem zy {t e : TypeId} {sz : Nat} (hu : P.underlying t = some (.slice e)) (he : (P.info? e).map (·.size) = some sz) {x i : Operand} {so : Option Addr} {g n c k : Nat} {z : Int} (hx : ev l x = some (.slice so n c)) (hi : ev l i = some (.int .i64 z)) (hz : z = (k : Nat)) (hso : so = some ⟨g, 0, none⟩) (hk : k < n) :
    Does P l ⟨dst, .indexAddr t x i, ty, pos, after, guard⟩ w (.pointer (some ⟨g, k * sz, none⟩)) w := by
  subst hso
  exact qhf hu he hx hi hz hk
theorem xq (hM : Mg w0 w L) (k : Nat) {e : TypeId} {sz g n c j : Nat} {so : Option Addr} {xs : List Value} (hk : L[k]? = some (.row e sz (.slice so n c) n xs)) (hso : so = some ⟨g, 0, none⟩) (hj : xs[j]? = some v) {t : TypeId} (ht : Is1 P t) {x : Operand} (hx : ev l x = some (.pointer (some ⟨g, j, none⟩))) : Does P l ⟨dst, .load t x, ty, pos, after, guard⟩ w v w := by
  subst hso
  exact qfa hM k hk hj ht hx
theorem zhe (hM : Mg w0 w L) (k : Nat) {e : TypeId} {sz g n c o m : Nat} {so : Option Addr} {xs cs : List Value} (hk : L[k]? = some (.row e sz (.slice so n c) n xs)) (hso : so = some ⟨g, 0, none⟩) {t : TypeId} (ht : IsS P t m) (hcs : (xs.drop o).take m = cs) (hl : cs.length = m) {x : Operand} (hx : ev l x = some (.pointer (some ⟨g, o, none⟩))) : Does P l ⟨dst, .load t x, ty, pos, after, guard⟩ w (.agg cs.toArray) w := by
  subst hso
  exact zei hM k hk ht hcs hl hx
end
section
variable {P : Program} {w0 w : World} {L : List Ck} {l : List (Nat × Value)} {ops : List Oper} {Q : Exit → Act → World → Prop} {a : Act} {n : Nat} {rest : List Oper} {d : Nat} {dst : Option Tmp} {ty : TypeId} {pos : String} {after : Array Edge} {guard : Option (Nat × Bool)}
/-- A text as bytes. -/
theorem zmc (hA : Sl a n l) (hM : Mg w0 w L) {t t' : TypeId} {x : Operand} {s : ByteArray} {o : Oper} (ho : o = ⟨dst, .convert t t' x, ty, pos, after, guard⟩) (ht : P.underlying t = some .string) (hd : P.underlying t' = some (.slice BY)) (he : P.underlying BY = some (.int .u8)) (hx : ev l x = some (.string s)) (hg : zh l ops o = true) (hdst : o.dst = some d) (hdn : Nat.blt d n = true)
    (hk : ∀ so cap w', Rb w' so s.data.toList → Mg w0 w' L → ∀ a', Sl a' n ((d, .slice so s.data.toList.length cap) :: l) → wpList P ops.toArray Q rest a' w') : wpList P ops.toArray Q (o :: rest) a w := by
  subst ho
  have hr := Go.Lib.run_convert_string_bytes (P := P) w t t' BY s ht hd he
  have hb : Below w.heap.size w (bytesWorld w BY s) := ⟨rfl, rfl, rfl, by rw [bytesWorld_size]; omega, fun j hj => bytesWorld_at_old w BY s j hj⟩
  refine vn hA hg hdst hdn (v := .slice (some ⟨w.heap.size, 0, none⟩) s.data.toList.length (grownCap w s.size 0 BY)) (w' := bytesWorld w BY s) (qyf hx (by rw [zf]; exact hr)) (hk _ _ _ ⟨fun _ => ⟨w.heap.size, 0, rfl, by rw [bytesWorld_size]; omega, fun j hj => ?_⟩⟩ (hM.call hb))
  rw [zf] at hj
  rw [Nat.zero_add]
  exact bytesWorld_cell w BY s j hj
end
theorem qkf (u : Int × Int) (us : List (Int × Int)) : ju (u :: us) = (if u.2 = -1 then [.int .i32 0, .bool true, .int .i64 u.1] else [.int .i32 u.2, .bool false, .int .i64 u.1]) ++ ju us := rfl
theorem qkg : ∀ (us : List (Int × Int)) (i f : Nat) (u : Int × Int), us[i]? = some u → f < 3 → (ju us)[i * 3 + f]? = (if u.2 = -1 then [Value.int .i32 0, .bool true, .int .i64 u.1] else [.int .i32 u.2, .bool false, .int .i64 u.1])[f]?
  | [], i, f, u, h, hf => by simp at h
  | v :: us, 0, f, u, h, hf => by
    simp only [List.getElem?_cons_zero, Option.some.injEq] at h
    subst h
    rw [qkf, Nat.zero_mul, Nat.zero_add, List.getElem?_append_left]
    split <;> exact hf
  | v :: us, i + 1, f, u, h, hf => by
    rw [List.getElem?_cons_succ] at h
    rw [qkf, List.getElem?_append_right (by split <;> (simp only [List.length_cons, List.length_nil]; omega))]
    have e : (i + 1) * 3 + f - (if v.2 = -1 then [Value.int .i32 0, .bool true, .int .i64 v.1] else [.int .i32 v.2, .bool false, .int .i64 v.1]).length = i * 3 + f := by
      split <;> (simp only [List.length_cons, List.length_nil]; omega)
    rw [e]
    exact qkg us i f u h hf
theorem zhf {us : List (Int × Int)} {i : Nat} (h : i < us.length) : ∃ ua ur, us[i]? = some (ua, ur) := ⟨_, _, List.getElem?_eq_getElem h⟩
/-! ### Encode -/
theorem qkh : ∀ (f p : Nat) (l : List UInt8), (xy f p l).length ≤ l.length
  | 0, _, _ => Nat.zero_le _
  | f + 1, p, l => by
    by_cases hl : l = []
    · subst hl; simp [xy]
    · rw [qhg hl, List.length_cons]
      have h1 := qkh f (p + (decodeL l).2) (l.drop (decodeL l).2)
      have h2 := xl l hl
      rw [List.length_drop] at h1
      omega
theorem zhg (l : List UInt8) (h : (decodeL l).1 = 65533) : (decodeL l).2 = 1 ∨ (decodeL l).2 = 3 ∨ (decodeL l).2 = 0 := by
  rw [decodeL_N] at h ⊢
  generalize (l.getD 0 0).toNat = b0 at h ⊢
  generalize (l.getD 1 0).toNat = b1 at h ⊢
  generalize (l.getD 2 0).toNat = b2 at h ⊢
  generalize (l.getD 3 0).toNat = b3 at h ⊢
  unfold decodeN at h ⊢
  repeat' split
  all_goals (simp_all)
  all_goals omega
theorem qcf : ∀ (f p : Nat) (l : List UInt8), validGoD f l = (xy f p l).all (fun u => !decide (u.2 = -1))
  | 0, p, l => rfl
  | f + 1, p, l => by
    unfold validGoD xy
    by_cases hl : l = []
    · rw [if_pos hl, if_pos hl]; rfl
    · rw [if_neg hl, if_neg hl, List.all_cons]
      have hw := xl l hl
      have h3 := zhg l
      by_cases hb : (decodeL l).1 = 65533 ∧ (decodeL l).2 = 1
      · rw [if_pos hb]
        have : uR (decodeL l).1 (decodeL l).2 = -1 := by unfold uR; rw [if_pos ⟨hb.1, by omega⟩]
        rw [this]; rfl
      · rw [if_neg hb]
        have : ¬ uR (decodeL l).1 (decodeL l).2 = -1 := by
          unfold uR
          by_cases h9 : (decodeL l).1 = 65533
          · rw [if_neg (by have := h3 h9; omega)]; omega
          · rw [if_neg (fun e => h9 e.1)]; omega
        rw [decide_eq_false this, qcf f (p + (decodeL l).2)]
        simp
theorem qng (s : ByteArray) : okS s = (jq s.data.toList).all (fun u => !decide (u.2 = -1)) := qcf _ 0 _
theorem zmd {s : ByteArray} {i : Nat} {ua ur : Int} (h : (jq s.data.toList)[i]? = some (ua, ur)) (hr : ur = -1) : okS s = false := by
  rw [qng]
  apply Bool.eq_false_iff.2
  intro k
  have := List.all_eq_true.1 k _ (List.mem_of_getElem? h)
  simp [hr] at this
theorem zhh {s : ByteArray} (h : ∀ (i : Nat) (ua ur : Int), (jq s.data.toList)[i]? = some (ua, ur) → ur ≠ -1) : okS s = true := by
  rw [qng, List.all_eq_true]
  intro u hu
  obtain ⟨i, hi⟩ := List.mem_iff_getElem?.1 hu
  simp [h i u.1 u.2 hi]
def zqh : List ByteArray := [⟨#[110, 117, 108]⟩, ⟨#[97, 108, 97, 114, 109]⟩, ⟨#[98, 97, 99, 107, 115, 112, 97, 99, 101]⟩, ⟨#[116, 97, 98]⟩, ⟨#[108, 105, 110, 101, 102, 101, 101, 100]⟩, ⟨#[110, 101, 119, 108, 105, 110, 101]⟩, ⟨#[118, 116, 97, 98]⟩, ⟨#[112, 97, 103, 101]⟩, ⟨#[114, 101, 116, 117, 114, 110]⟩, ⟨#[101, 115, 99]⟩, ⟨#[115, 112, 97, 99, 101]⟩, ⟨#[100, 101, 108, 101, 116, 101]⟩]
def zqi : List Int := [0, 7, 8, 9, 10, 10, 11, 12, 13, 27, 32, 127]
def zqj : List ByteArray := [⟨#[110, 117, 108]⟩, ⟨#[97, 108, 97, 114, 109]⟩, ⟨#[98, 97, 99, 107, 115, 112, 97, 99, 101]⟩, ⟨#[116, 97, 98]⟩, ⟨#[110, 101, 119, 108, 105, 110, 101]⟩, ⟨#[118, 116, 97, 98]⟩, ⟨#[112, 97, 103, 101]⟩, ⟨#[114, 101, 116, 117, 114, 110]⟩, ⟨#[101, 115, 99]⟩, ⟨#[115, 112, 97, 99, 101]⟩, ⟨#[100, 101, 108, 101, 116, 101]⟩]
def nmA (i : Nat) : ByteArray := zqh.getD i ⟨#[]⟩
def nuA (i : Nat) : Int := zqi.getD i 0
def nmB (i : Nat) : ByteArray := zqj.getD i ⟨#[]⟩
def nmC : List Value := zqh.map .string
def nuC : List Value := zqi.map (.int .i64)
def nmD : List Value := zqj.map .string
/-- The number of a name. -/
def qcg (s : ByteArray) : Nat → Nat → Int
  | 0, _ => -1
  | f + 1, i => if nmA i = s then nuA i else qcg s f (i + 1)
def yz (s : ByteArray) : Int := qcg s 12 0
theorem zhi {s : ByteArray} {i : Nat} (hi : i < 12) (h : nmA i = s) : qcg s (12 - i) i = nuA i := by
  obtain ⟨f, hf⟩ : ∃ f, 12 - i = f + 1 := ⟨11 - i, by omega⟩
  rw [hf, qcg, if_pos h]
theorem zme {s : ByteArray} {i : Nat} (hi : i < 12) (h : nmA i ≠ s) : qcg s (12 - i) i = qcg s (12 - (i + 1)) (i + 1) := by
  obtain ⟨f, hf⟩ : ∃ f, 12 - i = f + 1 := ⟨11 - i, by omega⟩
  rw [hf, qcg, if_neg h, show 12 - (i + 1) = f by omega]
theorem zhj {s : ByteArray} {i : Nat} (hi : ¬ i < 12) : qcg s (12 - i) i = -1 := by rw [show 12 - i = 0 by omega, qcg]
theorem zpc {i : Nat} (h : i < 12) : nmC[0 + i]? = some (.string (nmA i)) := by
  rw [Nat.zero_add]
  match i, h with
  | 0, _ | 1, _ | 2, _ | 3, _ | 4, _ | 5, _ | 6, _ | 7, _ | 8, _ | 9, _ | 10, _ | 11, _ => rfl
  | n + 12, h => omega
theorem zpd {i : Nat} (h : i < 12) : nuC[0 + i]? = some (.int .i64 (nuA i)) := by
  rw [Nat.zero_add]
  match i, h with
  | 0, _ | 1, _ | 2, _ | 3, _ | 4, _ | 5, _ | 6, _ | 7, _ | 8, _ | 9, _ | 10, _ | 11, _ => rfl
  | n + 12, h => omega
theorem zpe {i : Nat} (h : i < 11) : nmD[0 + i]? = some (.string (nmB i)) := by
  rw [Nat.zero_add]
  match i, h with
  | 0, _ | 1, _ | 2, _ | 3, _ | 4, _ | 5, _ | 6, _ | 7, _ | 8, _ | 9, _ | 10, _ => rfl
  | n + 11, h => omega
theorem zia : ∀ i : Fin 11, C.nameL (yz (nmB i.val)) = nmB i.val := by decide +kernel
theorem zcj : ∀ i : Fin 11, yz (nmB i.val) = [0, 7, 8, 9, 10, 11, 12, 13, 27, 32, 127].getD i.val 0 := by decide +kernel
theorem zda {n : Int} (h : ∀ j, j < 11 → yz (nmB j) ≠ n) : C.nameL n = ⟨#[]⟩ := by
  have k : ∀ i : Fin 11, [0, 7, 8, 9, 10, 11, 12, 13, 27, 32, 127].getD i.val 0 ≠ n := fun i => by rw [← zcj i]; exact h i.val i.isLt
  have k0 : (0 : Int) ≠ n := k 0
  have k1 : (7 : Int) ≠ n := k 1
  have k2 : (8 : Int) ≠ n := k 2
  have k3 : (9 : Int) ≠ n := k 3
  have k4 : (10 : Int) ≠ n := k 4
  have k5 : (11 : Int) ≠ n := k 5
  have k6 : (12 : Int) ≠ n := k 6
  have k7 : (13 : Int) ≠ n := k 7
  have k8 : (27 : Int) ≠ n := k 8
  have k9 : (32 : Int) ≠ n := k 9
  have k10 : (127 : Int) ≠ n := k 10
  unfold C.nameL
  rw [if_neg (Ne.symm k0), if_neg (Ne.symm k1), if_neg (Ne.symm k2), if_neg (Ne.symm k3), if_neg (Ne.symm k4), if_neg (Ne.symm k5), if_neg (Ne.symm k6), if_neg (Ne.symm k7), if_neg (Ne.symm k8), if_neg (Ne.symm k9), if_neg (Ne.symm k10)]
theorem yp (x : ByteArray) : (⟨x.data.toList.toArray⟩ : ByteArray) = x := by cases x; simp
/-- A character as a text. -/
theorem qhc {P : Program} {s d : TypeId} {k : IntKind} {n : Nat} (hs : P.underlying s = some (.int k)) (hd : P.underlying d = some .string) (h : C.OkR ((n : Nat) : Int)) : ∀ w, (convert s d (.int k ((n : Nat) : Int))).run P w = .ok (.string ⟨(encodeRune ((n : Nat) : Int)).toArray⟩) w := fun w => by
  rw [run_convert_int_string w s d k _ (by rw [hs]; rfl) hd]
  have hv : ValidR ((n : Nat) : Int) := by unfold C.OkR at h; unfold ValidR; omega
  have e := yp (Utf8.encode ((n : Nat) : Int))
  rw [encode_valid _ hv] at e
  rw [e]
theorem qug {P : Program} {t : TypeId} {x y : Operand} {a : List UInt8} {s : ByteArray} (hm : a.length + s.size ≤ 9223372036854775807) : ∀ w, (do eqGuard .add t x y (.string (bsL a)) (.string s); binOp .add t (.string (bsL a)) (.string s) : Sem Value).run P w = .ok (.string (bsL (a ++ s.data.toList))) w := by
  have h := qj (P := P) (t := t) (x := x) (y := y) (a := a) (b := s.data.toList) (by rw [zf]; exact hm)
  rwa [show bsL s.data.toList = s from yp s] at h
theorem vm {w w' : World} (h : C.Tz16 w) (hb : Below w.heap.size w w') : C.Tz16 w' := by
 unfold C.Tz16 at *
 have hlt : 5 < w.heap.size := by
  apply Classical.byContradiction
  intro k
  simp [World.cell?, Array.getElem?_eq_none (Nat.le_of_not_lt k)] at h
 rw [hb.cell hlt]
 exact h
theorem zmf {w : World} : Calls Tryz.prog 131 #[.int .i64 16] w fun e w' => e = .returned (.bool true) ∧ Below w.heap.size w w' := by
 have M : Mg w w ([]) := Mg.start w
 refine qm (l := [(0, .int .i64 16)]) Tryz.func131 rfl Tryz.ntmps131 rfl rfl ?_
 intro Q hret hnorm hP a A
 refine wsk fun K1 hK1 => wrl (sda A λa A↦?_)
 refine qa (hK1 _ _ (wsk fun K2 hK2 => wrl ?_))
 iterate 2 refine sdm A λa A↦?_
 refine sdo (v := .int .i64 15) A (qe rfl rfl (fun w => by kernel_rfl)) λa A↦?_
 refine sdo (v := .int .i64 0) A (qe rfl rfl (fun w => by kernel_rfl)) λa A↦?_
 refine sdo (v := .bool true) A (qe rfl rfl (fun w => by kernel_rfl)) λa A↦?_
 refine sda A λa A↦?_
 refine qa (hK2 _ _ (wp_ret (hret _ _ (en1 A rfl (qf rfl) ?_))))
 exact ⟨rfl, M.bel⟩
set_option maxHeartbeats 1000000 in
theorem zmg {w : World} (hz : C.Tz16 w) {n : Nat} (hn : n ≤ 1114111) : Calls Tryz.prog 117 #[.slice none 0 0, .int .u64 ((n : Nat) : Int), .int .i64 16, .bool false, .bool false] w fun e w' => e = .returned (.tuple #[.slice none 0 0, .string ⟨(C.hexD n).toArray⟩]) ∧ Below w.heap.size w w' := by
 have M : Mg w w ([]) := Mg.start w
 refine qm (l := [(0, .slice none 0 0), (1, .int .u64 (((n : Nat) : Int))), (2, .int .i64 16), (3, .bool false), (4, .bool false)]) Tryz.func117 rfl Tryz.ntmps117 rfl rfl ?_
 intro Q hret hnorm hP a A
 refine wsk fun K1 hK1 => wrl ?_
 iterate 2 refine sda A λa A↦?_
 refine qa (hK1 _ _ (wsk fun K2 hK2 => wsk fun K3 hK3 => wrl (sdm A λa A↦?_)))
 refine sdo (v := .bool false) A (qe rfl rfl (fun w => by kernel_rfl)) λa A↦?_
 iterate 2 refine sdm A λa A↦?_
 refine sdo (v := .bool false) A (qe rfl rfl (fun w => by kernel_rfl)) λa A↦?_
 refine sdk (v := .bool false) A λa A↦?_
 iterate 2 refine sdm A λa A↦?_
 refine sdo (v := .bool false) A (qe rfl rfl (fun w => by kernel_rfl)) λa A↦?_
 refine sdk (v := .bool false) A λa A↦?_
 refine qa (hK3 _ _ (wp_cond_false (A.ev rfl) ?_))
 refine wp_skip (hK2 _ _ (wsk fun K4 hK4 => wrl (xa (vs := (xt [])) (t := 129) A M rfl rfl rfl pg (zv (z := .agg #[.int .u8 0, .int .u8 0, .int .u8 0, .int .u8 0, .int .u8 0, .int .u8 0, .int .u8 0, .int .u8 0, .int .u8 0, .int .u8 0, .int .u8 0, .int .u8 0, .int .u8 0, .int .u8 0, .int .u8 0, .int .u8 0, .int .u8 0, .int .u8 0, .int .u8 0, .int .u8 0, .int .u8 0, .int .u8 0, .int .u8 0, .int .u8 0, .int .u8 0, .int .u8 0, .int .u8 0, .int .u8 0, .int .u8 0, .int .u8 0, .int .u8 0, .int .u8 0, .int .u8 0, .int .u8 0, .int .u8 0, .int .u8 0, .int .u8 0, .int .u8 0, .int .u8 0, .int .u8 0, .int .u8 0, .int .u8 0, .int .u8 0, .int .u8 0, .int .u8 0, .int .u8 0, .int .u8 0, .int .u8 0, .int .u8 0, .int .u8 0, .int .u8 0, .int .u8 0, .int .u8 0, .int .u8 0, .int .u8 0, .int .u8 0, .int .u8 0, .int .u8 0, .int .u8 0, .int .u8 0, .int .u8 0, .int .u8 0, .int .u8 0, .int .u8 0, .int .u8 0]) (by kernel_rfl) rfl) (by decide) ?_)))
 intro g5 w6 M a A
 refine qa (hK4 _ _ (wsk fun K7 hK7 => wrl (sda A λa A↦?_)))
 refine qa (hK7 _ _ (wsk fun K8 hK8 => wsk fun K9 hK9 => wrl (sdm A λa A↦?_)))
 refine qa (hK9 _ _ (wp_cond_false (A.ev rfl) ?_))
 refine wp_skip (hK8 _ _ (wsk fun K10 hK10 => wsk fun K11 hK11 => wrl (sdm A λa A↦?_)))
 refine gcl A M (ef rfl rfl) (zmf) fun w13 hb12 M a A => ?_
 refine qa (hK11 _ _ (wp_cond_true (A.ev rfl) ?_))
 refine wsk fun K14 hK14 => wrl (sdm A λa A↦?_)
 refine sdo (v := .int .u64 16) A (qt rfl (ar_conv Tryz.underlying3 Tryz.underlying109 (in_u64 (by decide) (by decide)))) λa A↦?_
 refine sct A (ef rfl rfl) (C.tz_16 _ (vm hz M.bel)) ?_
 rintro _ w15 ⟨rfl, hw9⟩
 subst hw9
 refine ⟨_, rfl, ?_⟩
 intro a A
 refine sdo (v := .int .u64 4) A (qt rfl (ar_conv Tryz.underlying3 Tryz.underlying109 (in_u64 (by decide) (by decide)))) λa A↦?_
 refine sda A λa A↦?_
 refine qa (hK14 _ _ (wsk fun K16 hK16 => wrl (sdm A λa A↦?_)))
 refine sdo (v := .int .u64 16) A (qt rfl (ar_conv Tryz.underlying3 Tryz.underlying100 (in_u64 (by decide) (by decide)))) λa A↦?_
 refine sda A λa A↦?_
 refine qa (hK16 _ _ (wsk fun K17 hK17 => wrl (sdm A λa A↦?_)))
 refine sdo (v := .int .u64 16) A (qt rfl (ar_conv Tryz.underlying3 Tryz.underlying109 (in_u64 (by decide) (by decide)))) λa A↦?_
 refine sdo (v := .int .u64 15) A (qe rfl rfl (fun w => by kernel_rfl)) λa A↦?_
 refine sda A λa A↦?_
 refine qa (hK17 _ _ (wsk fun K18 hK18 => wp_block (wp_loop_rounds 7 ?_)))
 refine yh ?_
 intro K19 hK19
 refine wsk fun K20 hK20 => wsk fun K21 hK21 => wrl ?_
 iterate 2 refine sdm A λa A↦?_
 rcases tf (decide (16 ≤ ((n : Nat) : Int))) with hb22 | hb22
 ·
  have hb22' := of_decide_eq_true hb22
  refine sdc A jh hb22 λa A↦?_
  refine qa (hK21 _ _ (wp_cond_true (A.ev rfl) ?_))
  refine wp_skip (hK20 _ _ (wp_block (wsk fun K23 hK23 => wrl (sdm A λa A↦?_))))
  refine sdo (v := .int .i64 64) A (qe rfl rfl (fun w => by kernel_rfl)) λa A↦?_
  refine sda A λa A↦?_
  refine qa (hK23 _ _ (wsk fun K24 hK24 => wrl ?_))
  iterate 3 refine sdm A λa A↦?_
  refine sdo (v := .int .u64 (((n % 16 : Nat) : Int))) A (qe rfl rfl (ar_and (qka (by omega)))) λa A↦?_
  refine sdo (v := .int .u8 ((((C.hx (n % 16)).toNat : Nat) : Int))) A (jn (m := n % 16) Tryz.underlying9 rfl rfl rfl (by omega)) λa A↦?_
  refine sdo (v := .pointer (some ⟨g5, 64, none⟩)) A (zu rfl rfl (fun w => by kernel_rfl)) λa A↦?_
  refine qz (us := (xt [.int .u8 ((((C.hx (n % 16)).toNat : Nat) : Int))])) (L' := (.obj g5 (.cells (xt [.int .u8 ((((C.hx (n % 16)).toNat : Nat) : Int))]).toArray 129) :: [])) A M rfl rfl (qw rfl rfl rfl (by kernel_rfl) M 0 rfl rfl rfl) 0 rfl rfl rfl ?_
  intro w25 M
  refine qa (hK24 _ _ (wrl ?_))
  iterate 2 refine sdm A λa A↦?_
  refine sdo (v := .int .u64 (((n / 16 : Nat) : Int))) A (qe rfl rfl (ar_shr (n := 4) rfl rfl (show ((n : Nat) : Int) / 2 ^ 4 = ((n / 16 : Nat) : Int) by omega))) λa A↦?_
  refine sda A λa A↦?_
  refine qa (hK19 _ _ (yh ?_))
  intro K26 hK26
  refine wsk fun K27 hK27 => wsk fun K28 hK28 => wrl ?_
  iterate 2 refine sdm A λa A↦?_
  rcases tf (decide (16 ≤ ((n / 16 : Nat) : Int))) with hb29 | hb29
  ·
   have hb29' := of_decide_eq_true hb29
   refine sdc A jh hb29 λa A↦?_
   refine qa (hK28 _ _ (wp_cond_true (A.ev rfl) ?_))
   refine wp_skip (hK27 _ _ (wp_block (wsk fun K30 hK30 => wrl (sdm A λa A↦?_))))
   refine sdo (v := .int .i64 63) A (qe rfl rfl (fun w => by kernel_rfl)) λa A↦?_
   refine sda A λa A↦?_
   refine qa (hK30 _ _ (wsk fun K31 hK31 => wrl ?_))
   iterate 3 refine sdm A λa A↦?_
   refine sdo (v := .int .u64 (((n / 16 % 16 : Nat) : Int))) A (qe rfl rfl (ar_and (qka (by omega)))) λa A↦?_
   refine sdo (v := .int .u8 ((((C.hx (n / 16 % 16)).toNat : Nat) : Int))) A (jn (m := n / 16 % 16) Tryz.underlying9 rfl rfl rfl (by omega)) λa A↦?_
   refine sdo (v := .pointer (some ⟨g5, 63, none⟩)) A (zu rfl rfl (fun w => by kernel_rfl)) λa A↦?_
   refine qz (us := (xt [.int .u8 ((((C.hx (n / 16 % 16)).toNat : Nat) : Int)), .int .u8 ((((C.hx (n % 16)).toNat : Nat) : Int))])) (L' := (.obj g5 (.cells (xt [.int .u8 ((((C.hx (n / 16 % 16)).toNat : Nat) : Int)), .int .u8 ((((C.hx (n % 16)).toNat : Nat) : Int))]).toArray 129) :: [])) A M rfl rfl (qw rfl rfl rfl (by kernel_rfl) M 0 rfl rfl rfl) 0 rfl rfl rfl ?_
   intro w32 M
   refine qa (hK31 _ _ (wrl ?_))
   iterate 2 refine sdm A λa A↦?_
   refine sdo (v := .int .u64 (((n / 16 / 16 : Nat) : Int))) A (qe rfl rfl (ar_shr (n := 4) rfl rfl (show ((n / 16 : Nat) : Int) / 2 ^ 4 = ((n / 16 / 16 : Nat) : Int) by omega))) λa A↦?_
   refine sda A λa A↦?_
   refine qa (hK26 _ _ (yh ?_))
   intro K33 hK33
   refine wsk fun K34 hK34 => wsk fun K35 hK35 => wrl ?_
   iterate 2 refine sdm A λa A↦?_
   rcases tf (decide (16 ≤ ((n / 16 / 16 : Nat) : Int))) with hb36 | hb36
   ·
    have hb36' := of_decide_eq_true hb36
    refine sdc A jh hb36 λa A↦?_
    refine qa (hK35 _ _ (wp_cond_true (A.ev rfl) ?_))
    refine wp_skip (hK34 _ _ (wp_block (wsk fun K37 hK37 => wrl (sdm A λa A↦?_))))
    refine sdo (v := .int .i64 62) A (qe rfl rfl (fun w => by kernel_rfl)) λa A↦?_
    refine sda A λa A↦?_
    refine qa (hK37 _ _ (wsk fun K38 hK38 => wrl ?_))
    iterate 3 refine sdm A λa A↦?_
    refine sdo (v := .int .u64 (((n / 16 / 16 % 16 : Nat) : Int))) A (qe rfl rfl (ar_and (qka (by omega)))) λa A↦?_
    refine sdo (v := .int .u8 ((((C.hx (n / 16 / 16 % 16)).toNat : Nat) : Int))) A (jn (m := n / 16 / 16 % 16) Tryz.underlying9 rfl rfl rfl (by omega)) λa A↦?_
    refine sdo (v := .pointer (some ⟨g5, 62, none⟩)) A (zu rfl rfl (fun w => by kernel_rfl)) λa A↦?_
    refine qz (us := (xt [.int .u8 ((((C.hx (n / 16 / 16 % 16)).toNat : Nat) : Int)), .int .u8 ((((C.hx (n / 16 % 16)).toNat : Nat) : Int)), .int .u8 ((((C.hx (n % 16)).toNat : Nat) : Int))])) (L' := (.obj g5 (.cells (xt [.int .u8 ((((C.hx (n / 16 / 16 % 16)).toNat : Nat) : Int)), .int .u8 ((((C.hx (n / 16 % 16)).toNat : Nat) : Int)), .int .u8 ((((C.hx (n % 16)).toNat : Nat) : Int))]).toArray 129) :: [])) A M rfl rfl (qw rfl rfl rfl (by kernel_rfl) M 0 rfl rfl rfl) 0 rfl rfl rfl ?_
    intro w39 M
    refine qa (hK38 _ _ (wrl ?_))
    iterate 2 refine sdm A λa A↦?_
    refine sdo (v := .int .u64 (((n / 16 / 16 / 16 : Nat) : Int))) A (qe rfl rfl (ar_shr (n := 4) rfl rfl (show ((n / 16 / 16 : Nat) : Int) / 2 ^ 4 = ((n / 16 / 16 / 16 : Nat) : Int) by omega))) λa A↦?_
    refine sda A λa A↦?_
    refine qa (hK33 _ _ (yh ?_))
    intro K40 hK40
    refine wsk fun K41 hK41 => wsk fun K42 hK42 => wrl ?_
    iterate 2 refine sdm A λa A↦?_
    rcases tf (decide (16 ≤ ((n / 16 / 16 / 16 : Nat) : Int))) with hb43 | hb43
    ·
     have hb43' := of_decide_eq_true hb43
     refine sdc A jh hb43 λa A↦?_
     refine qa (hK42 _ _ (wp_cond_true (A.ev rfl) ?_))
     refine wp_skip (hK41 _ _ (wp_block (wsk fun K44 hK44 => wrl (sdm A λa A↦?_))))
     refine sdo (v := .int .i64 61) A (qe rfl rfl (fun w => by kernel_rfl)) λa A↦?_
     refine sda A λa A↦?_
     refine qa (hK44 _ _ (wsk fun K45 hK45 => wrl ?_))
     iterate 3 refine sdm A λa A↦?_
     refine sdo (v := .int .u64 (((n / 16 / 16 / 16 % 16 : Nat) : Int))) A (qe rfl rfl (ar_and (qka (by omega)))) λa A↦?_
     refine sdo (v := .int .u8 ((((C.hx (n / 16 / 16 / 16 % 16)).toNat : Nat) : Int))) A (jn (m := n / 16 / 16 / 16 % 16) Tryz.underlying9 rfl rfl rfl (by omega)) λa A↦?_
     refine sdo (v := .pointer (some ⟨g5, 61, none⟩)) A (zu rfl rfl (fun w => by kernel_rfl)) λa A↦?_
     refine qz (us := (xt [.int .u8 ((((C.hx (n / 16 / 16 / 16 % 16)).toNat : Nat) : Int)), .int .u8 ((((C.hx (n / 16 / 16 % 16)).toNat : Nat) : Int)), .int .u8 ((((C.hx (n / 16 % 16)).toNat : Nat) : Int)), .int .u8 ((((C.hx (n % 16)).toNat : Nat) : Int))])) (L' := (.obj g5 (.cells (xt [.int .u8 ((((C.hx (n / 16 / 16 / 16 % 16)).toNat : Nat) : Int)), .int .u8 ((((C.hx (n / 16 / 16 % 16)).toNat : Nat) : Int)), .int .u8 ((((C.hx (n / 16 % 16)).toNat : Nat) : Int)), .int .u8 ((((C.hx (n % 16)).toNat : Nat) : Int))]).toArray 129) :: [])) A M rfl rfl (qw rfl rfl rfl (by kernel_rfl) M 0 rfl rfl rfl) 0 rfl rfl rfl ?_
     intro w46 M
     refine qa (hK45 _ _ (wrl ?_))
     iterate 2 refine sdm A λa A↦?_
     refine sdo (v := .int .u64 (((n / 16 / 16 / 16 / 16 : Nat) : Int))) A (qe rfl rfl (ar_shr (n := 4) rfl rfl (show ((n / 16 / 16 / 16 : Nat) : Int) / 2 ^ 4 = ((n / 16 / 16 / 16 / 16 : Nat) : Int) by omega))) λa A↦?_
     refine sda A λa A↦?_
     refine qa (hK40 _ _ (yh ?_))
     intro K47 hK47
     refine wsk fun K48 hK48 => wsk fun K49 hK49 => wrl ?_
     iterate 2 refine sdm A λa A↦?_
     rcases tf (decide (16 ≤ ((n / 16 / 16 / 16 / 16 : Nat) : Int))) with hb50 | hb50
     ·
      have hb50' := of_decide_eq_true hb50
      refine sdc A jh hb50 λa A↦?_
      refine qa (hK49 _ _ (wp_cond_true (A.ev rfl) ?_))
      refine wp_skip (hK48 _ _ (wp_block (wsk fun K51 hK51 => wrl (sdm A λa A↦?_))))
      refine sdo (v := .int .i64 60) A (qe rfl rfl (fun w => by kernel_rfl)) λa A↦?_
      refine sda A λa A↦?_
      refine qa (hK51 _ _ (wsk fun K52 hK52 => wrl ?_))
      iterate 3 refine sdm A λa A↦?_
      refine sdo (v := .int .u64 (((n / 16 / 16 / 16 / 16 % 16 : Nat) : Int))) A (qe rfl rfl (ar_and (qka (by omega)))) λa A↦?_
      refine sdo (v := .int .u8 ((((C.hx (n / 16 / 16 / 16 / 16 % 16)).toNat : Nat) : Int))) A (jn (m := n / 16 / 16 / 16 / 16 % 16) Tryz.underlying9 rfl rfl rfl (by omega)) λa A↦?_
      refine sdo (v := .pointer (some ⟨g5, 60, none⟩)) A (zu rfl rfl (fun w => by kernel_rfl)) λa A↦?_
      refine qz (us := (xt [.int .u8 ((((C.hx (n / 16 / 16 / 16 / 16 % 16)).toNat : Nat) : Int)), .int .u8 ((((C.hx (n / 16 / 16 / 16 % 16)).toNat : Nat) : Int)), .int .u8 ((((C.hx (n / 16 / 16 % 16)).toNat : Nat) : Int)), .int .u8 ((((C.hx (n / 16 % 16)).toNat : Nat) : Int)), .int .u8 ((((C.hx (n % 16)).toNat : Nat) : Int))])) (L' := (.obj g5 (.cells (xt [.int .u8 ((((C.hx (n / 16 / 16 / 16 / 16 % 16)).toNat : Nat) : Int)), .int .u8 ((((C.hx (n / 16 / 16 / 16 % 16)).toNat : Nat) : Int)), .int .u8 ((((C.hx (n / 16 / 16 % 16)).toNat : Nat) : Int)), .int .u8 ((((C.hx (n / 16 % 16)).toNat : Nat) : Int)), .int .u8 ((((C.hx (n % 16)).toNat : Nat) : Int))]).toArray 129) :: [])) A M rfl rfl (qw rfl rfl rfl (by kernel_rfl) M 0 rfl rfl rfl) 0 rfl rfl rfl ?_
      intro w53 M
      refine qa (hK52 _ _ (wrl ?_))
      iterate 2 refine sdm A λa A↦?_
      refine sdo (v := .int .u64 (((n / 16 / 16 / 16 / 16 / 16 : Nat) : Int))) A (qe rfl rfl (ar_shr (n := 4) rfl rfl (show ((n / 16 / 16 / 16 / 16 : Nat) : Int) / 2 ^ 4 = ((n / 16 / 16 / 16 / 16 / 16 : Nat) : Int) by omega))) λa A↦?_
      refine sda A λa A↦?_
      refine qa (hK47 _ _ (yh ?_))
      intro K54 hK54
      refine wsk fun K55 hK55 => wsk fun K56 hK56 => wrl ?_
      iterate 2 refine sdm A λa A↦?_
      refine sdo (v := .bool false) A (qe rfl rfl (fun w => (jh w).trans (by rw [show (decide (16 ≤ ((n / 16 / 16 / 16 / 16 / 16 : Nat) : Int))) = false from (decide_eq_false (by omega))]))) λa A↦?_
      refine qa (hK56 _ _ (wp_cond_false (A.ev rfl) ?_))
      refine wp_exit (hK18 _ _ (wsk fun K57 hK57 => wrl (sdm A λa A↦?_)))
      refine sdo (v := .int .i64 59) A (qe rfl rfl (fun w => by kernel_rfl)) λa A↦?_
      refine sda A λa A↦?_
      refine qa (hK57 _ _ (wrl ?_))
      iterate 2 refine sdm A λa A↦?_
      refine sdo (v := .int .u8 ((((C.hx (n / 16 / 16 / 16 / 16 / 16)).toNat : Nat) : Int))) A (jn (m := n / 16 / 16 / 16 / 16 / 16) Tryz.underlying9 rfl rfl rfl (by omega)) λa A↦?_
      refine sdo (v := .pointer (some ⟨g5, 59, none⟩)) A (zu rfl rfl (fun w => by kernel_rfl)) λa A↦?_
      refine qz (us := (xt [.int .u8 ((((C.hx (n / 16 / 16 / 16 / 16 / 16)).toNat : Nat) : Int)), .int .u8 ((((C.hx (n / 16 / 16 / 16 / 16 % 16)).toNat : Nat) : Int)), .int .u8 ((((C.hx (n / 16 / 16 / 16 % 16)).toNat : Nat) : Int)), .int .u8 ((((C.hx (n / 16 / 16 % 16)).toNat : Nat) : Int)), .int .u8 ((((C.hx (n / 16 % 16)).toNat : Nat) : Int)), .int .u8 ((((C.hx (n % 16)).toNat : Nat) : Int))])) (L' := (.obj g5 (.cells (xt [.int .u8 ((((C.hx (n / 16 / 16 / 16 / 16 / 16)).toNat : Nat) : Int)), .int .u8 ((((C.hx (n / 16 / 16 / 16 / 16 % 16)).toNat : Nat) : Int)), .int .u8 ((((C.hx (n / 16 / 16 / 16 % 16)).toNat : Nat) : Int)), .int .u8 ((((C.hx (n / 16 / 16 % 16)).toNat : Nat) : Int)), .int .u8 ((((C.hx (n / 16 % 16)).toNat : Nat) : Int)), .int .u8 ((((C.hx (n % 16)).toNat : Nat) : Int))]).toArray 129) :: [])) A M rfl rfl (qw rfl rfl rfl (by kernel_rfl) M 0 rfl rfl rfl) 0 rfl rfl rfl ?_
      intro w58 M
      refine qa (hK10 _ _ (wsk fun K59 hK59 => wsk fun K60 hK60 => wrl (sdm A λa A↦?_)))
      refine qa (hK60 _ _ (wp_cond_false (A.ev rfl) ?_))
      refine wp_skip (hK59 _ _ (wsk fun K61 hK61 => wsk fun K62 hK62 => wrl (sdm A λa A↦?_)))
      refine qa (hK62 _ _ (wp_cond_false (A.ev rfl) ?_))
      refine wp_skip (hK61 _ _ (wsk fun K63 hK63 => wrl (sdm A λa A↦?_)))
      refine sdo (v := .slice (some ⟨g5, 59, none⟩) 6 6) A (vw rfl rfl (fun w => by kernel_rfl)) λa A↦?_
      have hrb9 := qha (ds := [C.hx (n / 16 / 16 / 16 / 16 / 16), C.hx (n / 16 / 16 / 16 / 16 % 16), C.hx (n / 16 / 16 / 16 % 16), C.hx (n / 16 / 16 % 16), C.hx (n / 16 % 16), C.hx (n % 16)]) M 0 rfl (by simp)
      refine sdo (v := .string (⟨([C.hx (n / 16 / 16 / 16 / 16 / 16), C.hx (n / 16 / 16 / 16 / 16 % 16), C.hx (n / 16 / 16 / 16 % 16), C.hx (n / 16 / 16 % 16), C.hx (n / 16 % 16), C.hx (n % 16)] : List UInt8).toArray⟩)) A (km rfl (kl Tryz.underlying27 Tryz.underlying5 Tryz.underlying9 hrb9 _)) λa A↦?_
      refine sda A λa A↦?_
      refine qa (hK63 _ _ (wp_ret (hret _ _ (en2 A rfl (qf rfl) (qf rfl) ?_))))
      exact ⟨by rw [show C.hexD n = [C.hx (n / 16 / 16 / 16 / 16 / 16), C.hx (n / 16 / 16 / 16 / 16 % 16), C.hx (n / 16 / 16 / 16 % 16), C.hx (n / 16 / 16 % 16), C.hx (n / 16 % 16), C.hx (n % 16)] from vj (by omega) (vj (by omega) (vj (by omega) (vj (by omega) (vj (by omega) (qdf (by omega))))))], M.bel⟩
     ·
      have hb50' := of_decide_eq_false hb50
      refine sdc A jh hb50 λa A↦?_
      refine qa (hK49 _ _ (wp_cond_false (A.ev rfl) ?_))
      refine wp_exit (hK18 _ _ (wsk fun K64 hK64 => wrl (sdm A λa A↦?_)))
      refine sdo (v := .int .i64 60) A (qe rfl rfl (fun w => by kernel_rfl)) λa A↦?_
      refine sda A λa A↦?_
      refine qa (hK64 _ _ (wrl ?_))
      iterate 2 refine sdm A λa A↦?_
      refine sdo (v := .int .u8 ((((C.hx (n / 16 / 16 / 16 / 16)).toNat : Nat) : Int))) A (jn (m := n / 16 / 16 / 16 / 16) Tryz.underlying9 rfl rfl rfl (by omega)) λa A↦?_
      refine sdo (v := .pointer (some ⟨g5, 60, none⟩)) A (zu rfl rfl (fun w => by kernel_rfl)) λa A↦?_
      refine qz (us := (xt [.int .u8 ((((C.hx (n / 16 / 16 / 16 / 16)).toNat : Nat) : Int)), .int .u8 ((((C.hx (n / 16 / 16 / 16 % 16)).toNat : Nat) : Int)), .int .u8 ((((C.hx (n / 16 / 16 % 16)).toNat : Nat) : Int)), .int .u8 ((((C.hx (n / 16 % 16)).toNat : Nat) : Int)), .int .u8 ((((C.hx (n % 16)).toNat : Nat) : Int))])) (L' := (.obj g5 (.cells (xt [.int .u8 ((((C.hx (n / 16 / 16 / 16 / 16)).toNat : Nat) : Int)), .int .u8 ((((C.hx (n / 16 / 16 / 16 % 16)).toNat : Nat) : Int)), .int .u8 ((((C.hx (n / 16 / 16 % 16)).toNat : Nat) : Int)), .int .u8 ((((C.hx (n / 16 % 16)).toNat : Nat) : Int)), .int .u8 ((((C.hx (n % 16)).toNat : Nat) : Int))]).toArray 129) :: [])) A M rfl rfl (qw rfl rfl rfl (by kernel_rfl) M 0 rfl rfl rfl) 0 rfl rfl rfl ?_
      intro w65 M
      refine qa (hK10 _ _ (wsk fun K66 hK66 => wsk fun K67 hK67 => wrl (sdm A λa A↦?_)))
      refine qa (hK67 _ _ (wp_cond_false (A.ev rfl) ?_))
      refine wp_skip (hK66 _ _ (wsk fun K68 hK68 => wsk fun K69 hK69 => wrl (sdm A λa A↦?_)))
      refine qa (hK69 _ _ (wp_cond_false (A.ev rfl) ?_))
      refine wp_skip (hK68 _ _ (wsk fun K70 hK70 => wrl (sdm A λa A↦?_)))
      refine sdo (v := .slice (some ⟨g5, 60, none⟩) 5 5) A (vw rfl rfl (fun w => by kernel_rfl)) λa A↦?_
      have hrb9 := qha (ds := [C.hx (n / 16 / 16 / 16 / 16), C.hx (n / 16 / 16 / 16 % 16), C.hx (n / 16 / 16 % 16), C.hx (n / 16 % 16), C.hx (n % 16)]) M 0 rfl (by simp)
      refine sdo (v := .string (⟨([C.hx (n / 16 / 16 / 16 / 16), C.hx (n / 16 / 16 / 16 % 16), C.hx (n / 16 / 16 % 16), C.hx (n / 16 % 16), C.hx (n % 16)] : List UInt8).toArray⟩)) A (km rfl (kl Tryz.underlying27 Tryz.underlying5 Tryz.underlying9 hrb9 _)) λa A↦?_
      refine sda A λa A↦?_
      refine qa (hK70 _ _ (wp_ret (hret _ _ (en2 A rfl (qf rfl) (qf rfl) ?_))))
      exact ⟨by rw [show C.hexD n = [C.hx (n / 16 / 16 / 16 / 16), C.hx (n / 16 / 16 / 16 % 16), C.hx (n / 16 / 16 % 16), C.hx (n / 16 % 16), C.hx (n % 16)] from vj (by omega) (vj (by omega) (vj (by omega) (vj (by omega) (qdf (by omega)))))], M.bel⟩
    ·
     have hb43' := of_decide_eq_false hb43
     refine sdc A jh hb43 λa A↦?_
     refine qa (hK42 _ _ (wp_cond_false (A.ev rfl) ?_))
     refine wp_exit (hK18 _ _ (wsk fun K71 hK71 => wrl (sdm A λa A↦?_)))
     refine sdo (v := .int .i64 61) A (qe rfl rfl (fun w => by kernel_rfl)) λa A↦?_
     refine sda A λa A↦?_
     refine qa (hK71 _ _ (wrl ?_))
     iterate 2 refine sdm A λa A↦?_
     refine sdo (v := .int .u8 ((((C.hx (n / 16 / 16 / 16)).toNat : Nat) : Int))) A (jn (m := n / 16 / 16 / 16) Tryz.underlying9 rfl rfl rfl (by omega)) λa A↦?_
     refine sdo (v := .pointer (some ⟨g5, 61, none⟩)) A (zu rfl rfl (fun w => by kernel_rfl)) λa A↦?_
     refine qz (us := (xt [.int .u8 ((((C.hx (n / 16 / 16 / 16)).toNat : Nat) : Int)), .int .u8 ((((C.hx (n / 16 / 16 % 16)).toNat : Nat) : Int)), .int .u8 ((((C.hx (n / 16 % 16)).toNat : Nat) : Int)), .int .u8 ((((C.hx (n % 16)).toNat : Nat) : Int))])) (L' := (.obj g5 (.cells (xt [.int .u8 ((((C.hx (n / 16 / 16 / 16)).toNat : Nat) : Int)), .int .u8 ((((C.hx (n / 16 / 16 % 16)).toNat : Nat) : Int)), .int .u8 ((((C.hx (n / 16 % 16)).toNat : Nat) : Int)), .int .u8 ((((C.hx (n % 16)).toNat : Nat) : Int))]).toArray 129) :: [])) A M rfl rfl (qw rfl rfl rfl (by kernel_rfl) M 0 rfl rfl rfl) 0 rfl rfl rfl ?_
     intro w72 M
     refine qa (hK10 _ _ (wsk fun K73 hK73 => wsk fun K74 hK74 => wrl (sdm A λa A↦?_)))
     refine qa (hK74 _ _ (wp_cond_false (A.ev rfl) ?_))
     refine wp_skip (hK73 _ _ (wsk fun K75 hK75 => wsk fun K76 hK76 => wrl (sdm A λa A↦?_)))
     refine qa (hK76 _ _ (wp_cond_false (A.ev rfl) ?_))
     refine wp_skip (hK75 _ _ (wsk fun K77 hK77 => wrl (sdm A λa A↦?_)))
     refine sdo (v := .slice (some ⟨g5, 61, none⟩) 4 4) A (vw rfl rfl (fun w => by kernel_rfl)) λa A↦?_
     have hrb9 := qha (ds := [C.hx (n / 16 / 16 / 16), C.hx (n / 16 / 16 % 16), C.hx (n / 16 % 16), C.hx (n % 16)]) M 0 rfl (by simp)
     refine sdo (v := .string (⟨([C.hx (n / 16 / 16 / 16), C.hx (n / 16 / 16 % 16), C.hx (n / 16 % 16), C.hx (n % 16)] : List UInt8).toArray⟩)) A (km rfl (kl Tryz.underlying27 Tryz.underlying5 Tryz.underlying9 hrb9 _)) λa A↦?_
     refine sda A λa A↦?_
     refine qa (hK77 _ _ (wp_ret (hret _ _ (en2 A rfl (qf rfl) (qf rfl) ?_))))
     exact ⟨by rw [show C.hexD n = [C.hx (n / 16 / 16 / 16), C.hx (n / 16 / 16 % 16), C.hx (n / 16 % 16), C.hx (n % 16)] from vj (by omega) (vj (by omega) (vj (by omega) (qdf (by omega))))], M.bel⟩
   ·
    have hb36' := of_decide_eq_false hb36
    refine sdc A jh hb36 λa A↦?_
    refine qa (hK35 _ _ (wp_cond_false (A.ev rfl) ?_))
    refine wp_exit (hK18 _ _ (wsk fun K78 hK78 => wrl (sdm A λa A↦?_)))
    refine sdo (v := .int .i64 62) A (qe rfl rfl (fun w => by kernel_rfl)) λa A↦?_
    refine sda A λa A↦?_
    refine qa (hK78 _ _ (wrl ?_))
    iterate 2 refine sdm A λa A↦?_
    refine sdo (v := .int .u8 ((((C.hx (n / 16 / 16)).toNat : Nat) : Int))) A (jn (m := n / 16 / 16) Tryz.underlying9 rfl rfl rfl (by omega)) λa A↦?_
    refine sdo (v := .pointer (some ⟨g5, 62, none⟩)) A (zu rfl rfl (fun w => by kernel_rfl)) λa A↦?_
    refine qz (us := (xt [.int .u8 ((((C.hx (n / 16 / 16)).toNat : Nat) : Int)), .int .u8 ((((C.hx (n / 16 % 16)).toNat : Nat) : Int)), .int .u8 ((((C.hx (n % 16)).toNat : Nat) : Int))])) (L' := (.obj g5 (.cells (xt [.int .u8 ((((C.hx (n / 16 / 16)).toNat : Nat) : Int)), .int .u8 ((((C.hx (n / 16 % 16)).toNat : Nat) : Int)), .int .u8 ((((C.hx (n % 16)).toNat : Nat) : Int))]).toArray 129) :: [])) A M rfl rfl (qw rfl rfl rfl (by kernel_rfl) M 0 rfl rfl rfl) 0 rfl rfl rfl ?_
    intro w79 M
    refine qa (hK10 _ _ (wsk fun K80 hK80 => wsk fun K81 hK81 => wrl (sdm A λa A↦?_)))
    refine qa (hK81 _ _ (wp_cond_false (A.ev rfl) ?_))
    refine wp_skip (hK80 _ _ (wsk fun K82 hK82 => wsk fun K83 hK83 => wrl (sdm A λa A↦?_)))
    refine qa (hK83 _ _ (wp_cond_false (A.ev rfl) ?_))
    refine wp_skip (hK82 _ _ (wsk fun K84 hK84 => wrl (sdm A λa A↦?_)))
    refine sdo (v := .slice (some ⟨g5, 62, none⟩) 3 3) A (vw rfl rfl (fun w => by kernel_rfl)) λa A↦?_
    have hrb9 := qha (ds := [C.hx (n / 16 / 16), C.hx (n / 16 % 16), C.hx (n % 16)]) M 0 rfl (by simp)
    refine sdo (v := .string (⟨([C.hx (n / 16 / 16), C.hx (n / 16 % 16), C.hx (n % 16)] : List UInt8).toArray⟩)) A (km rfl (kl Tryz.underlying27 Tryz.underlying5 Tryz.underlying9 hrb9 _)) λa A↦?_
    refine sda A λa A↦?_
    refine qa (hK84 _ _ (wp_ret (hret _ _ (en2 A rfl (qf rfl) (qf rfl) ?_))))
    exact ⟨by rw [show C.hexD n = [C.hx (n / 16 / 16), C.hx (n / 16 % 16), C.hx (n % 16)] from vj (by omega) (vj (by omega) (qdf (by omega)))], M.bel⟩
  ·
   have hb29' := of_decide_eq_false hb29
   refine sdc A jh hb29 λa A↦?_
   refine qa (hK28 _ _ (wp_cond_false (A.ev rfl) ?_))
   refine wp_exit (hK18 _ _ (wsk fun K85 hK85 => wrl (sdm A λa A↦?_)))
   refine sdo (v := .int .i64 63) A (qe rfl rfl (fun w => by kernel_rfl)) λa A↦?_
   refine sda A λa A↦?_
   refine qa (hK85 _ _ (wrl ?_))
   iterate 2 refine sdm A λa A↦?_
   refine sdo (v := .int .u8 ((((C.hx (n / 16)).toNat : Nat) : Int))) A (jn (m := n / 16) Tryz.underlying9 rfl rfl rfl (by omega)) λa A↦?_
   refine sdo (v := .pointer (some ⟨g5, 63, none⟩)) A (zu rfl rfl (fun w => by kernel_rfl)) λa A↦?_
   refine qz (us := (xt [.int .u8 ((((C.hx (n / 16)).toNat : Nat) : Int)), .int .u8 ((((C.hx (n % 16)).toNat : Nat) : Int))])) (L' := (.obj g5 (.cells (xt [.int .u8 ((((C.hx (n / 16)).toNat : Nat) : Int)), .int .u8 ((((C.hx (n % 16)).toNat : Nat) : Int))]).toArray 129) :: [])) A M rfl rfl (qw rfl rfl rfl (by kernel_rfl) M 0 rfl rfl rfl) 0 rfl rfl rfl ?_
   intro w86 M
   refine qa (hK10 _ _ (wsk fun K87 hK87 => wsk fun K88 hK88 => wrl (sdm A λa A↦?_)))
   refine qa (hK88 _ _ (wp_cond_false (A.ev rfl) ?_))
   refine wp_skip (hK87 _ _ (wsk fun K89 hK89 => wsk fun K90 hK90 => wrl (sdm A λa A↦?_)))
   refine qa (hK90 _ _ (wp_cond_false (A.ev rfl) ?_))
   refine wp_skip (hK89 _ _ (wsk fun K91 hK91 => wrl (sdm A λa A↦?_)))
   refine sdo (v := .slice (some ⟨g5, 63, none⟩) 2 2) A (vw rfl rfl (fun w => by kernel_rfl)) λa A↦?_
   have hrb9 := qha (ds := [C.hx (n / 16), C.hx (n % 16)]) M 0 rfl (by simp)
   refine sdo (v := .string (⟨([C.hx (n / 16), C.hx (n % 16)] : List UInt8).toArray⟩)) A (km rfl (kl Tryz.underlying27 Tryz.underlying5 Tryz.underlying9 hrb9 _)) λa A↦?_
   refine sda A λa A↦?_
   refine qa (hK91 _ _ (wp_ret (hret _ _ (en2 A rfl (qf rfl) (qf rfl) ?_))))
   exact ⟨by rw [show C.hexD n = [C.hx (n / 16), C.hx (n % 16)] from vj (by omega) (qdf (by omega))], M.bel⟩
 ·
  have hb22' := of_decide_eq_false hb22
  refine sdc A jh hb22 λa A↦?_
  refine qa (hK21 _ _ (wp_cond_false (A.ev rfl) ?_))
  refine wp_exit (hK18 _ _ (wsk fun K92 hK92 => wrl (sdm A λa A↦?_)))
  refine sdo (v := .int .i64 64) A (qe rfl rfl (fun w => by kernel_rfl)) λa A↦?_
  refine sda A λa A↦?_
  refine qa (hK92 _ _ (wrl ?_))
  iterate 2 refine sdm A λa A↦?_
  refine sdo (v := .int .u8 ((((C.hx n).toNat : Nat) : Int))) A (jn (m := n) Tryz.underlying9 rfl rfl rfl (by omega)) λa A↦?_
  refine sdo (v := .pointer (some ⟨g5, 64, none⟩)) A (zu rfl rfl (fun w => by kernel_rfl)) λa A↦?_
  refine qz (us := (xt [.int .u8 ((((C.hx n).toNat : Nat) : Int))])) (L' := (.obj g5 (.cells (xt [.int .u8 ((((C.hx n).toNat : Nat) : Int))]).toArray 129) :: [])) A M rfl rfl (qw rfl rfl rfl (by kernel_rfl) M 0 rfl rfl rfl) 0 rfl rfl rfl ?_
  intro w93 M
  refine qa (hK10 _ _ (wsk fun K94 hK94 => wsk fun K95 hK95 => wrl (sdm A λa A↦?_)))
  refine qa (hK95 _ _ (wp_cond_false (A.ev rfl) ?_))
  refine wp_skip (hK94 _ _ (wsk fun K96 hK96 => wsk fun K97 hK97 => wrl (sdm A λa A↦?_)))
  refine qa (hK97 _ _ (wp_cond_false (A.ev rfl) ?_))
  refine wp_skip (hK96 _ _ (wsk fun K98 hK98 => wrl (sdm A λa A↦?_)))
  refine sdo (v := .slice (some ⟨g5, 64, none⟩) 1 1) A (vw rfl rfl (fun w => by kernel_rfl)) λa A↦?_
  have hrb9 := qha (ds := [C.hx n]) M 0 rfl (by simp)
  refine sdo (v := .string (⟨([C.hx n] : List UInt8).toArray⟩)) A (km rfl (kl Tryz.underlying27 Tryz.underlying5 Tryz.underlying9 hrb9 _)) λa A↦?_
  refine sda A λa A↦?_
  refine qa (hK98 _ _ (wp_ret (hret _ _ (en2 A rfl (qf rfl) (qf rfl) ?_))))
  exact ⟨by rw [show C.hexD n = [C.hx n] from qdf (by omega)], M.bel⟩
theorem zmh {w : World} (hz : C.Tz16 w) {n : Nat} (hn : n ≤ 1114111) : Calls Tryz.prog 101 #[.int .i64 ((n : Nat) : Int), .int .i64 16] w fun e w' => e = .returned (.string ⟨(C.hexD n).toArray⟩) ∧ Below w.heap.size w w' := by
 have M : Mg w w ([]) := Mg.start w
 refine qm (l := [(0, .int .i64 (((n : Nat) : Int))), (1, .int .i64 16)]) Tryz.func101 rfl Tryz.ntmps101 rfl rfl ?_
 intro Q hret hnorm hP a A
 refine wsk fun K1 hK1 => wrl (sda A λa A↦?_)
 refine qa (hK1 _ _ (wsk fun K2 hK2 => wsk fun K3 hK3 => wrl (sdm A λa A↦?_)))
 refine sdo (v := .bool false) A (qe rfl rfl (fun w => by kernel_rfl)) λa A↦?_
 refine qa (hK3 _ _ (wp_cond_false (A.ev rfl) ?_))
 refine wp_skip (hK2 _ _ (wsk fun K4 hK4 => wrl (sdm A λa A↦?_)))
 refine sdo (v := .int .u64 (((n : Nat) : Int))) A (qt rfl (ar_conv Tryz.underlying2 Tryz.underlying100 (in_u64 (by omega) (by omega)))) λa A↦?_
 iterate 2 refine sdm A λa A↦?_
 refine sdo (v := .bool false) A (qe rfl rfl (fun w => (zg w).trans (by rw [show (decide (((n : Nat) : Int) < 0)) = false from (decide_eq_false (by omega))]))) λa A↦?_
 refine gcl A M (ef rfl rfl) (zmg (vm hz M.bel) hn) fun w6 hb5 M a A => ?_
 refine sdm A λa A↦?_
 iterate 2 refine sdo A (qp (vs := [.slice none 0 0, .string (⟨(C.hexD n).toArray⟩)]) rfl rfl) λa A↦?_
 iterate 2 refine sda A λa A↦?_
 refine qa (hK4 _ _ (wsk fun K7 hK7 => wrl (sdm A λa A↦?_)))
 refine sda A λa A↦?_
 refine qa (hK7 _ _ (wp_ret (hret _ _ (en1 A rfl (qf rfl) ?_))))
 exact ⟨rfl, M.bel⟩
theorem zpf {w : World} (hz : C.Tz16 w) {n : Nat} (hn : n ≤ 1114111) : Calls Tryz.prog 82 #[.int .i64 ((n : Nat) : Int), .int .i64 16] w fun e w' => e = .returned (.string ⟨(C.hexD n).toArray⟩) ∧ Below w.heap.size w w' := by
 have M : Mg w w ([]) := Mg.start w
 refine qm (l := [(0, .int .i64 (((n : Nat) : Int))), (1, .int .i64 16)]) Tryz.func82 rfl Tryz.ntmps82 rfl rfl ?_
 intro Q hret hnorm hP a A
 refine wsk fun K1 hK1 => wrl (sda A λa A↦?_)
 refine qa (hK1 _ _ (wsk fun K2 hK2 => wrl ?_))
 iterate 2 refine sdm A λa A↦?_
 refine gcl A M (ef rfl rfl) (zmh (vm hz M.bel) hn) fun w4 hb3 M a A => ?_
 refine sda A λa A↦?_
 refine qa (hK2 _ _ (wp_ret (hret _ _ (en1 A rfl (qf rfl) ?_))))
 exact ⟨rfl, M.bel⟩
theorem TwA_is1_27 : Is1 Tryz.prog 27 := ⟨⟨_, Tryz.underlying27, rfl⟩, by kernel_rfl⟩
theorem TwA_fld_40_1 : FieldAt Tryz.prog 40 1 1 := ⟨_, _, Tryz.underlying40, rfl, rfl, by kernel_rfl⟩
theorem toW {w0 w : World} {a b : Ck} {X T : List Ck} (h : Mg w0 w (X ++ a :: b :: T)) : Mg w0 w (a :: b :: (X ++ T)) := h.perm (List.perm_middle.trans (.cons _ List.perm_middle))
theorem qs {w0 w : World} {a b : Ck} {X T : List Ck} (h : Mg w0 w (a :: b :: (X ++ T))) : Mg w0 w (X ++ a :: b :: T) := h.perm ((List.perm_middle.trans (.cons _ List.perm_middle)).symm)
theorem zdb (s : ByteArray) : Lib.strCells s = Lib.byteCells s.data.toList := rfl
theorem zmi {bs : List UInt8} {s : ByteArray} : bs.length + s.size = (bs ++ s.data.toList).length := by rw [List.length_append, zf]
theorem ja {w0 w : World} {gw : Nat} {p v : Value} {pl : Bool} {bs : List UInt8} {T : List Ck} (hp : p = .pointer none ∨ p = .pointer (some ⟨gw, 0, none⟩)) (hM0 : Mg w0 w (.obj gw (.cells #[p, v, .bool pl] 42) :: .row BY 1 v bs.length (Lib.byteCells bs) :: T)) {s : ByteArray} (hroom : bs.length + s.size ≤ 140737488355328) : Calls Tryz.prog 23 #[.pointer (some ⟨gw, 0, none⟩), .string s] w fun e w' => e = .returned (.tuple #[.int .i64 ((s.size : Nat) : Int), .nilIface]) ∧ ∃ v', Mg w0 w' (.obj gw (.cells #[.pointer (some ⟨gw, 0, none⟩), v', .bool pl] 42) :: .row BY 1 v' (bs ++ s.data.toList).length (Lib.byteCells (bs ++ s.data.toList)) :: T) := by
 have M : Mg w0 w (.obj gw (.cells #[p, v, .bool pl] 42) :: .row BY 1 (v) bs.length ((Lib.byteCells bs)) :: T) := hM0
 refine qm (l := [(0, .pointer (some ⟨gw, 0, none⟩)), (1, .string s)]) Tryz.func23 rfl Tryz.ntmps23 rfl rfl ?_
 intro Q hret hnorm hP a A
 refine wsk fun K1 hK1 => wrl ?_
 iterate 2 refine sda A λa A↦?_
 refine qa (hK1 _ _ (wsk fun K2 hK2 => wrl (sdm A λa A↦?_)))
 refine sct A (ef rfl rfl) (qxh hp M) ?_
 rintro _ w3 ⟨rfl, hMc⟩
 replace M : Mg w0 w3 (.obj gw (.cells #[.pointer (some ⟨gw, 0, none⟩), v, .bool pl] 42) :: .row BY 1 (v) bs.length ((Lib.byteCells bs)) :: T) := hMc
 refine ⟨_, rfl, ?_⟩
 intro a A
 refine qa (hK2 _ _ (wsk fun K4 hK4 => wrl ?_))
 iterate 2 refine sdm A λa A↦?_
 refine sdo A (qi rfl) λa A↦?_
 refine sdo (v := .pointer (some ⟨gw, 1, none⟩)) A (qb TwA_fld_40_1 rfl rfl) λa A↦?_
 refine sdo A (qk M TwA_is1_27 rfl 0 rfl rfl) λa A↦?_
 refine sdm A λa A↦?_
 refine qsf (k := 1) (q := bs.length) (m := s.size) (xs := Lib.byteCells bs) (news := Lib.strCells s) (L' := fun v5 => (.obj gw (.cells #[.pointer (some ⟨gw, 0, none⟩), v, .bool pl] 42) :: .row BY 1 (v5) ((bs.length + s.size)) ((Lib.byteCells bs ++ Lib.strCells s)) :: T)) A rfl rfl rfl (qua Tryz.underlying27 Tryz.underlying9 (by kernel_rfl) M 1 rfl rfl rfl hroom) (fun _ => rfl) ?_
 intro v5 w6 M a A
 obtain ⟨so7, ca8, rfl⟩ := ut (M.has 1 rfl)
 refine sdo A (qi rfl) λa A↦?_
 refine sdo (v := .pointer (some ⟨gw, 1, none⟩)) A (qb TwA_fld_40_1 rfl rfl) λa A↦?_
 refine qz (us := [.pointer (some ⟨gw, 0, none⟩), .slice so7 (bs.length + s.size) ca8, .bool pl]) (L' := (.obj gw (.cells #[.pointer (some ⟨gw, 0, none⟩), .slice so7 (bs.length + s.size) ca8, .bool pl] 42) :: .row BY 1 (.slice so7 (bs.length + s.size) ca8) ((bs.length + s.size)) ((Lib.byteCells bs ++ Lib.strCells s)) :: T)) A M rfl rfl (qw rfl rfl rfl (by kernel_rfl) M 0 rfl rfl rfl) 0 rfl rfl rfl ?_
 intro w9 M
 refine qa (hK4 _ _ (wsk fun K10 hK10 => wrl (sdm A λa A↦?_)))
 refine sdo (v := .int .i64 (((s.size : Nat) : Int))) A (qeg rfl (zkg Tryz.underlying9)) λa A↦?_
 iterate 2 refine sda A λa A↦?_
 refine qa (hK10 _ _ (wp_ret (hret _ _ (en2 A rfl (qf rfl) (qf rfl) ?_))))
 refine ⟨rfl, .slice so7 (bs.length + s.size) ca8, ?_⟩
 rw [← zmi, Lib.byteCells_append, ← zdb]
 exact M
theorem TwC_is1_27 : Is1 Tryz.prog 27 := ⟨⟨_, Tryz.underlying27, rfl⟩, by kernel_rfl⟩
theorem TwC_fld_40_1 : FieldAt Tryz.prog 40 1 1 := ⟨_, _, Tryz.underlying40, rfl, rfl, by kernel_rfl⟩
theorem zib {bs : List UInt8} {b : UInt8} : bs.length + 1 = (bs ++ [b]).length := by simp
theorem qyg {bs : List UInt8} {r : Int} : bs.length + (Lib.runeCells r).length = (bs ++ Lib.encodeRune r).length := by rw [List.length_append, Lib.runeCells_length]
theorem zi {w0 w : World} {gw : Nat} {p v : Value} {pl : Bool} {bs : List UInt8} {T : List Ck} (hp : p = .pointer none ∨ p = .pointer (some ⟨gw, 0, none⟩)) (hM0 : Mg w0 w (.obj gw (.cells #[p, v, .bool pl] 42) :: .row BY 1 v bs.length (Lib.byteCells bs) :: T)) (hT : QT T) {b : UInt8} (hroom : bs.length + 1 ≤ 1000000000) : Calls Tryz.prog 52 #[.pointer (some ⟨gw, 0, none⟩), .int .u8 ((b.toNat : Nat) : Int)] w fun e w' => e = .returned .nilIface ∧ ∃ v', Mg w0 w' (.obj gw (.cells #[.pointer (some ⟨gw, 0, none⟩), v', .bool pl] 42) :: .row BY 1 v' (bs ++ [b]).length (Lib.byteCells (bs ++ [b])) :: T) := by
 have hqX : ∀ d ∈ T, qwc d := fun d hd => by obtain ⟨g, o, rfl, hq⟩ := hT d hd; exact hq
 have M : Mg w0 w (.obj gw (.cells #[p, v, .bool pl] 42) :: .row BY 1 (v) bs.length ((Lib.byteCells bs)) :: T) := hM0
 refine qm (l := [(0, .pointer (some ⟨gw, 0, none⟩)), (1, .int .u8 (((b.toNat : Nat) : Int)))]) Tryz.func52 rfl Tryz.ntmps52 rfl rfl ?_
 intro Q hret hnorm hP a A
 refine wsk fun K1 hK1 => wrl (sda A λa A↦?_)
 refine qa (hK1 _ _ (wsk fun K2 hK2 => wrl (sdm A λa A↦?_)))
 refine sct A (ef rfl rfl) (qxh hp M) ?_
 rintro _ w3 ⟨rfl, hMc⟩
 replace M : Mg w0 w3 (.obj gw (.cells #[.pointer (some ⟨gw, 0, none⟩), v, .bool pl] 42) :: .row BY 1 (v) bs.length ((Lib.byteCells bs)) :: T) := hMc
 refine ⟨_, rfl, ?_⟩
 intro a A
 refine qa (hK2 _ _ (wsk fun K4 hK4 => wrl ?_))
 iterate 2 refine sdm A λa A↦?_
 refine sdo A (qi rfl) λa A↦?_
 refine sdo (v := .pointer (some ⟨gw, 1, none⟩)) A (qb TwC_fld_40_1 rfl rfl) λa A↦?_
 refine sdo A (qk M TwC_is1_27 rfl 0 rfl rfl) λa A↦?_
 refine sdm A λa A↦?_
 refine zqd (vs := [.int .u8 (((b.toNat : Nat) : Int))]) A M rfl rfl rfl (qr rfl (by kernel_rfl)) rfl rfl (vt (by simp) (vt (by simp) (xm hqX))) ?_
 intro g5 w6 M a A
 refine qsf (k := 2) (q := bs.length) (m := 1) (xs := (Lib.byteCells bs)) (news := [.int .u8 (((b.toNat : Nat) : Int))]) (L' := fun v7 => (.row BY 1 (.slice (some ⟨g5, 0, none⟩) 1 1) 1 ([.int .u8 (((b.toNat : Nat) : Int))]) :: .obj gw (.cells #[.pointer (some ⟨gw, 0, none⟩), v, .bool pl] 42) :: .row BY 1 (v7) ((bs.length + 1)) (((Lib.byteCells bs) ++ [.int .u8 (((b.toNat : Nat) : Int))])) :: T)) A rfl rfl rfl (zeh Tryz.underlying27 (by kernel_rfl) M 2 rfl rfl 0 rfl rfl rfl rfl (by omega)) (fun _ => rfl) ?_
 intro v7 w8 M a A
 obtain ⟨so9, ca10, rfl⟩ := ut (M.has 2 rfl)
 refine sdo A (qi rfl) λa A↦?_
 refine sdo (v := .pointer (some ⟨gw, 1, none⟩)) A (qb TwC_fld_40_1 rfl rfl) λa A↦?_
 refine qz (us := [.pointer (some ⟨gw, 0, none⟩), .slice so9 ((bs.length + 1)) ca10, .bool pl]) (L' := (.row BY 1 (.slice (some ⟨g5, 0, none⟩) 1 1) 1 ([.int .u8 (((b.toNat : Nat) : Int))]) :: .obj gw (.cells #[.pointer (some ⟨gw, 0, none⟩), .slice so9 ((bs.length + 1)) ca10, .bool pl] 42) :: .row BY 1 (.slice so9 ((bs.length + 1)) ca10) ((bs.length + 1)) (((Lib.byteCells bs) ++ [.int .u8 (((b.toNat : Nat) : Int))])) :: T)) A M rfl rfl (qw rfl rfl rfl (by kernel_rfl) M 1 rfl rfl rfl) 1 rfl rfl rfl ?_
 intro w11 M
 refine qa (hK4 _ _ (wsk fun K12 hK12 => wrl (sda A λa A↦?_)))
 refine qa (hK12 _ _ (wp_ret (hret _ _ (en1 A rfl (qf rfl) ?_))))
 refine ⟨rfl, .slice so9 ((bs.length + 1)) ca10, ?_⟩
 have hM8 := M.sub (L' := _) (.cons _ (.cons_cons _ (.cons_cons _ (.refl _))))
 rw [← zib, Lib.byteCells_append]
 exact hM8
theorem xu {w0 w : World} {gw : Nat} {p v : Value} {pl : Bool} {bs : List UInt8} {T : List Ck} (hp : p = .pointer none ∨ p = .pointer (some ⟨gw, 0, none⟩)) (hM0 : Mg w0 w (.obj gw (.cells #[p, v, .bool pl] 42) :: .row BY 1 v bs.length (Lib.byteCells bs) :: T)) (hT : QT T) {r : Int} (hr0 : -2147483648 ≤ r) (hr1 : r ≤ 2147483647) (hroom : bs.length + 4 ≤ 140737488355328) : Calls Tryz.prog 51 #[.pointer (some ⟨gw, 0, none⟩), .int .i32 r] w fun e w' => ∃ z, e = .returned z ∧ ∃ v', Mg w0 w' (.obj gw (.cells #[.pointer (some ⟨gw, 0, none⟩), v', .bool pl] 42) :: .row BY 1 v' (bs ++ Lib.encodeRune r).length (Lib.byteCells (bs ++ Lib.encodeRune r)) :: T) := by
 obtain ⟨so0, ca0, rfl⟩ := ut (hM0.has 1 rfl)
 have M : Mg w0 w (.obj gw (.cells #[p, .slice so0 bs.length ca0, .bool pl] 42) :: .row BY 1 (.slice so0 bs.length ca0) bs.length ((Lib.byteCells bs)) :: T) := hM0
 refine qm (l := [(0, .pointer (some ⟨gw, 0, none⟩)), (1, .int .i32 r)]) Tryz.func51 rfl Tryz.ntmps51 rfl rfl ?_
 intro Q hret hnorm hP a A
 refine wsk fun K1 hK1 => wrl ?_
 iterate 2 refine sda A λa A↦?_
 refine qa (hK1 _ _ (wsk fun K2 hK2 => wrl (sdm A λa A↦?_)))
 refine sct A (ef rfl rfl) (qxh hp M) ?_
 rintro _ w3 ⟨rfl, hMc⟩
 replace M : Mg w0 w3 (.obj gw (.cells #[.pointer (some ⟨gw, 0, none⟩), .slice so0 bs.length ca0, .bool pl] 42) :: .row BY 1 (.slice so0 bs.length ca0) bs.length ((Lib.byteCells bs)) :: T) := hMc
 refine ⟨_, rfl, ?_⟩
 intro a A
 refine qa (hK2 _ _ (wsk fun K4 hK4 => wrl (sdm A λa A↦?_)))
 refine sdo A (qi rfl) λa A↦?_
 refine sdo (v := .pointer (some ⟨gw, 1, none⟩)) A (qb TwC_fld_40_1 rfl rfl) λa A↦?_
 refine sdo A (qk M TwC_is1_27 rfl 0 rfl rfl) λa A↦?_
 refine sdo A (qx Tryz.underlying27 rfl) λa A↦?_
 refine sda A λa A↦?_
 refine qa (hK4 _ _ (wsk fun K5 hK5 => wrl ?_))
 iterate 2 refine sdm A λa A↦?_
 refine sdo A (qi rfl) λa A↦?_
 refine sdo (v := .pointer (some ⟨gw, 1, none⟩)) A (qb TwC_fld_40_1 rfl rfl) λa A↦?_
 refine sdo A (qk M TwC_is1_27 rfl 0 rfl rfl) λa A↦?_
 refine sdm A λa A↦?_
 refine sct A (ef rfl rfl) (zgb M (kt (by decide)) hT hr0 hr1 hroom) ?_
 rintro _ w10 ⟨v6, rfl, hM9⟩
 obtain ⟨so7, ca8, rfl⟩ := ut (hM9.has 1 rfl)
 replace M : Mg w0 w10 (.obj gw (.cells #[.pointer (some ⟨gw, 0, none⟩), .slice so0 bs.length ca0, .bool pl] 42) :: .row BY 1 (.slice so7 ((bs.length + (Lib.runeCells r).length)) ca8) ((bs.length + (Lib.runeCells r).length)) ((Lib.byteCells bs ++ Lib.runeCells r)) :: T) := hM9
 refine ⟨_, rfl, ?_⟩
 intro a A
 refine sdo A (qi rfl) λa A↦?_
 refine sdo (v := .pointer (some ⟨gw, 1, none⟩)) A (qb TwC_fld_40_1 rfl rfl) λa A↦?_
 refine qz (us := [.pointer (some ⟨gw, 0, none⟩), .slice so7 ((bs.length + (Lib.runeCells r).length)) ca8, .bool pl]) (L' := (.obj gw (.cells #[.pointer (some ⟨gw, 0, none⟩), .slice so7 ((bs.length + (Lib.runeCells r).length)) ca8, .bool pl] 42) :: .row BY 1 (.slice so7 ((bs.length + (Lib.runeCells r).length)) ca8) ((bs.length + (Lib.runeCells r).length)) ((Lib.byteCells bs ++ Lib.runeCells r)) :: T)) A M rfl rfl (qw rfl rfl rfl (by kernel_rfl) M 0 rfl rfl rfl) 0 rfl rfl rfl ?_
 intro w11 M
 refine qa (hK5 _ _ (wsk fun K12 hK12 => wrl (sdm A λa A↦?_)))
 refine sdo A (qi rfl) λa A↦?_
 refine sdo (v := .pointer (some ⟨gw, 1, none⟩)) A (qb TwC_fld_40_1 rfl rfl) λa A↦?_
 refine sdo A (qk M TwC_is1_27 rfl 0 rfl rfl) λa A↦?_
 refine sdo A (qx Tryz.underlying27 rfl) λa A↦?_
 refine sdm A λa A↦?_
 refine sdo (v := .int .i64 (IntKind.i64.wrap ((((bs.length + (Lib.runeCells r).length) : Nat) : Int) - ((bs.length : Nat) : Int)))) A (qe rfl rfl (ar_sub rfl)) λa A↦?_
 iterate 2 refine sda A λa A↦?_
 refine qa (hK12 _ _ (wp_ret (hret _ _ (en2 A rfl (qf rfl) (qf rfl) ?_))))
 refine ⟨_, rfl, .slice so7 ((bs.length + (Lib.runeCells r).length)) ca8, ?_⟩
 rw [← qyg, Lib.byteCells_append, Lib.byteCells_encodeRune]
 exact M
theorem TwD_fld_42_0 : FieldAt Tryz.prog 42 0 0 := ⟨_, _, Tryz.underlying42, rfl, rfl, by kernel_rfl⟩
theorem qyh {w0 w : World} {gw : Nat} {p v : Value} {pl : Bool} {bs : List UInt8} {T : List Ck} (hp : p = .pointer none ∨ p = .pointer (some ⟨gw, 0, none⟩)) (hM0 : Mg w0 w (.obj gw (.cells #[p, v, .bool pl] 42) :: .row BY 1 v bs.length (Lib.byteCells bs) :: T)) (hT : QT T)  (hroom : bs.length + ([35, 116]).length ≤ 1000000000) : Calls Tryz.prog 24 #[.pointer (some ⟨gw, 0, none⟩), .bool true] w fun e w' => e = .returned (.tuple #[]) ∧ ∃ v', Mg w0 w' (.obj gw (.cells #[.pointer (some ⟨gw, 0, none⟩), v', .bool pl] 42) :: .row BY 1 v' (bs ++ ([35, 116])).length (Lib.byteCells (bs ++ ([35, 116]))) :: T) := by
 have M : Mg w0 w (.obj gw (.cells #[p, v, .bool pl] 42) :: .row BY 1 (v) bs.length ((Lib.byteCells bs)) :: T) := hM0
 refine qm (l := [(0, .pointer (some ⟨gw, 0, none⟩)), (1, .bool true)]) Tryz.func24 rfl Tryz.ntmps24 rfl rfl ?_
 intro Q hret hnorm hP a A
 refine wsk fun K1 hK1 => wrl (sdm A λa A↦?_)
 refine qa (hK1 _ _ (wp_cond_true (A.ev rfl) ?_))
 refine wrl (sdm A λa A↦?_)
 refine sdo A (qi rfl) λa A↦?_
 refine sdo (v := .pointer (some ⟨gw, 0, none⟩)) A (qb TwD_fld_42_0 rfl rfl) λa A↦?_
 refine sct A (ef rfl rfl) (ja hp (toW (X := []) M) (s := ⟨#[35, 116]⟩) (by simp only [List.length_append, List.length_cons, List.length_nil, Array.size, ByteArray.size, List.size_toArray] at *; omega)) ?_
 rintro _ w4 ⟨rfl, v2, hM3⟩
 replace M : Mg w0 w4 (.obj gw (.cells #[.pointer (some ⟨gw, 0, none⟩), v2, .bool pl] 42) :: .row BY 1 (v2) (((bs ++ [35, 116])).length) ((Lib.byteCells ((bs ++ [35, 116])))) :: T) := (qs (X := []) hM3)
 refine ⟨_, rfl, ?_⟩
 intro a A
 refine qa (hnorm _ _ (ji (v := .tuple #[]) A rfl .nil rfl ?_))
 refine ⟨rfl, v2, ?_⟩
 have hM8 := M.sub (L' := _ :: _ :: T) (.cons_cons _ (.cons_cons _ (.refl _)))
 simpa only [List.append_assoc, List.append_nil, List.cons_append, List.nil_append] using hM8
theorem quh {w0 w : World} {gw : Nat} {p v : Value} {pl : Bool} {bs : List UInt8} {T : List Ck} (hp : p = .pointer none ∨ p = .pointer (some ⟨gw, 0, none⟩)) (hM0 : Mg w0 w (.obj gw (.cells #[p, v, .bool pl] 42) :: .row BY 1 v bs.length (Lib.byteCells bs) :: T)) (hT : QT T)  (hroom : bs.length + ([35, 102]).length ≤ 1000000000) : Calls Tryz.prog 24 #[.pointer (some ⟨gw, 0, none⟩), .bool false] w fun e w' => e = .returned (.tuple #[]) ∧ ∃ v', Mg w0 w' (.obj gw (.cells #[.pointer (some ⟨gw, 0, none⟩), v', .bool pl] 42) :: .row BY 1 v' (bs ++ ([35, 102])).length (Lib.byteCells (bs ++ ([35, 102]))) :: T) := by
 have M : Mg w0 w (.obj gw (.cells #[p, v, .bool pl] 42) :: .row BY 1 (v) bs.length ((Lib.byteCells bs)) :: T) := hM0
 refine qm (l := [(0, .pointer (some ⟨gw, 0, none⟩)), (1, .bool false)]) Tryz.func24 rfl Tryz.ntmps24 rfl rfl ?_
 intro Q hret hnorm hP a A
 refine wsk fun K1 hK1 => wrl (sdm A λa A↦?_)
 refine qa (hK1 _ _ (wp_cond_false (A.ev rfl) ?_))
 refine wrl (sdm A λa A↦?_)
 refine sdo A (qi rfl) λa A↦?_
 refine sdo (v := .pointer (some ⟨gw, 0, none⟩)) A (qb TwD_fld_42_0 rfl rfl) λa A↦?_
 refine sct A (ef rfl rfl) (ja hp (toW (X := []) M) (s := ⟨#[35, 102]⟩) (by simp only [List.length_append, List.length_cons, List.length_nil, Array.size, ByteArray.size, List.size_toArray] at *; omega)) ?_
 rintro _ w4 ⟨rfl, v2, hM3⟩
 replace M : Mg w0 w4 (.obj gw (.cells #[.pointer (some ⟨gw, 0, none⟩), v2, .bool pl] 42) :: .row BY 1 (v2) (((bs ++ [35, 102])).length) ((Lib.byteCells ((bs ++ [35, 102])))) :: T) := (qs (X := []) hM3)
 refine ⟨_, rfl, ?_⟩
 intro a A
 refine qa (hnorm _ _ (ji (v := .tuple #[]) A rfl .nil rfl ?_))
 refine ⟨rfl, v2, ?_⟩
 have hM8 := M.sub (L' := _ :: _ :: T) (.cons_cons _ (.cons_cons _ (.refl _)))
 simpa only [List.append_assoc, List.append_nil, List.cons_append, List.nil_append] using hM8
theorem zic {w0 w : World} {gw : Nat} {v : Value} {pl : Bool} {bs : List UInt8} {T : List Ck} (hM0 : Mg w0 w (.obj gw (.cells #[.pointer (some ⟨gw, 0, none⟩), v, .bool pl] 42) :: .row BY 1 v bs.length (Lib.byteCells bs) :: T)) : Calls Tryz.prog 60 #[.pointer (some ⟨gw, 0, none⟩), .int .i64 0] w fun e w' => e = .returned (.tuple #[]) ∧ Mg w0 w' (.obj gw (.cells #[.pointer (some ⟨gw, 0, none⟩), v, .bool pl] 42) :: .row BY 1 v bs.length (Lib.byteCells bs) :: T) := by
 have M : Mg w0 w (.obj gw (.cells #[.pointer (some ⟨gw, 0, none⟩), v, .bool pl] 42) :: .row BY 1 (v) bs.length ((Lib.byteCells bs)) :: T) := hM0
 refine qm (l := [(0, .pointer (some ⟨gw, 0, none⟩)), (1, .int .i64 0)]) Tryz.func60 rfl Tryz.ntmps60 rfl rfl ?_
 intro Q hret hnorm hP a A
 refine wsk fun K1 hK1 => wrl (sdm A λa A↦?_)
 refine sdo (v := .bool false) A (qe rfl rfl (fun w => by kernel_rfl)) λa A↦?_
 refine qa (hK1 _ _ (wp_cond_false (A.ev rfl) ?_))
 refine wp_skip (hnorm _ _ (ji (v := .tuple #[]) A rfl .nil rfl ?_))
 exact ⟨rfl, M⟩
theorem zid {w0 w : World} {gw : Nat} {p v : Value} {pl : Bool} {bs : List UInt8} {T : List Ck} (hp : p = .pointer none ∨ p = .pointer (some ⟨gw, 0, none⟩)) (hM0 : Mg w0 w (.obj gw (.cells #[p, v, .bool pl] 42) :: .row BY 1 v bs.length (Lib.byteCells bs) :: T)) (hT : QT T) {i : Int} (hi : 0 < i) (hroom : bs.length + ([32]).length ≤ 1000000000) : Calls Tryz.prog 60 #[.pointer (some ⟨gw, 0, none⟩), .int .i64 i] w fun e w' => e = .returned (.tuple #[]) ∧ ∃ v', Mg w0 w' (.obj gw (.cells #[.pointer (some ⟨gw, 0, none⟩), v', .bool pl] 42) :: .row BY 1 v' (bs ++ ([32])).length (Lib.byteCells (bs ++ ([32]))) :: T) := by
 have M : Mg w0 w (.obj gw (.cells #[p, v, .bool pl] 42) :: .row BY 1 (v) bs.length ((Lib.byteCells bs)) :: T) := hM0
 refine qm (l := [(0, .pointer (some ⟨gw, 0, none⟩)), (1, .int .i64 i)]) Tryz.func60 rfl Tryz.ntmps60 rfl rfl ?_
 intro Q hret hnorm hP a A
 refine wsk fun K1 hK1 => wrl (sdm A λa A↦?_)
 refine sdo (v := .bool true) A (qe rfl rfl (fun w => (je w).trans (by rw [show (decide (0 < i)) = true from (decide_eq_true hi)]))) λa A↦?_
 refine qa (hK1 _ _ (wp_cond_true (A.ev rfl) ?_))
 refine wrl (sdm A λa A↦?_)
 refine sdo A (qi rfl) λa A↦?_
 refine sdo (v := .pointer (some ⟨gw, 0, none⟩)) A (qb TwD_fld_42_0 rfl rfl) λa A↦?_
 refine sct A (ef rfl rfl) (zi hp (toW (X := []) M) hT (b := 32) (by simp only [List.length_append, List.length_cons, List.length_nil, Array.size, ByteArray.size, List.size_toArray] at *; omega)) ?_
 rintro _ w5 ⟨rfl, v2, hM3⟩
 replace M : Mg w0 w5 (.obj gw (.cells #[.pointer (some ⟨gw, 0, none⟩), v2, .bool pl] 42) :: .row BY 1 (v2) (((bs ++ [32])).length) ((Lib.byteCells ((bs ++ [32])))) :: T) := (qs (X := []) hM3)
 refine ⟨_, rfl, ?_⟩
 intro a A
 refine qa (hnorm _ _ (ji (v := .tuple #[]) A rfl .nil rfl ?_))
 refine ⟨rfl, v2, ?_⟩
 have hM8 := M.sub (L' := _ :: _ :: T) (.cons_cons _ (.cons_cons _ (.refl _)))
 simpa only [List.append_assoc, List.append_nil, List.cons_append, List.nil_append] using hM8
theorem zpg {w0 w : World} {gw : Nat} {p v : Value} {pl : Bool} {bs : List UInt8} {T : List Ck} (hp : p = .pointer none ∨ p = .pointer (some ⟨gw, 0, none⟩)) (hM0 : Mg w0 w (.obj gw (.cells #[p, v, .bool pl] 42) :: .row BY 1 v bs.length (Lib.byteCells bs) :: T)) (hT : QT T) {s : ByteArray} (hroom : bs.length + ([35, 60] ++ s.data.toList ++ [62]).length ≤ 1000000000) : Calls Tryz.prog 32 #[.pointer (some ⟨gw, 0, none⟩), .string s] w fun e w' => e = .returned (.tuple #[]) ∧ ∃ v', Mg w0 w' (.obj gw (.cells #[.pointer (some ⟨gw, 0, none⟩), v', .bool pl] 42) :: .row BY 1 v' (bs ++ ([35, 60] ++ s.data.toList ++ [62])).length (Lib.byteCells (bs ++ ([35, 60] ++ s.data.toList ++ [62]))) :: T) := by
 have M : Mg w0 w (.obj gw (.cells #[p, v, .bool pl] 42) :: .row BY 1 (v) bs.length ((Lib.byteCells bs)) :: T) := hM0
 refine qm (l := [(0, .pointer (some ⟨gw, 0, none⟩)), (1, .string s)]) Tryz.func32 rfl Tryz.ntmps32 rfl rfl ?_
 intro Q hret hnorm hP a A
 refine wsk fun K1 hK1 => wrl (sdm A λa A↦?_)
 refine sdo A (qi rfl) λa A↦?_
 refine sdo (v := .pointer (some ⟨gw, 0, none⟩)) A (qb TwD_fld_42_0 rfl rfl) λa A↦?_
 refine sct A (ef rfl rfl) (ja hp (toW (X := []) M) (s := ⟨#[35, 60]⟩) (by simp only [List.length_append, List.length_cons, List.length_nil, Array.size, ByteArray.size, List.size_toArray] at *; omega)) ?_
 rintro _ w4 ⟨rfl, v2, hM3⟩
 replace M : Mg w0 w4 (.obj gw (.cells #[.pointer (some ⟨gw, 0, none⟩), v2, .bool pl] 42) :: .row BY 1 (v2) (((bs ++ [35, 60])).length) ((Lib.byteCells ((bs ++ [35, 60])))) :: T) := (qs (X := []) hM3)
 refine ⟨_, rfl, ?_⟩
 intro a A
 refine qa (hK1 _ _ (wsk fun K5 hK5 => wrl (sdm A λa A↦?_)))
 refine sdo A (qi rfl) λa A↦?_
 refine sdo (v := .pointer (some ⟨gw, 0, none⟩)) A (qb TwD_fld_42_0 rfl rfl) λa A↦?_
 refine sdm A λa A↦?_
 refine sct A (ef rfl rfl) (ja (.inr rfl) (toW (X := []) M) (s := s) (by simp only [List.length_append, List.length_cons, List.length_nil, Array.size, ByteArray.size, List.size_toArray] at *; omega)) ?_
 rintro _ w8 ⟨rfl, v6, hM7⟩
 replace M : Mg w0 w8 (.obj gw (.cells #[.pointer (some ⟨gw, 0, none⟩), v6, .bool pl] 42) :: .row BY 1 (v6) ((((bs ++ [35, 60]) ++ s.data.toList)).length) ((Lib.byteCells (((bs ++ [35, 60]) ++ s.data.toList)))) :: T) := (qs (X := []) hM7)
 refine ⟨_, rfl, ?_⟩
 intro a A
 refine qa (hK5 _ _ (wrl (sdm A λa A↦?_)))
 refine sdo A (qi rfl) λa A↦?_
 refine sdo (v := .pointer (some ⟨gw, 0, none⟩)) A (qb TwD_fld_42_0 rfl rfl) λa A↦?_
 refine sct A (ef rfl rfl) (zi (.inr rfl) (toW (X := []) M) hT (b := 62) (by simp only [List.length_append, List.length_cons, List.length_nil, Array.size, ByteArray.size, List.size_toArray] at *; omega)) ?_
 rintro _ w12 ⟨rfl, v9, hM10⟩
 replace M : Mg w0 w12 (.obj gw (.cells #[.pointer (some ⟨gw, 0, none⟩), v9, .bool pl] 42) :: .row BY 1 (v9) (((((bs ++ [35, 60]) ++ s.data.toList) ++ [62])).length) ((Lib.byteCells ((((bs ++ [35, 60]) ++ s.data.toList) ++ [62])))) :: T) := (qs (X := []) hM10)
 refine ⟨_, rfl, ?_⟩
 intro a A
 refine qa (hnorm _ _ (ji (v := .tuple #[]) A rfl .nil rfl ?_))
 refine ⟨rfl, v9, ?_⟩
 have hM8 := M.sub (L' := _ :: _ :: T) (.cons_cons _ (.cons_cons _ (.refl _)))
 simpa only [List.append_assoc, List.append_nil, List.cons_append, List.nil_append] using hM8
end Go.Proofs.YtabpjchfkbhfpaaGreatDoor.G
