/- A number as it lies in a row of cells. Data as trees: as they lie in memory, and as they are. Steps over data: what is read of a node, and of a list of them. How much a datum holds. The order of data, told on trees: it is one, and 0 for the same trees alone. Bytes compared by the library. The walk of the document's utf8. Units of a text as rows; when a text has no bad byte. Walks of the size of data. -/
import Derived.Test.YtabjlejolmmeeaaGreatDoorPequalo11a
import Derived.Test.YtabjlejolmmeeaaGreatDoorPequalo11b
import Derived.Test.YtabjlejolmmeeaaGreatDoorPequalo11c
import Derived.Lib.ValidU
import Derived.Lib.Bytealg
import Derived.Test.YtabjlejolmmeeaaGreatDoorProg
import Derived.Test.YtabjlejolmmeeaaGreatDoorShelf
import Derived.WalkKit
import Derived.WalkSpells
import Derived.Lib.ConvBytes
namespace Go.Proofs.YtabjlejolmmeeaaGreatDoor.G
open Go.RowKit
set_option linter.unusedVariables false
set_option linter.unusedSimpArgs false

/-- A number as it lies in a row of cells. -/
structure Nu where
  q : Q6
  o1 : Option Addr
  c1 : Nat
  o2 : Option Addr
  c2 : Nat
  o3 : Option Addr
  c3 : Nat
  o4 : Option Addr
  c4 : Nat
def Nu.nm (w : World) (y : Nu) : Prop := Nm w y.q y.o1 y.c1 y.o2 y.c2 y.o3 y.c3 y.o4 y.c4
theorem Nu.below {w w' : World} {y : Nu} (h : y.nm w) (hb : Below w.heap.size w w') : y.nm w' := ⟨h.s1.below hb, h.s2.below hb, h.s3.below hb, h.s4.below hb⟩
def Nu.val (y : Nu) : Value := numV y.q y.o1 y.c1 y.o2 y.c2 y.o3 y.c3 y.o4 y.c4
theorem does_nilp {P : Program} {w : World} {l : List (Nat × Value)} {dst : Option Tmp} {ty : TypeId} {pos : String} {after : Array Edge} {guard : Option (Nat × Bool)} {x : Operand} {a : Addr} (hx : ev l x = some (.pointer (some a))) : Does P l ⟨dst, .nilCheck x, ty, pos, after, guard⟩ w (.pointer (some a)) w := fun ρ h => by
  simp only [execOp, h x _ hx, Sem.run_pure]
/-- A node, but for what is below it. -/
structure Nd where
  k : Int
  n : Int
  y : Nu
  s : ByteArray
  ro : Option Addr
  rc : Nat
  rl : List UInt8
  lo : Option Addr
  lc : Nat
/-- A datum as it lies in memory. -/
inductive Dt where
  | mk (d : Nd) (ts : List Dt)
def Dt.d : Dt → Nd
  | .mk d _ => d
def Dt.ts : Dt → List Dt
  | .mk _ ts => ts
def Nd.cells (d : Nd) (m : Nat) : List Value := [.int .i64 d.k, .int .i64 d.n, .bool d.y.q.b1, .slice d.y.o1 d.y.q.t1.length d.y.c1, .slice d.y.o2 d.y.q.q1.length d.y.c2, .bool d.y.q.b2, .slice d.y.o3 d.y.q.t2.length d.y.c3, .slice d.y.o4 d.y.q.q2.length d.y.c4, .string d.s, .slice d.ro d.rl.length d.rc, .slice d.lo m d.lc]
def Dt.cells (t : Dt) : List Value := t.d.cells t.ts.length
/-- A datum as it is. -/
inductive Tr where
  | mk (k n : Int) (q : Q6) (s : ByteArray) (rl : List UInt8) (ts : List Tr)
def Tr.k : Tr → Int
  | .mk k _ _ _ _ _ => k
def Tr.n : Tr → Int
  | .mk _ n _ _ _ _ => n
def Tr.q : Tr → Q6
  | .mk _ _ q _ _ _ => q
def Tr.s : Tr → ByteArray
  | .mk _ _ _ s _ _ => s
def Tr.rl : Tr → List UInt8
  | .mk _ _ _ _ r _ => r
def Tr.ts : Tr → List Tr
  | .mk _ _ _ _ _ ts => ts
mutual
def Dt.tr : Dt → Tr
  | .mk d ts => .mk d.k d.n d.y.q d.s d.rl (Dt.trs ts)
def Dt.trs : List Dt → List Tr
  | [] => []
  | t :: ts => t.tr :: Dt.trs ts
end
theorem Dt.trs_map : ∀ ts : List Dt, Dt.trs ts = ts.map Dt.tr
  | [] => by simp [Dt.trs]
  | t :: ts => by simp [Dt.trs, Dt.trs_map ts]
mutual
theorem Dt.indT {P : Dt → Prop} (h : ∀ d ts, (∀ t ∈ ts, P t) → P (.mk d ts)) : ∀ t, P t
  | .mk d ts => h d ts (Dt.indL h ts)
theorem Dt.indL {P : Dt → Prop} (h : ∀ d ts, (∀ t ∈ ts, P t) → P (.mk d ts)) : ∀ ts : List Dt, ∀ t ∈ ts, P t
  | [], t, ht => by cases ht
  | u :: us, t, ht => by
    rcases List.mem_cons.1 ht with e | e
    · rw [e]; exact Dt.indT h u
    · exact Dt.indL h us t e
end
mutual
theorem Tr.indT {P : Tr → Prop} (h : ∀ k n q s rl ts, (∀ t ∈ ts, P t) → P (.mk k n q s rl ts)) : ∀ t, P t
  | .mk k n q s rl ts => h k n q s rl ts (Tr.indL h ts)
theorem Tr.indL {P : Tr → Prop} (h : ∀ k n q s rl ts, (∀ t ∈ ts, P t) → P (.mk k n q s rl ts)) : ∀ ts : List Tr, ∀ t ∈ ts, P t
  | [], t, ht => by cases ht
  | u :: us, t, ht => by
    rcases List.mem_cons.1 ht with e | e
    · rw [e]; exact Tr.indT h u
    · exact Tr.indL h us t e
end
/-- These cells stand there. -/
def Here (w : World) (b o : Nat) (cs : List Value) : Prop := b < w.heap.size ∧ ∀ j v, cs[j]? = some v → w.cell? ⟨b, o + j, none⟩ = some v
theorem Here.below {w w' : World} {b o : Nat} {cs : List Value} (h : Here w b o cs) (hb : Below w.heap.size w w') : Here w' b o cs := ⟨Nat.lt_of_lt_of_le h.1 hb.size, fun j v hj => (hb.cell h.1).trans (h.2 j v hj)⟩
/-- A slice reads as these data, one behind the other. -/
def Rt (w : World) (lo : Option Addr) (ts : List Dt) : Prop := ts ≠ [] → ∃ b o, lo = some ⟨b, o, none⟩ ∧ ∀ i t, ts[i]? = some t → Here w b (o + i * 11) t.cells
theorem Rt.below {w w' : World} {lo : Option Addr} {ts : List Dt} (h : Rt w lo ts) (hb : Below w.heap.size w w') : Rt w' lo ts := fun hne => by
  obtain ⟨b, o, e, h2⟩ := h hne
  exact ⟨b, o, e, fun i t hi => (h2 i t hi).below hb⟩
structure NdOk (w : World) (d : Nd) : Prop where
  num : d.y.nm w
  len : LenQ d.y.q
  raw : Rb w d.ro d.rl
  rcap : d.rl.length ≤ d.rc
  rmax : d.rc ≤ 9223372036854775807
  k0 : -9223372036854775808 ≤ d.k
  k1 : d.k ≤ 9223372036854775807
  n0 : -9223372036854775808 ≤ d.n
  n1 : d.n ≤ 9223372036854775807
  smax : d.s.size ≤ 9223372036854775807
theorem NdOk.below {w w' : World} {d : Nd} (h : NdOk w d) (hb : Below w.heap.size w w') : NdOk w' d := { h with num := Nu.below h.num hb, raw := h.raw.below hb }
mutual
/-- A datum reads so. -/
def Dt.rd (w : World) : Dt → Prop
  | .mk d ts => NdOk w d ∧ ts.length ≤ d.lc ∧ d.lc ≤ 9223372036854775807 ∧ Rt w d.lo ts ∧ Dt.rds w ts
def Dt.rds (w : World) : List Dt → Prop
  | [] => True
  | t :: ts => t.rd w ∧ Dt.rds w ts
end
theorem Dt.rds_iff {w : World} : ∀ {ts : List Dt}, Dt.rds w ts ↔ ∀ t ∈ ts, t.rd w
  | [] => by simp [Dt.rds]
  | t :: ts => by simp [Dt.rds, Dt.rds_iff (ts := ts)]
theorem Dt.rd_iff {w : World} {d : Nd} {ts : List Dt} : (Dt.mk d ts).rd w ↔ NdOk w d ∧ ts.length ≤ d.lc ∧ d.lc ≤ 9223372036854775807 ∧ Rt w d.lo ts ∧ ∀ t ∈ ts, t.rd w := by
  rw [← Dt.rds_iff]; unfold Dt.rd; exact Iff.rfl
theorem Dt.keep {w w' : World} (hb : Below w.heap.size w w') : ∀ t : Dt, t.rd w → t.rd w' :=
  Dt.indT fun d ts ih h => by
    rw [Dt.rd_iff] at h ⊢
    exact ⟨h.1.below hb, h.2.1, h.2.2.1, h.2.2.2.1.below hb, fun t ht => ih t ht (h.2.2.2.2 t ht)⟩
theorem Dt.tr_mk (d : Nd) (ts : List Dt) : (Dt.mk d ts).tr = .mk d.k d.n d.y.q d.s d.rl (ts.map Dt.tr) := by rw [Dt.tr, Dt.trs_map]
/-! ### Sound data -/
mutual
/-- How many nodes are left, and whether it was within the limits. -/
def fitT (dp left : Int) : Tr → Bool × Int
  | .mk k _ _ _ _ ts => if left - 1 < 0 ∨ 200 < dp then (false, left - 1) else fitL dp (decide (k = 8)) 0 (left - 1) ts
def fitL (dp : Int) (pr : Bool) (i : Nat) (left : Int) : List Tr → Bool × Int
  | [] => (true, left)
  | t :: ts => if (fitT (if pr = true ∧ i = 1 then dp else dp + 1) left t).1 = true then fitL dp pr (i + 1) (fitT (if pr = true ∧ i = 1 then dp else dp + 1) left t).2 ts else (false, (fitT (if pr = true ∧ i = 1 then dp else dp + 1) left t).2)
end
mutual
/-- Is each node so? -/
def allT (p : Tr → Bool) : Tr → Bool
  | .mk k n q s rl ts => p (.mk k n q s rl ts) && allL p ts
def allL (p : Tr → Bool) : List Tr → Bool
  | [] => true
  | t :: ts => allT p t && allL p ts
end
mutual
/-- The document's count. -/
def cntT (p : Tr → Bool) (dp left : Int) : Tr → Int
  | .mk k n q s rl ts => if 200 < dp ∨ left ≤ 0 ∨ p (.mk k n q s rl ts) = false then -1 else cntL p dp (decide (k = 8)) 0 (left - 1) ts
def cntL (p : Tr → Bool) (dp : Int) (pr : Bool) (i : Nat) (left : Int) : List Tr → Int
  | [] => left
  | t :: ts => if left < 0 then left else cntL p dp pr (i + 1) (cntT p (if pr = true ∧ i = 1 then dp else dp + 1) left t) ts
end
theorem cntL_neg {p : Tr → Bool} {dp left : Int} {pr : Bool} {i : Nat} {ts : List Tr} (h : left < 0) : cntL p dp pr i left ts = left := by
  cases ts with
  | nil => rfl
  | cons t ts => rw [cntL, if_pos h]
def Agree (p : Tr → Bool) (t : Tr) : Prop := ∀ dp left : Int, 0 ≤ left → cntT p dp left t = if (fitT dp left t).1 = true ∧ allT p t = true then (fitT dp left t).2 else -1
theorem fit_pos : ∀ t : Tr, ∀ dp left : Int, (fitT dp left t).1 = true → 0 ≤ (fitT dp left t).2 := by
  refine Tr.indT fun k n q s rl ts ih dp left h => ?_
  rw [fitT] at h ⊢
  by_cases hc : left - 1 < 0 ∨ 200 < dp
  · rw [if_pos hc] at h; cases h
  · rw [if_neg hc] at h ⊢
    have hl : 0 ≤ left - 1 := by omega
    generalize left - 1 = m at h hl ⊢
    generalize decide (k = 8) = pr at h ⊢
    have key : ∀ (us : List Tr), (∀ t ∈ us, ∀ dp left : Int, (fitT dp left t).1 = true → 0 ≤ (fitT dp left t).2) → ∀ (i : Nat) (m : Int), 0 ≤ m → (fitL dp pr i m us).1 = true → 0 ≤ (fitL dp pr i m us).2 := by
      intro us
      induction us with
      | nil => intro _ i m hm _; exact hm
      | cons t us ih2 =>
        intro hu i m hm h
        rw [fitL] at h ⊢
        by_cases ht : (fitT (if pr = true ∧ i = 1 then dp else dp + 1) m t).1 = true
        · rw [if_pos ht] at h ⊢
          exact ih2 (fun x hx => hu x (List.mem_cons_of_mem _ hx)) _ _ (hu t List.mem_cons_self _ _ ht) h
        · rw [if_neg ht] at h; cases h
    exact key ts ih 0 m hl h
theorem agree_all (p : Tr → Bool) : ∀ t : Tr, Agree p t := by
  refine Tr.indT fun k n q s rl ts ih dp left h0 => ?_
  rw [cntT, fitT, allT]
  by_cases hd : 200 < dp
  · rw [if_pos (.inl hd), if_pos (show left - 1 < 0 ∨ 200 < dp from .inr hd), if_neg (by simp)]
  · by_cases hl : left ≤ 0
    · rw [if_pos (.inr (.inl hl)), if_pos (show left - 1 < 0 ∨ 200 < dp from .inl (by omega)), if_neg (by simp)]
    · rw [if_neg (show ¬ (left - 1 < 0 ∨ 200 < dp) by omega)]
      cases hp : p (.mk k n q s rl ts) with
      | false => rw [if_pos (.inr (.inr rfl)), if_neg (by simp)]
      | true =>
        rw [if_neg (by simp; omega), Bool.true_and]
        have hm : 0 ≤ left - 1 := by omega
        generalize left - 1 = m at hm ⊢
        generalize decide (k = 8) = pr
        have key : ∀ (us : List Tr), (∀ t ∈ us, Agree p t) → ∀ (i : Nat) (m : Int), 0 ≤ m → cntL p dp pr i m us = if (fitL dp pr i m us).1 = true ∧ allL p us = true then (fitL dp pr i m us).2 else -1 := by
          intro us
          induction us with
          | nil => intro _ i m hm; rw [cntL, fitL, allL, if_pos ⟨rfl, rfl⟩]
          | cons t us ih2 =>
            intro hu i m hm
            rw [cntL, fitL, allL, if_neg (by omega), hu t List.mem_cons_self _ _ hm]
            by_cases ht : (fitT (if pr = true ∧ i = 1 then dp else dp + 1) m t).1 = true
            · cases ha : allT p t with
              | false =>
                rw [if_neg (by simp), if_neg (by simp), cntL_neg (by decide)]
              | true =>
                rw [if_pos ⟨ht, rfl⟩, if_pos ht, Bool.true_and]
                exact ih2 (fun x hx => hu x (List.mem_cons_of_mem _ hx)) _ _ (fit_pos t _ _ ht)
            · rw [if_neg (fun e => ht e.1), if_neg ht, if_neg (by simp), cntL_neg (by decide)]
        exact key ts ih 0 m hm
/-- Within the limits, and sound at each node. -/
def soundT (p : Tr → Bool) (t : Tr) : Bool := (fitT 1 20000 t).1 && allT p t
theorem count_sound (p : Tr → Bool) (t : Tr) : decide (0 ≤ cntT p 1 20000 t) = soundT p t := by
  rw [agree_all p t 1 20000 (by decide)]
  unfold soundT
  by_cases h : (fitT 1 20000 t).1 = true
  · cases ha : allT p t with
    | true =>
      rw [if_pos ⟨h, rfl⟩, h, Bool.and_self]
      exact decide_eq_true (fit_pos t _ _ h)
    | false => rw [if_neg (by simp), Bool.and_false]; rfl
  · rw [if_neg (fun e => h e.1), Bool.eq_false_iff.2 h]; rfl
section
variable {P : Program} {w0 w : World} {L : List Ck} {l : List (Nat × Value)} {dst : Option Tmp} {ty : TypeId} {pos : String} {after : Array Edge} {guard : Option (Nat × Bool)} {v : Value}
theorem m_loadH (hM : Mg w0 w L) {b o o' j : Nat} {cs : List Value} (hH : Here w0 b o cs) {t : TypeId} (ht : Is1 P t) {x : Operand} (hx : ev l x = some (.pointer (some ⟨b, o', none⟩))) (ho : o' = o + j) (hv : cs[j]? = some v) : Does P l ⟨dst, .load t x, ty, pos, after, guard⟩ w v w := by
  subst ho
  exact does_load hx (run_load1 ht ((hM.bel.cell hH.1).trans (hH.2 j v hv)))
theorem m_loadHS (hM : Mg w0 w L) {b o n : Nat} {cs : List Value} (hH : Here w0 b o cs) {t : TypeId} (ht : IsS P t n) {x : Operand} (hx : ev l x = some (.pointer (some ⟨b, o, none⟩))) (hl : cs.length = n) : Does P l ⟨dst, .load t x, ty, pos, after, guard⟩ w (.agg cs.toArray) w :=
  does_load hx (run_loadS ht cs hl (fun j v hj => (hM.bel.cell hH.1).trans (hH.2 j v hj)))
theorem does_indexD {t e : TypeId} {sz : Nat} (hu : P.underlying t = some (.slice e)) (he : (P.info? e).map (·.size) = some sz) {x i : Operand} {so : Option Addr} {g off n c k : Nat} {z : Int} (hx : ev l x = some (.slice so n c)) (hi : ev l i = some (.int .i64 z)) (hz : z = (k : Nat)) (hso : so = some ⟨g, off, none⟩) (hk : k < n) :
    Does P l ⟨dst, .indexAddr t x i, ty, pos, after, guard⟩ w (.pointer (some ⟨g, off + k * sz, none⟩)) w := by
  subst hz hso
  exact does_indexI (l := l) (dst := dst) (ty := ty) (pos := pos) (after := after) (guard := guard) (w := w) hx hi (run_indexE hu he hk)
end
/-- A child of a node. -/
theorem kid {w : World} {d : Nd} {ts : List Dt} (h : (Dt.mk d ts).rd w) {i : Nat} (hi : i < ts.length) : ∃ t b o, ts[i]? = some t ∧ t ∈ ts ∧ t.rd w ∧ d.lo = some ⟨b, o, none⟩ ∧ Here w b (o + i * 11) t.cells := by
  rw [Dt.rd_iff] at h
  have hne : ts ≠ [] := fun e => by subst e; simp at hi
  obtain ⟨b, o, e, h2⟩ := h.2.2.2.1 hne
  have ht := List.getElem?_eq_getElem hi
  exact ⟨ts[i], b, o, ht, List.getElem_mem hi, h.2.2.2.2 _ (List.getElem_mem hi), e, h2 i _ ht⟩
theorem drop_kid {ts : List Dt} {i : Nat} {t : Dt} (h : ts[i]? = some t) : (ts.map Dt.tr).drop i = t.tr :: (ts.map Dt.tr).drop (i + 1) := by
  obtain ⟨hi, rfl⟩ := List.getElem?_eq_some_iff.1 h
  rw [List.drop_eq_getElem_cons (by simpa using hi)]
  simp
theorem drop_kids {ts : List Dt} {i : Nat} (h : ¬ i < ts.length) : (ts.map Dt.tr).drop i = [] := List.drop_of_length_le (by simp; omega)
theorem fit_le : ∀ t : Tr, ∀ dp left : Int, (fitT dp left t).2 ≤ left := by
  refine Tr.indT fun k n q s rl ts ih dp left => ?_
  rw [fitT]
  split
  · show left - 1 ≤ left; omega
  · have key : ∀ (us : List Tr), (∀ t ∈ us, ∀ dp left : Int, (fitT dp left t).2 ≤ left) → ∀ (i : Nat) (m : Int), (fitL dp (decide (k = 8)) i m us).2 ≤ m := by
      intro us
      induction us with
      | nil => intro _ i m; exact Int.le_refl _
      | cons t us ih2 =>
        intro hu i m
        rw [fitL]
        generalize (if decide (k = 8) = true ∧ i = 1 then dp else dp + 1) = D
        have h1 := hu t List.mem_cons_self D m
        split
        · exact Int.le_trans (ih2 (fun x hx => hu x (List.mem_cons_of_mem _ hx)) _ _) h1
        · exact h1
    have := key ts ih 0 (left - 1)
    omega
theorem fitL_go {dp m D : Int} {pr : Bool} {i : Nat} {ts : List Dt} {t : Dt} (hi : ts[i]? = some t) (hD : (if pr = true ∧ i = 1 then dp else dp + 1) = D) (h : (fitT D m t.tr).1 = true) : fitL dp pr i m ((ts.map Dt.tr).drop i) = fitL dp pr (i + 1) (fitT D m t.tr).2 ((ts.map Dt.tr).drop (i + 1)) := by
  rw [drop_kid hi, fitL, hD, if_pos h]
theorem fitL_stop {dp m D : Int} {pr : Bool} {i : Nat} {ts : List Dt} {t : Dt} (hi : ts[i]? = some t) (hD : (if pr = true ∧ i = 1 then dp else dp + 1) = D) (h : (fitT D m t.tr).1 = false) : fitL dp pr i m ((ts.map Dt.tr).drop i) = (false, (fitT D m t.tr).2) := by
  rw [drop_kid hi, fitL, hD, if_neg (by rw [h]; decide)]
theorem fitT_in {dp left : Int} {d : Nd} {ts : List Dt} (h1 : ¬ left - 1 < 0) (h2 : ¬ 200 < dp) : fitT dp left (Dt.mk d ts).tr = fitL dp (decide (d.k = 8)) 0 (left - 1) ((ts.map Dt.tr).drop 0) := by
  rw [Dt.tr_mk, fitT, if_neg (by omega), List.drop_zero]
theorem fitT_no {dp left : Int} {d : Nd} {ts : List Dt} (h : left - 1 < 0 ∨ 200 < dp) : fitT dp left (Dt.mk d ts).tr = (false, left - 1) := by
  rw [Dt.tr_mk, fitT, if_pos h]
theorem allT_mk {p : Tr → Bool} {d : Nd} {ts : List Dt} : allT p (Dt.mk d ts).tr = (p (Dt.mk d ts).tr && allL p ((ts.map Dt.tr).drop 0)) := by
  rw [Dt.tr_mk, allT, List.drop_zero]
theorem allL_go {p : Tr → Bool} {i : Nat} {ts : List Dt} {t : Dt} (hi : ts[i]? = some t) : allL p ((ts.map Dt.tr).drop i) = (allT p t.tr && allL p ((ts.map Dt.tr).drop (i + 1))) := by
  rw [drop_kid hi, allL]
theorem cntT_mk {p : Tr → Bool} {dp left : Int} {d : Nd} {ts : List Dt} (h1 : ¬ 200 < dp) (h2 : ¬ left ≤ 0) (h3 : p (Dt.mk d ts).tr = true) : cntT p dp left (Dt.mk d ts).tr = cntL p dp (decide (d.k = 8)) 0 (left - 1) ((ts.map Dt.tr).drop 0) := by
  rw [Dt.tr_mk] at h3 ⊢
  rw [cntT, if_neg (by rw [h3]; simp; omega), List.drop_zero]
theorem cntT_no {p : Tr → Bool} {dp left : Int} {d : Nd} {ts : List Dt} (h : 200 < dp ∨ left ≤ 0 ∨ p (Dt.mk d ts).tr = false) : cntT p dp left (Dt.mk d ts).tr = -1 := by
  rw [Dt.tr_mk] at h ⊢
  rw [cntT, if_pos h]
theorem cntL_go {p : Tr → Bool} {dp m D : Int} {pr : Bool} {i : Nat} {ts : List Dt} {t : Dt} (hi : ts[i]? = some t) (hm : ¬ m < 0) (hD : (if pr = true ∧ i = 1 then dp else dp + 1) = D) : cntL p dp pr i m ((ts.map Dt.tr).drop i) = cntL p dp pr (i + 1) (cntT p D m t.tr) ((ts.map Dt.tr).drop (i + 1)) := by
  rw [drop_kid hi, cntL, if_neg hm, hD]
theorem cnt_le (p : Tr → Bool) (t : Tr) (dp left : Int) (h : 0 ≤ left) : -1 ≤ cntT p dp left t ∧ cntT p dp left t ≤ left := by
  rw [agree_all p t dp left h]
  split
  · rename_i hc
    exact ⟨by have := fit_pos t _ _ hc.1; omega, fit_le t _ _⟩
  · exact ⟨by omega, by omega⟩
/-- A fraction without words. -/
def nowB (b : Bool) (m m' : Nat) : Bool := !b && (decide (m = 0) && decide (m' = 0))
/-- Nothing beside the kind. -/
def bareB (n : Int) (b1 : Bool) (m1 m2 : Nat) (b2 : Bool) (m3 m4 : Nat) (s : ByteArray) (mr ml : Nat) : Bool := decide (n = 0) && (nowB b1 m1 m2 && (nowB b2 m3 m4 && (decide (s = ⟨#[]⟩) && (decide (mr = 0) && decide (ml = 0)))))
def isCh (n : Int) : Bool := decide (0 ≤ n ∧ n ≤ 1114111 ∧ (n < 55296 ∨ 57343 < n))
/-- A text of characters. -/
def okS (s : ByteArray) : Bool := Lib.validD s.data.toList
/-- Sound by its kind. -/
def shapeB (k n : Int) (q : Q6) (s : ByteArray) (mr ml : Nat) : Bool :=
  if k = 1 ∨ k = 10 then bareB n q.b1 q.t1.length q.q1.length q.b2 q.t2.length q.q2.length s mr ml
  else if k = 2 then decide (n = 0 ∨ n = 1) && bareB 0 q.b1 q.t1.length q.q1.length q.b2 q.t2.length q.q2.length s mr ml
  else if k = 3 then soundQ q && bareB n false 0 0 false 0 0 s mr ml
  else if k = 4 then isCh n && bareB 0 q.b1 q.t1.length q.q1.length q.b2 q.t2.length q.q2.length s mr ml
  else if k = 5 ∨ k = 6 ∨ k = 11 then okS s && bareB n q.b1 q.t1.length q.q1.length q.b2 q.t2.length q.q2.length ⟨#[]⟩ mr ml
  else if k = 7 then bareB n q.b1 q.t1.length q.q1.length q.b2 q.t2.length q.q2.length s 0 ml
  else if k = 8 then decide (ml = 2) && bareB n q.b1 q.t1.length q.q1.length q.b2 q.t2.length q.q2.length s mr 0
  else if k = 9 then bareB n q.b1 q.t1.length q.q1.length q.b2 q.t2.length q.q2.length s mr 0
  else false
def shapeT : Tr → Bool
  | .mk k n q s rl ts => shapeB k n q s rl.length ts.length
theorem shapeT_mk {d : Nd} {ts : List Dt} : shapeT (Dt.mk d ts).tr = shapeB d.k d.n d.y.q d.s d.rl.length ts.length := by
  rw [Dt.tr_mk, shapeT, List.length_map]
mutual
/-- How much a datum holds. -/
def Tr.bulk : Tr → Nat
  | .mk _ _ q s rl ts => s.size + rl.length + (q.t1.length + q.q1.length + (q.t2.length + q.q2.length)) + 1 + Tr.bulks ts
def Tr.bulks : List Tr → Nat
  | [] => 0
  | t :: ts => t.bulk + Tr.bulks ts
end
theorem trbulk_mk {k n : Int} {q : Q6} {s : ByteArray} {rl : List UInt8} {ts : List Tr} : (Tr.mk k n q s rl ts).bulk = s.size + rl.length + (q.t1.length + q.q1.length + (q.t2.length + q.q2.length)) + 1 + Tr.bulks ts := by rw [Tr.bulk]
theorem bulk_kids : ∀ {ts : List Tr} {t : Tr}, t ∈ ts → t.bulk ≤ Tr.bulks ts
  | u :: us, t, h => by
    rw [Tr.bulks]
    rcases List.mem_cons.1 h with e | e
    · subst e; omega
    · have := bulk_kids e; omega
theorem bulk_kid {d : Nd} {ts : List Dt} {t : Dt} (h : t ∈ ts) : t.tr.bulk + d.s.size + 1 ≤ (Dt.mk d ts).tr.bulk := by
  rw [Dt.tr_mk, trbulk_mk]
  have := bulk_kids (List.mem_map_of_mem (f := Dt.tr) h)
  omega
theorem bulk_text {d : Nd} {ts : List Dt} : d.s.size ≤ (Dt.mk d ts).tr.bulk := by
  rw [Dt.tr_mk, trbulk_mk]
  omega
open Go.RowKit Go.Lib
def cmpI (a b : Int) : Int := if a < b then -1 else if b < a then 1 else 0
/-- The first that is not 0. -/
def lex (x y : Int) : Int := if x = 0 then y else x
def ordN (p q : Q6) : Int := lex (cmpR (reQ p) (reQ q)) (cmpR (imQ p) (imQ q))
/-- Of two nodes of one kind, but for their lists. -/
def ordK (k n m : Int) (p q : Q6) (s t : ByteArray) (rl rm : List UInt8) : Int := if k = 3 then ordN p q else if k = 5 ∨ k = 6 ∨ k = 11 then compareBytes s.data.toList t.data.toList else if k = 7 then compareBytes rl rm else cmpI n m
mutual
def ordT : Tr → Tr → Int
  | .mk k n q s rl ts, u => lex (cmpI k u.k) (if k = 8 ∨ k = 9 then lex (cmpI (ts.length : Int) (u.ts.length : Int)) (ordL ts u.ts) else ordK k n u.n q u.q s u.s rl u.rl)
def ordL : List Tr → List Tr → Int
  | [], _ => 0
  | _ :: _, [] => 0
  | t :: ts, u :: us => lex (ordT t u) (ordL ts us)
end
/-- What goes through a third one. -/
def J3 (x y z : Int) : Prop := (x ≤ 0 → y ≤ 0 → z ≤ 0) ∧ (x < 0 → y ≤ 0 → z < 0) ∧ (x ≤ 0 → y < 0 → z < 0) ∧ (x = 0 → y = 0 → z = 0)
theorem J3.lex {x1 y1 z1 x2 y2 z2 : Int} (h : J3 x1 y1 z1) (k : x1 = 0 → y1 = 0 → J3 x2 y2 z2) : J3 (lex x1 x2) (lex y1 y2) (lex z1 z2) := by
  unfold G.lex
  obtain ⟨a, b, c, d⟩ := h
  by_cases hx : x1 = 0
  · by_cases hy : y1 = 0
    · have hz := d hx hy
      rw [if_pos hx, if_pos hy, if_pos hz]
      exact k hx hy
    · rw [if_pos hx, if_neg hy]
      by_cases hz : z1 = 0
      · have h1 : 0 < y1 := by
          apply Classical.byContradiction
          intro h
          have := c (by omega) (by omega)
          omega
        exact ⟨fun _ _ => by omega, fun _ _ => by omega, fun _ _ => by omega, fun _ _ => by omega⟩
      · rw [if_neg hz]
        exact ⟨fun _ _ => a (by omega) (by omega), fun _ _ => c (by omega) (by omega), fun _ _ => c (by omega) (by omega), fun _ _ => by omega⟩
  · rw [if_neg hx]
    by_cases hy : y1 = 0
    · rw [if_pos hy]
      by_cases hz : z1 = 0
      · have h1 : 0 < x1 := by
          apply Classical.byContradiction
          intro h
          have := b (by omega) (by omega)
          omega
        exact ⟨fun _ _ => by omega, fun _ _ => by omega, fun _ _ => by omega, fun _ _ => by omega⟩
      · rw [if_neg hz]
        exact ⟨fun _ _ => a (by omega) (by omega), fun _ _ => b (by omega) (by omega), fun _ _ => b (by omega) (by omega), fun _ _ => by omega⟩
    · rw [if_neg hy]
      by_cases hz : z1 = 0
      · rw [if_pos hz]
        exact ⟨fun _ _ => by have := b (by omega) (by omega); omega, fun _ _ => by have := b (by omega) (by omega); omega, fun _ _ => by have := b (by omega) (by omega); omega, fun _ _ => by omega⟩
      · rw [if_neg hz]; exact ⟨a, b, c, fun _ _ => by omega⟩
theorem J3_int (a b c : Int) : J3 (cmpI a b) (cmpI b c) (cmpI a c) := by
  unfold cmpI J3
  refine ⟨?_, ?_, ?_, ?_⟩ <;> repeat' split <;> omega
theorem cmpI_turn (a b : Int) : cmpI b a = -cmpI a b := by unfold cmpI; repeat' split <;> omega
theorem cmpI_zero {a b : Int} (h : cmpI a b = 0) : a = b := by
  unfold cmpI at h
  split at h
  · exact absurd h (by decide)
  · split at h
    · exact absurd h (by decide)
    · omega
theorem cmpI_range (a b : Int) : -1 ≤ cmpI a b ∧ cmpI a b ≤ 1 := by unfold cmpI; repeat' split <;> omega
theorem lex_turn {x y x' y' : Int} (h : x' = -x) (k : y' = -y) : lex x' y' = -lex x y := by
  unfold lex
  subst h k
  by_cases hx : x = 0
  · rw [if_pos hx, if_pos (by omega)]
  · rw [if_neg hx, if_neg (by omega)]
theorem lex_range {x y : Int} (h : -1 ≤ x ∧ x ≤ 1) (k : -1 ≤ y ∧ y ≤ 1) : -1 ≤ lex x y ∧ lex x y ≤ 1 := by unfold lex; split <;> assumption
theorem cmpR_zero {x y : Rat} (h : cmpR x y = 0) : x = y := by
  unfold cmpR at h
  split at h
  · exact absurd h (by decide)
  · split at h
    · assumption
    · exact absurd h (by decide)
theorem cmpR_le {x y : Rat} : cmpR x y ≤ 0 ↔ x ≤ y := by
  unfold cmpR
  by_cases h1 : x < y
  · rw [if_pos h1]; exact ⟨fun _ => Rat.le_of_lt h1, fun _ => by decide⟩
  · rw [if_neg h1]
    by_cases h2 : x = y
    · rw [if_pos h2]; exact ⟨fun _ => by rw [h2]; exact Rat.le_refl, fun _ => by decide⟩
    · rw [if_neg h2]
      refine ⟨fun h => absurd h (by decide), fun h => ?_⟩
      exact absurd (Rat.lt_of_le_of_ne h h2) h1
theorem cmpR_lt0 {x y : Rat} : cmpR x y < 0 ↔ x < y := ⟨cmpR_neg, cmpR_lt⟩
theorem J3_rat (a b c : Rat) : J3 (cmpR a b) (cmpR b c) (cmpR a c) := by
  refine ⟨fun h k => ?_, fun h k => ?_, fun h k => ?_, fun h k => ?_⟩
  · rw [cmpR_le] at *; exact Rat.le_trans h k
  · rw [cmpR_lt0] at *; rw [cmpR_le] at k; grind
  · rw [cmpR_lt0] at *; rw [cmpR_le] at h; grind
  · have e1 := cmpR_zero h
    have e2 := cmpR_zero k
    subst e1 e2
    exact h
theorem cmpR_turn (a b : Rat) : cmpR b a = -cmpR a b := cmpR_swap b a
theorem J3_bytes : ∀ a b c : List UInt8, J3 (compareBytes a b) (compareBytes b c) (compareBytes a c)
  | [], [], [] => by simp [compareBytes, J3]
  | [], [], _ :: _ => by simp [compareBytes, J3]
  | [], _ :: _, [] => by simp [compareBytes, J3]
  | [], _ :: _, _ :: _ => by simp [compareBytes, J3]
  | _ :: _, [], [] => by simp [compareBytes, J3]
  | _ :: _, [], _ :: _ => by simp [compareBytes, J3]
  | _ :: _, _ :: _, [] => by
    simp only [compareBytes, J3]
    refine ⟨fun _ k => by omega, fun _ k => by omega, fun _ k => by omega, fun _ k => by omega⟩
  | x :: a, y :: b, z :: c => by
    have e : ∀ (x y : UInt8) (a b : List UInt8), compareBytes (x :: a) (y :: b) = lex (cmpI x.toNat y.toNat) (compareBytes a b) := by
      intro x y a b
      show (if x < y then (-1 : Int) else if y < x then 1 else compareBytes a b) = _
      unfold lex cmpI
      simp only [UInt8.lt_iff_toNat_lt]
      by_cases h1 : x.toNat < y.toNat
      · rw [if_pos h1, if_pos (by omega : (x.toNat : Int) < y.toNat)]; rfl
      · rw [if_neg h1, if_neg (by omega : ¬ (x.toNat : Int) < y.toNat)]
        by_cases h2 : y.toNat < x.toNat
        · rw [if_pos h2, if_pos (by omega : (y.toNat : Int) < x.toNat)]; rfl
        · rw [if_neg h2, if_neg (by omega : ¬ (y.toNat : Int) < x.toNat)]; rfl
    rw [e, e, e]
    exact (J3_int _ _ _).lex fun _ _ => J3_bytes a b c
theorem bytes_turn : ∀ a b : List UInt8, compareBytes b a = -compareBytes a b
  | [], [] => rfl
  | [], _ :: _ => rfl
  | _ :: _, [] => rfl
  | x :: a, y :: b => by
    show (if y < x then (-1 : Int) else if x < y then 1 else compareBytes b a) = -(if x < y then (-1 : Int) else if y < x then 1 else compareBytes a b)
    have ih := bytes_turn a b
    simp only [UInt8.lt_iff_toNat_lt]
    by_cases h1 : x.toNat < y.toNat
    · rw [if_pos h1, if_neg (by omega), if_pos h1]; rfl
    · by_cases h2 : y.toNat < x.toNat
      · rw [if_pos h2, if_neg h1, if_pos h2]
      · rw [if_neg h2, if_neg h1, if_neg h1, if_neg h2, ih]
theorem bytes_range : ∀ a b : List UInt8, -1 ≤ compareBytes a b ∧ compareBytes a b ≤ 1
  | [], [] => by simp [compareBytes]
  | [], _ :: _ => by simp [compareBytes]
  | _ :: _, [] => by simp [compareBytes]
  | x :: a, y :: b => by
    show -1 ≤ (if x < y then (-1 : Int) else if y < x then 1 else compareBytes a b) ∧ (if x < y then (-1 : Int) else if y < x then 1 else compareBytes a b) ≤ 1
    have ih := bytes_range a b
    split
    · omega
    · split <;> omega
theorem ordK_turn (k n m : Int) (p q : Q6) (s t : ByteArray) (rl rm : List UInt8) : ordK k m n q p t s rm rl = -ordK k n m p q s t rl rm := by
  unfold ordK
  split
  · exact lex_turn (cmpR_turn _ _) (cmpR_turn _ _)
  · split
    · exact bytes_turn _ _
    · split
      · exact bytes_turn _ _
      · exact cmpI_turn _ _
theorem ordK_range (k n m : Int) (p q : Q6) (s t : ByteArray) (rl rm : List UInt8) : -1 ≤ ordK k n m p q s t rl rm ∧ ordK k n m p q s t rl rm ≤ 1 := by
  unfold ordK
  split
  · exact lex_range (cmpR_range _ _) (cmpR_range _ _)
  · split
    · exact bytes_range _ _
    · split
      · exact bytes_range _ _
      · exact cmpI_range _ _
theorem J3_K (k n1 n2 n3 : Int) (q1 q2 q3 : Q6) (s1 s2 s3 : ByteArray) (r1 r2 r3 : List UInt8) : J3 (ordK k n1 n2 q1 q2 s1 s2 r1 r2) (ordK k n2 n3 q2 q3 s2 s3 r2 r3) (ordK k n1 n3 q1 q3 s1 s3 r1 r3) := by
  unfold ordK
  split
  · exact (J3_rat _ _ _).lex fun _ _ => J3_rat _ _ _
  · split
    · exact J3_bytes _ _ _
    · split
      · exact J3_bytes _ _ _
      · exact J3_int _ _ _
/-! ### The order of trees -/
theorem ordT_mk (k n : Int) (q : Q6) (s : ByteArray) (rl : List UInt8) (ts : List Tr) (k' n' : Int) (q' : Q6) (s' : ByteArray) (rl' : List UInt8) (ts' : List Tr) :
    ordT (.mk k n q s rl ts) (.mk k' n' q' s' rl' ts') = lex (cmpI k k') (if k = 8 ∨ k = 9 then lex (cmpI (ts.length : Int) (ts'.length : Int)) (ordL ts ts') else ordK k n n' q q' s s' rl rl') := by
  rw [ordT]; rfl
theorem ordL_turn {ts : List Tr} (h : ∀ t ∈ ts, ∀ u, ordT u t = -ordT t u) : ∀ us, ordL us ts = -ordL ts us := by
  induction ts with
  | nil => intro us; cases us <;> simp [ordL]
  | cons t ts ih =>
    intro us
    cases us with
    | nil => simp [ordL]
    | cons u us =>
      rw [ordL, ordL]
      exact lex_turn (h t List.mem_cons_self u) (ih (fun x hx => h x (List.mem_cons_of_mem _ hx)) us)
theorem ordT_turn : ∀ t u : Tr, ordT u t = -ordT t u := by
  refine Tr.indT fun k n q s rl ts ih u => ?_
  obtain ⟨k', n', q', s', rl', ts'⟩ := u
  rw [ordT_mk, ordT_mk]
  by_cases hk : k = k'
  · subst hk
    refine lex_turn (cmpI_turn _ _) ?_
    split
    · exact lex_turn (cmpI_turn _ _) (ordL_turn ih ts')
    · exact ordK_turn _ _ _ _ _ _ _ _ _
  · have h1 := cmpI_turn k k'
    have h2 : cmpI k k' ≠ 0 := fun e => hk (cmpI_zero e)
    unfold lex
    rw [if_neg h2, if_neg (by omega), h1]
theorem ordL_range {ts : List Tr} (h : ∀ t ∈ ts, ∀ u, -1 ≤ ordT t u ∧ ordT t u ≤ 1) : ∀ us, -1 ≤ ordL ts us ∧ ordL ts us ≤ 1 := by
  induction ts with
  | nil => intro us; simp [ordL]
  | cons t ts ih =>
    intro us
    cases us with
    | nil => simp [ordL]
    | cons u us =>
      rw [ordL]
      exact lex_range (h t List.mem_cons_self u) (ih (fun x hx => h x (List.mem_cons_of_mem _ hx)) us)
theorem ordT_range : ∀ t u : Tr, -1 ≤ ordT t u ∧ ordT t u ≤ 1 := by
  refine Tr.indT fun k n q s rl ts ih u => ?_
  obtain ⟨k', n', q', s', rl', ts'⟩ := u
  rw [ordT_mk]
  refine lex_range (cmpI_range _ _) ?_
  split
  · exact lex_range (cmpI_range _ _) (ordL_range ih ts')
  · exact ordK_range _ _ _ _ _ _ _ _ _
theorem J3_L {ts : List Tr} (h : ∀ t ∈ ts, ∀ u v, J3 (ordT t u) (ordT u v) (ordT t v)) : ∀ us vs : List Tr, ts.length = us.length → us.length = vs.length → J3 (ordL ts us) (ordL us vs) (ordL ts vs) := by
  induction ts with
  | nil =>
    intro us vs h1 h2
    cases us with
    | nil => simp [ordL, J3]
    | cons u us => simp at h1
  | cons t ts ih =>
    intro us vs h1 h2
    cases us with
    | nil => simp at h1
    | cons u us =>
      cases vs with
      | nil => simp at h2
      | cons v vs =>
        rw [ordL, ordL, ordL]
        exact (h t List.mem_cons_self u v).lex fun _ _ => ih (fun x hx => h x (List.mem_cons_of_mem _ hx)) us vs (by simpa using h1) (by simpa using h2)
theorem J3_T : ∀ t u v : Tr, J3 (ordT t u) (ordT u v) (ordT t v) := by
  refine Tr.indT fun k n q s rl ts ih u v => ?_
  obtain ⟨k1, n1, q1, s1, rl1, ts1⟩ := u
  obtain ⟨k2, n2, q2, s2, rl2, ts2⟩ := v
  rw [ordT_mk, ordT_mk, ordT_mk]
  refine (J3_int k k1 k2).lex fun h1 h2 => ?_
  have e1 := cmpI_zero h1
  have e2 := cmpI_zero h2
  subst e1 e2
  by_cases hk : k = 8 ∨ k = 9
  · simp only [if_pos hk]
    refine (J3_int _ _ _).lex fun h3 h4 => ?_
    have e3 := cmpI_zero h3
    have e4 := cmpI_zero h4
    exact J3_L ih ts1 ts2 (by omega) (by omega)
  · simp only [if_neg hk]
    exact J3_K _ _ _ _ _ _ _ _ _ _ _ _ _
/-! ### The same trees -/
def Q6.none : Q6 := ⟨false, [], [], false, [], []⟩
def ratQ (q : Q6) : Prop := ∃ u v, q = Q6.rat u v ∧ fitR u ∧ fitR v
theorem now_none {b : Bool} {t u : List Nat} (h : nowB b t.length u.length = true) : b = false ∧ t = [] ∧ u = [] := by
  unfold nowB at h
  cases b <;> simp at h
  exact ⟨rfl, h.1, h.2⟩
theorem bare_none {n : Int} {q : Q6} {s : ByteArray} {mr ml : Nat} (h : bareB n q.b1 q.t1.length q.q1.length q.b2 q.t2.length q.q2.length s mr ml = true) : n = 0 ∧ q = Q6.none ∧ s = ⟨#[]⟩ ∧ mr = 0 ∧ ml = 0 := by
  unfold bareB at h
  simp only [Bool.and_eq_true, decide_eq_true_eq] at h
  obtain ⟨h1, h2, h3, h4, h5, h6⟩ := h
  obtain ⟨a1, a2, a3⟩ := now_none h2
  obtain ⟨b1, b2, b3⟩ := now_none h3
  refine ⟨h1, ?_, h4, h5, h6⟩
  cases q
  simp only at a1 a2 a3 b1 b2 b3
  subst a1 a2 a3 b1 b2 b3
  rfl
/-- What is not named by the kind is nothing. -/
structure Bare (k n : Int) (q : Q6) (s : ByteArray) (mr ml : Nat) : Prop where
  hn : k ≠ 2 → k ≠ 4 → n = 0
  hq : k ≠ 3 → q = Q6.none
  hs : k ≠ 5 → k ≠ 6 → k ≠ 11 → s = ⟨#[]⟩
  hr : k ≠ 7 → mr = 0
  hl : k ≠ 8 → k ≠ 9 → ml = 0
  h8 : k = 8 → ml = 2
  h3 : k = 3 → soundQ q = true
  h0 : 1 ≤ k
  h1 : k ≤ 11
  h2 : k = 2 → n = 0 ∨ n = 1
  h4 : k = 4 → isCh n = true
  h5 : k = 5 ∨ k = 6 ∨ k = 11 → okS s = true
theorem shape_bare {k n : Int} {q : Q6} {s : ByteArray} {mr ml : Nat} (h : shapeB k n q s mr ml = true) : Bare k n q s mr ml := by
  unfold shapeB at h
  split at h
  · rename_i hk
    obtain ⟨a, b, c, d, e⟩ := bare_none h
    exact ⟨fun _ _ => a, fun _ => b, fun _ _ _ => c, fun _ => d, fun _ _ => e, fun _ => by omega, fun _ => by omega, by omega, by omega, fun _ => by omega, fun _ => by omega, fun _ => by omega⟩
  · split at h
    · rename_i hk
      simp only [Bool.and_eq_true, decide_eq_true_eq] at h
      obtain ⟨a, b, c, d, e⟩ := bare_none h.2
      exact ⟨fun _ _ => by omega, fun _ => b, fun _ _ _ => c, fun _ => d, fun _ _ => e, fun _ => by omega, fun _ => by omega, by omega, by omega, fun _ => h.1, fun _ => by omega, fun _ => by omega⟩
    · split at h
      · rename_i hk
        simp only [Bool.and_eq_true] at h
        obtain ⟨a, b, c, d, e⟩ := bare_none (q := Q6.none) h.2
        exact ⟨fun _ _ => a, fun _ => by omega, fun _ _ _ => c, fun _ => d, fun _ _ => e, fun _ => by omega, fun _ => h.1, by omega, by omega, fun _ => by omega, fun _ => by omega, fun _ => by omega⟩
      · split at h
        · rename_i hk
          simp only [Bool.and_eq_true] at h
          obtain ⟨a, b, c, d, e⟩ := bare_none h.2
          exact ⟨fun _ _ => by omega, fun _ => b, fun _ _ _ => c, fun _ => d, fun _ _ => e, fun _ => by omega, fun _ => by omega, by omega, by omega, fun _ => by omega, fun _ => h.1, fun _ => by omega⟩
        · split at h
          · rename_i hk
            simp only [Bool.and_eq_true] at h
            obtain ⟨a, b, c, d, e⟩ := bare_none h.2
            exact ⟨fun _ _ => a, fun _ => b, fun _ _ _ => by omega, fun _ => d, fun _ _ => e, fun _ => by omega, fun _ => by omega, by omega, by omega, fun _ => by omega, fun _ => by omega, fun _ => h.1⟩
          · split at h
            · rename_i hk
              obtain ⟨a, b, c, d, e⟩ := bare_none h
              exact ⟨fun _ _ => a, fun _ => b, fun _ _ _ => c, fun _ => by omega, fun _ _ => e, fun _ => by omega, fun _ => by omega, by omega, by omega, fun _ => by omega, fun _ => by omega, fun _ => by omega⟩
            · split at h
              · rename_i hk
                simp only [Bool.and_eq_true, decide_eq_true_eq] at h
                obtain ⟨a, b, c, d, e⟩ := bare_none h.2
                exact ⟨fun _ _ => a, fun _ => b, fun _ _ _ => c, fun _ => d, fun _ _ => by omega, fun _ => h.1, fun _ => by omega, by omega, by omega, fun _ => by omega, fun _ => by omega, fun _ => by omega⟩
              · split at h
                · rename_i hk
                  obtain ⟨a, b, c, d, e⟩ := bare_none h
                  exact ⟨fun _ _ => a, fun _ => b, fun _ _ _ => c, fun _ => d, fun _ _ => by omega, fun _ => by omega, fun _ => by omega, by omega, by omega, fun _ => by omega, fun _ => by omega, fun _ => by omega⟩
                · cases h
mutual
/-- Sound at each node, and its numbers are fractions in lowest terms. -/
def Tr.good : Tr → Prop
  | .mk k n q s rl ts => Bare k n q s rl.length ts.length ∧ (k = 3 → ratQ q) ∧ Tr.goods ts
def Tr.goods : List Tr → Prop
  | [] => True
  | t :: ts => t.good ∧ Tr.goods ts
end
theorem goods_iff : ∀ {ts : List Tr}, Tr.goods ts ↔ ∀ t ∈ ts, t.good
  | [] => by simp [Tr.goods]
  | t :: ts => by simp [Tr.goods, goods_iff (ts := ts)]
theorem good_mk {k n : Int} {q : Q6} {s : ByteArray} {rl : List UInt8} {ts : List Tr} : (Tr.mk k n q s rl ts).good ↔ Bare k n q s rl.length ts.length ∧ (k = 3 → ratQ q) ∧ ∀ t ∈ ts, t.good := by
  rw [← goods_iff]; unfold Tr.good; exact Iff.rfl
theorem allL_mem {p : Tr → Bool} : ∀ {ts : List Tr}, allL p ts = true → ∀ t ∈ ts, allT p t = true
  | [], _, t, ht => by cases ht
  | u :: us, h, t, ht => by
    rw [allL, Bool.and_eq_true] at h
    rcases List.mem_cons.1 ht with e | e
    · subst e; exact h.1
    · exact allL_mem h.2 t e
theorem Dt.good {w : World} : ∀ t : Dt, t.rd w → allT shapeT t.tr = true → t.tr.good := by
  refine Dt.indT fun d ts ih hrd ha => ?_
  rw [allT_mk, shapeT_mk, Bool.and_eq_true] at ha
  have hok := Dt.rd_iff.1 hrd
  rw [Dt.tr_mk, good_mk]
  have hb := shape_bare ha.1
  refine ⟨by rw [List.length_map]; exact hb, fun hk => ?_, fun t ht => ?_⟩
  · rcases sound_cases hok.1.num with h | h
    · rw [hb.h3 hk] at h; cases h
    · exact h
  · obtain ⟨u, hu, rfl⟩ := List.mem_map.1 ht
    refine ih u hu (hok.2.2.2.2 u hu) ?_
    exact allL_mem (ts := ts.map Dt.tr) (by simpa using ha.2) _ ht
/-! ### Trees as they lie in memory -/
theorem Dt.eta (t : Dt) : Dt.mk t.d t.ts = t := by cases t; rfl
theorem Dt.tr_eta (t : Dt) : t.tr = .mk t.d.k t.d.n t.d.y.q t.d.s t.d.rl (t.ts.map Dt.tr) := by rw [← Dt.tr_mk, Dt.eta]
theorem kidT {w : World} {t : Dt} (h : t.rd w) {i : Nat} (hi : i < t.ts.length) : ∃ t1 b o, t.ts[i]? = some t1 ∧ t1 ∈ t.ts ∧ t1.rd w ∧ t.d.lo = some ⟨b, o, none⟩ ∧ Here w b (o + i * 11) (t1.d.cells t1.ts.length) := kid (d := t.d) (by rw [Dt.eta]; exact h) hi
theorem Dt.okT {w : World} {t : Dt} (h : t.rd w) : NdOk w t.d ∧ t.ts.length ≤ 9223372036854775807 := by
  rw [← Dt.eta t, Dt.rd_iff] at h
  exact ⟨h.1, Nat.le_trans h.2.1 h.2.2.1⟩
theorem good_at {t : Dt} (h : t.tr.good) : Bare t.d.k t.d.n t.d.y.q t.d.s t.d.rl.length t.ts.length ∧ (t.d.k = 3 → ratQ t.d.y.q) ∧ ∀ c ∈ t.ts, c.tr.good := by
  rw [Dt.tr_eta, good_mk, List.length_map] at h
  exact ⟨h.1, h.2.1, fun c hc => h.2.2 _ (List.mem_map_of_mem hc)⟩
theorem bulkT {t c : Dt} (h : c ∈ t.ts) : c.tr.bulk + t.d.s.size + 1 ≤ t.tr.bulk := by
  have := bulk_kid (d := t.d) h
  rwa [Dt.eta] at this
theorem two_of {α : Type} {l : List α} (h : l.length = 2) {a b : α} (h0 : l[0]? = some a) (h1 : l[1]? = some b) : l = [a, b] := by
  match l, h with
  | [x, y], _ => simp at h0 h1; rw [h0, h1]
theorem ord_kind {p r : Dt} (h : p.d.k ≠ r.d.k) : ordT p.tr r.tr = cmpI p.d.k r.d.k := by
  rw [Dt.tr_eta p, Dt.tr_eta r, ordT_mk]
  unfold lex
  rw [if_neg (fun e => h (cmpI_zero e))]
theorem cmpI_self (a : Int) : cmpI a a = 0 := by unfold cmpI; rw [if_neg (by omega), if_neg (by omega)]
theorem ord_same {p r : Dt} (h : p.d.k = r.d.k) : ordT p.tr r.tr = if p.d.k = 8 ∨ p.d.k = 9 then lex (cmpI (p.ts.length : Int) (r.ts.length : Int)) (ordL (p.ts.map Dt.tr) (r.ts.map Dt.tr)) else ordK p.d.k p.d.n r.d.n p.d.y.q r.d.y.q p.d.s r.d.s p.d.rl r.d.rl := by
  rw [Dt.tr_eta p, Dt.tr_eta r, ordT_mk, ← h, cmpI_self, List.length_map, List.length_map]
  rfl
theorem ord_pair {p r p0 p1 r0 r1 : Dt} (h1 : p.d.k = 8) (h2 : r.d.k = 8) (l1 : p.ts.length = 2) (l2 : r.ts.length = 2) (a0 : p.ts[0]? = some p0) (a1 : p.ts[1]? = some p1) (b0 : r.ts[0]? = some r0) (b1 : r.ts[1]? = some r1) : ordT p.tr r.tr = lex (ordT p0.tr r0.tr) (ordT p1.tr r1.tr) := by
  rw [ord_same (by omega), if_pos (.inl h1), l1, l2, two_of l1 a0 a1, two_of l2 b0 b1]
  simp only [List.map_cons, List.map_nil, ordL, cmpI_self]
  show lex _ (lex _ 0) = _
  generalize ordT p1.tr r1.tr = z
  have : lex z 0 = z := by unfold lex; split <;> omega
  rw [this]
theorem lex_0 (y : Int) : lex 0 y = y := rfl
theorem lex_n {x y : Int} (h : x ≠ 0) : lex x y = x := if_neg h
theorem ordL_go {ts us : List Dt} {i : Nat} {t u : Dt} (hi : ts[i]? = some t) (hj : us[i]? = some u) : ordL ((ts.map Dt.tr).drop i) ((us.map Dt.tr).drop i) = lex (ordT t.tr u.tr) (ordL ((ts.map Dt.tr).drop (i + 1)) ((us.map Dt.tr).drop (i + 1))) := by
  rw [drop_kid hi, drop_kid hj, ordL]
theorem ordL_end {ts us : List Dt} {i : Nat} (h : ¬ i < ts.length) : ordL ((ts.map Dt.tr).drop i) ((us.map Dt.tr).drop i) = 0 := by
  rw [drop_kids h, ordL]
/-- What the program's order of two nodes of one kind that are no pairs comes to. -/
theorem ord_end {p r : Dt} (hp : p.tr.good) (hr : r.tr.good) (h : p.d.k = r.d.k) (h8 : p.d.k ≠ 8) : ordT p.tr r.tr = if p.d.k = 2 ∨ p.d.k = 4 then cmpI p.d.n r.d.n else if p.d.k = 3 then ordN p.d.y.q r.d.y.q else if p.d.k = 5 ∨ p.d.k = 6 ∨ p.d.k = 11 then compareBytes p.d.s.data.toList r.d.s.data.toList else if p.d.k = 7 then compareBytes p.d.rl r.d.rl else if p.d.k = 9 then lex (cmpI (p.ts.length : Int) (r.ts.length : Int)) (ordL (p.ts.map Dt.tr) (r.ts.map Dt.tr)) else 0 := by
  rw [ord_same h]
  by_cases h9 : p.d.k = 9
  · rw [if_pos (.inr h9), if_neg (by omega), if_neg (by omega), if_neg (by omega), if_neg (by omega), if_pos h9]
  · rw [if_neg (by omega)]
    unfold ordK
    by_cases h3 : p.d.k = 3
    · rw [if_pos h3, if_neg (by omega), if_pos h3]
    · rw [if_neg h3]
      by_cases h5 : p.d.k = 5 ∨ p.d.k = 6 ∨ p.d.k = 11
      · rw [if_pos h5, if_neg (by omega), if_neg h3, if_pos h5]
      · rw [if_neg h5]
        by_cases h7 : p.d.k = 7
        · rw [if_pos h7, if_neg (by omega), if_neg h3, if_neg h5, if_pos h7]
        · rw [if_neg h7]
          by_cases h2 : p.d.k = 2 ∨ p.d.k = 4
          · rw [if_pos h2]
          · rw [if_neg h2, if_neg h3, if_neg h5, if_neg h7, if_neg h9, (good_at hp).1.hn (by omega) (by omega), (good_at hr).1.hn (by omega) (by omega)]
            rfl
/-! ### The law -/
/-- What Cmp answers. -/
def cmpT (t u : Tr) : Int := if soundT shapeT t = true ∧ soundT shapeT u = true then ordT t u else 0
def equT (t u : Tr) : Bool := (soundT shapeT t && soundT shapeT u) && decide (ordT t u = 0)
theorem cmpT_ok {t u : Tr} (h1 : soundT shapeT t = true) (h2 : soundT shapeT u = true) : cmpT t u = ordT t u := if_pos ⟨h1, h2⟩
theorem cmpT_no {t u : Tr} (h : soundT shapeT t = false ∨ soundT shapeT u = false) : cmpT t u = 0 := if_neg (fun e => by rcases h with h | h; rw [h] at e; cases e.1; rw [h] at e; cases e.2)
theorem cmpT_turn (t u : Tr) : cmpT u t = -cmpT t u := by
  unfold cmpT
  by_cases h : soundT shapeT t = true ∧ soundT shapeT u = true
  · rw [if_pos h, if_pos ⟨h.2, h.1⟩]; exact ordT_turn t u
  · rw [if_neg h, if_neg (fun e => h ⟨e.2, e.1⟩)]; rfl
theorem cmpT_self (t : Tr) : cmpT t t = 0 := by have := cmpT_turn t t; omega
theorem cmpT_range (t u : Tr) : -1 ≤ cmpT t u ∧ cmpT t u ≤ 1 := by
  unfold cmpT
  split
  · exact ordT_range t u
  · omega
theorem cmpT_J {t u v : Tr} (h1 : soundT shapeT t = true) (h2 : soundT shapeT u = true) (h3 : soundT shapeT v = true) : J3 (cmpT t u) (cmpT u v) (cmpT t v) := by
  rw [cmpT_ok h1 h2, cmpT_ok h2 h3, cmpT_ok h1 h3]
  exact J3_T t u v
theorem equT_cmp {t u : Tr} (h1 : soundT shapeT t = true) (h2 : soundT shapeT u = true) : equT t u = decide (cmpT t u = 0) := by
  rw [cmpT_ok h1 h2]
  unfold equT
  rw [h1, h2]; simp
/-! ### The hash -/
/-- One more number in a hash. -/
def hw (h n : Int) : Int := bits .xor .u64 (IntKind.u64.wrap (bits .xor .u64 h n * 1099511628211)) (IntKind.u64.wrap (bits .xor .u64 h n * 1099511628211) / 2 ^ 32)
def hwB (h : Int) (l : List UInt8) : Int := l.foldl (fun h n => hw h (n.toNat : Int)) h
theorem good_of {w : World} {t : Dt} (ht : t.rd w) (h : soundT shapeT t.tr = true) : t.tr.good := by
  unfold soundT at h
  rw [Bool.and_eq_true] at h
  exact Dt.good t ht h.2
theorem both_no {a b : Bool} (h : (a && b) = false) : ¬ (a = true ∧ b = true) := by cases a <;> cases b <;> simp_all
theorem both_ok {a b : Bool} (h : (a && b) = true) : a = true ∧ b = true := by cases a <;> cases b <;> simp_all
theorem equT_of {t u : Tr} (h1 : soundT shapeT t = true) (h2 : soundT shapeT u = true) {b : Bool} (h : (cmpT t u == 0) = b) : equT t u = b := by
  rw [equT_cmp h1 h2, ← h]
  by_cases k : cmpT t u = 0
  · rw [k]; rfl
  · rw [decide_eq_false k, beq_eq_false_iff_ne.2 k]
/-- A Boolean as it lies in memory. -/
def bDt (n : Int) : Dt := .mk ⟨2, n, ⟨Q6.none, none, 0, none, 0, none, 0, none, 0⟩, ⟨#[]⟩, none, 0, [], none, 0⟩ []
theorem b_rd {n : Int} (h : n = 0 ∨ n = 1) (w : World) : (bDt n).rd w := by
  unfold bDt
  rw [Dt.rd_iff]
  rcases h with rfl | rfl <;> exact ⟨⟨⟨Sc.none w, Sc.none w, Sc.none w, Sc.none w⟩, ⟨by decide, by decide, by decide, by decide⟩, ⟨fun k => absurd rfl k⟩, by decide, by decide, by decide, by decide, by decide, by decide, by decide⟩, by decide, by decide, fun k => absurd rfl k, fun _ k => by cases k⟩
theorem b_tr (n : Int) : (bDt n).tr = .mk 2 n Q6.none ⟨#[]⟩ [] [] := by unfold bDt; rw [Dt.tr_mk]; rfl
theorem b_sound {n : Int} (h : n = 0 ∨ n = 1) : soundT shapeT (bDt n).tr = true := by
  rw [b_tr]
  unfold soundT
  rw [fitT, fitL, allT, allL, shapeT]
  rcases h with rfl | rfl <;> rfl
theorem b_ord (m n : Int) : ordT (bDt m).tr (bDt n).tr = cmpI m n := by
  rw [b_tr, b_tr, ordT_mk]
  rfl
theorem b_cmp : cmpT (bDt 0).tr (bDt 1).tr = -1 := by rw [cmpT_ok (b_sound (.inl rfl)) (b_sound (.inr rfl)), b_ord]; rfl
theorem b_equ {m n : Int} (hm : m = 0 ∨ m = 1) (hn : n = 0 ∨ n = 1) : equT (bDt m).tr (bDt n).tr = decide (cmpI m n = 0) := by rw [equT_cmp (b_sound hm) (b_sound hn), cmpT_ok (b_sound hm) (b_sound hn), b_ord]
theorem run_loadB {P : Program} {w : World} {b : Nat} : ∀ (l : List UInt8) (off : Nat) (acc : ByteArray), (∀ j, j < l.length → w.cell? ⟨b, off + j, none⟩ = some (.int .u8 (((l.getD j 0).toNat : Nat) : Int))) → (Extern.Bytes.loadBytes ⟨b, off, none⟩ l.length acc).run P w = .ok ⟨acc.data ++ l.toArray⟩ w
  | [], off, acc, _ => by
    simp [Extern.Bytes.loadBytes]
  | x :: l, off, acc, h => by
    have h0 := h 0 (by simp)
    have hl : (load ⟨b, off, none⟩).run P w = .ok (.int .u8 ((x.toNat : Nat) : Int)) w := by
      rw [Nat.add_zero] at h0
      have h1 : w.cell? ⟨b, off, none⟩ = some (.int .u8 ((x.toNat : Nat) : Int)) := by simpa using h0
      simp [go_sem, h1]
    have hn : ∀ j, j < l.length → w.cell? ⟨b, off + 1 + j, none⟩ = some (.int .u8 (((l.getD j 0).toNat : Nat) : Int)) := by
      intro j hj
      have h3 := h (j + 1) (by simpa using hj)
      rw [show off + (j + 1) = off + 1 + j by omega] at h3
      simpa using h3
    have ih := run_loadB (P := P) l (off + 1) (acc.push x) hn
    rw [List.length_cons, Extern.Bytes.loadBytes, Sem.run_bind, hl]
    simp only [Result.andThen_ok, addr_add, Int.toNat_natCast, UInt8.ofNat_toNat]
    rw [ih]
    congr 2
    simp
theorem run_bytesS {P : Program} {w : World} {so : Option Addr} {l : List UInt8} {ca : Nat} (h : Rb w so l) : (Extern.Bytes.bytesOf (.slice so l.length ca)).run P w = .ok ⟨l.toArray⟩ w := by
  by_cases hl : l = []
  · subst hl
    cases so with
    | none => simp [Extern.Bytes.bytesOf]; rfl
    | some a => simp [Extern.Bytes.bytesOf, Extern.Bytes.loadBytes]; rfl
  · obtain ⟨b, off, rfl, _, h2⟩ := h.pos hl
    have := run_loadB (P := P) l off .empty h2
    simp only [Extern.Bytes.bytesOf]
    rw [this]
    simp
theorem run_compareS {P : Program} {w : World} {so sp : Option Addr} {a b : List UInt8} {ca cb : Nat} (ha : Rb w so a) (hb : Rb w sp b) : (Extern.BytealgCompare.compare #[.slice so a.length ca, .slice sp b.length cb]).run P w = .ok (.int .i64 (compareBytes a b)) w := by
  change Sem.run P (do pure (goInt (Extern.BytealgCompare.cmp (← Extern.Bytes.bytesOf (.slice so a.length ca)) (← Extern.Bytes.bytesOf (.slice sp b.length cb))))) w = _
  simp only [Sem.run_bind, Sem.run_pure, Result.andThen, run_bytesS ha, run_bytesS hb]
  rw [Go.Lib.cmp_eq]
  rfl
set_option maxHeartbeats 1000000 in
set_option maxRecDepth 100000 in
theorem bcmp_any {w : World} {so sp : Option Addr} {a b : List UInt8} {ca cb : Nat} (ha : Rb w so a) (hb : Rb w sp b) : Calls Tryz.prog 23 #[.slice so a.length ca, .slice sp b.length cb] w fun e w' => e = .returned (.int .i64 (compareBytes a b)) ∧ Below w.heap.size w w' := by
  go_enter Tryz.func23, Tryz.ntmps23
  go_wp2
  rw [run_callFunc_extern Tryz.func41 (by kernel_rfl) (by kernel_rfl) (by kernel_rfl) (e := Extern.BytealgCompare.compare) (by kernel_rfl), run_compareS ha hb]
  simp only [Result.andThen]
  rw [Oper.upon_value]
  go_wp2
  go_ret
  exact ⟨rfl, Below.refl _ _⟩
theorem scmp_any {w : World} {s t : ByteArray} : Calls Tryz.prog 22 #[.string s, .string t] w fun e w' => e = .returned (.int .i64 (compareBytes s.data.toList t.data.toList)) ∧ Below w.heap.size w w' := (Tryz.strings_Compare s t w).mono fun e w' ⟨h, e2⟩ => ⟨h, e2 ▸ Below.refl _ _⟩
set_option maxRecDepth 100000
theorem TrU_is1_21 : Is1 Tryz.prog 21 := ⟨⟨_, Tryz.underlying21, rfl⟩, by kernel_rfl⟩
theorem TrU_is1_5 : Is1 Tryz.prog 5 := ⟨⟨_, Tryz.underlying5, rfl⟩, by kernel_rfl⟩
open Go.Lib
theorem unitsF_cons {f p : Nat} {l : List UInt8} (hl : l ≠ []) : unitsF (f + 1) p l = ((p : Int), uR (decodeL l).1 (decodeL l).2) :: unitsF f (p + (decodeL l).2) (l.drop (decodeL l).2) := by
 conv => lhs; unfold unitsF
 rw [if_neg hl]
theorem rb_open {w : World} {so : Option Addr} {l : List UInt8} {i : Nat} (h : Rb w so l) (hi : i < l.length) : ∃ b off, so = some ⟨b, off, none⟩ ∧ b < w.heap.size ∧ ∀ j, j < l.length → w.cell? ⟨b, off + j, none⟩ = some (.int .u8 (((l.getD j 0).toNat : Nat) : Int)) :=
 h.pos (fun k => by rw [k] at hi; exact absurd hi (Nat.not_lt_zero _))
/-- Units as the document keeps them: a character, whether there is none, its place. -/
def unitV (us : List (Int × Int)) : List Value := us.flatMap fun u => if u.2 = -1 then [.int .i32 0, .bool true, .int .i64 u.1] else [.int .i32 u.2, .bool false, .int .i64 u.1]
theorem and_u8 {x : Int} (i : Nat) (m : Int) (hm : m = ((2 ^ i - 1 : Nat) : Int)) (hs : m ≤ 255) (h0 : 0 ≤ x) (h1 : x ≤ 255) : bits .and .u8 x m = x % ((2 ^ i : Nat) : Int) := by
 obtain ⟨n, rfl⟩ : ∃ n : Nat, x = (n : Int) := ⟨x.toNat, by omega⟩
 subst hm
 have h2 : n &&& (2 ^ i - 1) = n % 2 ^ i := Nat.and_two_pow_sub_one_eq_mod n i
 have e : (BitVec.ofInt IntKind.u8.bits (n : Int) &&& BitVec.ofInt IntKind.u8.bits (((2 ^ i - 1 : Nat)) : Int)).toNat = n % 2 ^ i := by
  rw [← h2, BitVec.ofInt_natCast, BitVec.ofInt_natCast, BitVec.toNat_and, BitVec.toNat_ofNat, BitVec.toNat_ofNat]
  show n % 256 &&& (2 ^ i - 1) % 256 = _
  rw [Nat.mod_eq_of_lt (by omega), Nat.mod_eq_of_lt (by omega)]
 show IntKind.u8.wrap ((BitVec.ofInt IntKind.u8.bits (n : Int) &&& BitVec.ofInt IntKind.u8.bits (((2 ^ i - 1 : Nat)) : Int)).toNat : Int) = _
 rw [e]
 have := Nat.mod_le n (2 ^ i)
 exact (in_u8 (by omega) (by omega)).trans (Int.natCast_emod n (2 ^ i))
theorem or_six {c x : Int} (h0 : 0 ≤ c) (h1 : c ≤ 33554431) (h2 : 0 ≤ x) (h3 : x ≤ 63) : bits .or .i32 (c * 64) x = c * 64 + x := by
 obtain ⟨a, rfl⟩ : ∃ a : Nat, c = (a : Int) := ⟨c.toNat, by omega⟩
 obtain ⟨n, rfl⟩ : ∃ n : Nat, x = (n : Int) := ⟨x.toNat, by omega⟩
 have := Nat.two_pow_add_eq_or_of_lt (i := 6) (b := n) (by omega) a
 rw [show (2 : Nat) ^ 6 = 64 from rfl] at this
 have e := or_i32 (64 * a) n (by omega) (by omega)
 rw [show (((64 * a : Nat)) : Int) = (a : Int) * 64 from by omega] at e
 rw [e, ← this]
 omega
/-- The units from a place on. -/
def restU (l : List UInt8) (i : Nat) : List (Int × Int) := unitsF (l.length - i) i (l.drop i)
theorem restU_zero (l : List UInt8) : restU l 0 = unitsU l := by unfold restU unitsU; rw [List.drop_zero, Nat.sub_zero]
theorem restU_over {l : List UInt8} {i : Nat} (h : ¬ i < l.length) : restU l i = [] := by unfold restU; rw [show l.length - i = 0 from by omega]; rfl
theorem restU_step {l : List UInt8} {i r q : Nat} (h : i < l.length) (e : decodeN (l.length - i) (l.getD i 0).toNat (l.getD (i + 1) 0).toNat (l.getD (i + 2) 0).toNat (l.getD (i + 3) 0).toNat = (r, q)) : restU l i = ((i : Int), uR r q) :: restU l (i + q) := by
 have hne : l.drop i ≠ [] := fun k => by
  have := congrArg List.length k
  rw [List.length_drop, List.length_nil] at this
  omega
 have hd : decodeL (l.drop i) = (r, q) := by
  rw [decodeL_N, getD_drop2, getD_drop2, getD_drop2, getD_drop2, List.length_drop]
  exact e
 have hw := decode_wide _ hne
 rw [hd, List.length_drop] at hw
 simp only at hw
 unfold restU
 obtain ⟨m, hm⟩ : ∃ m, l.length - i = m + 1 := ⟨l.length - i - 1, by omega⟩
 rw [hm, unitsF_cons hne, hd, List.drop_drop]
 simp only
 rw [unitsF_more m (l.length - (i + q)) _ _ (by rw [List.length_drop]; omega) (by rw [List.length_drop]; omega)]
set_option maxHeartbeats 4000000 in
theorem rutf8_any {w : World} {so : Option Addr} {cap : Nat} {l : List UInt8} (hb : Rb w so l) (hlen : l.length ≤ 2000000) : Calls Tryz.prog 79 #[.slice so l.length cap] w fun e w' => ∃ v, e = .returned v ∧ Mg w w' [.row 80 3 v (unitsU l).length (unitV (unitsU l))] := by
 have M : Mg w w ([]) := Mg.start w
 refine walk_of (l := [(0, .slice so l.length cap)]) Tryz.func79 rfl Tryz.ntmps79 rfl rfl ?_
 intro Q hret hnorm hP a A
 refine wsk fun K1 hK1 => wrl (sda A λa A↦?_)
 refine seq_end (hK1 _ _ (wsk fun K2 hK2 => wrl (s_litE (e := 80) (sz := 3) (m := 0) (vs := []) A M rfl rfl rfl (does_buildSlice rfl (by kernel_rfl)) rfl rfl (.inl (by decide)) ?_)))
 intro g3 w4 M a A
 refine sda A λa A↦?_
 refine seq_end (hK2 _ _ (wsk fun K5 hK5 => wsk fun K6 hK6 => wrl (sda A λa A↦?_)))
 refine seq_end (hK6 _ _ (wp_block (wp_loop_n (fun m_ a w1 => ∃ (i : Nat) (acc : List (Int × Int)) (vo : Value), m_ = l.length - i ∧ (acc ++ restU l i = unitsU l ∧ i ≤ l.length ∧ acc.length ≤ i) ∧ Sl a 122 [(0, .slice so l.length cap), (2, .slice none 0 0), (3, vo), (4, .int .i64 (((i : Nat) : Int))), (12, .slice (some ⟨g3, 0, none⟩) 0 0)] ∧ Mg w w1 (.row 80 3 (vo) acc.length ((unitV acc)) :: [])) _ ⟨0, [], .slice (some ⟨g3, 0, none⟩) 0 0, rfl, ⟨by rw [restU_zero]; rfl, Nat.zero_le _, Nat.le_refl _⟩, A.keep _ ⟨rfl, rfl, rfl, rfl, rfl, trivial⟩, M⟩ ?_)))
 clear M A
 rintro m_ a w7 ⟨i, acc, vo, rfl, hinv9, A, M⟩ K8 hK8
 obtain ⟨hrun, hi9, hacc⟩ := hinv9
 refine wsk fun K10 hK10 => wsk fun K11 hK11 => wrl ?_
 iterate 2 refine sdm A λa A↦?_
 refine sdo A (does_len Tryz.underlying27 rfl) λa A↦?_
 rcases tf (decide (((i : Nat) : Int) < ((l.length : Nat) : Int))) with hb12 | hb12
 ·
  have hb12' := of_decide_eq_true hb12
  refine sdo (v := .bool true) A (does_bin rfl rfl (fun w => (bin_lss w).trans (by rw [hb12]))) λa A↦?_
  refine seq_end (hK11 _ _ (wp_cond_true (A.ev rfl) ?_))
  refine wp_skip (hK10 _ _ (wp_block (wsk fun K13 hK13 => wrl ?_)))
  iterate 2 refine sda A λa A↦?_
  refine seq_end (hK13 _ _ (wsk fun K14 hK14 => wrl ?_))
  iterate 2 refine sdm A λa A↦?_
  obtain ⟨bx, ox, hx1, hx2, hx3⟩ := rb_open (i := i) hb (by omega)
  refine sdo (v := .pointer (some ⟨bx, ox + (i), none⟩)) A (does_indexRow Tryz.underlying27 (by kernel_rfl) rfl rfl rfl hx1 (show i < l.length by omega)) λa A↦?_
  refine sdo (v := .int .u8 ((((l.getD i 0).toNat : Nat) : Int))) A (m_loadR M hx2 (hx3 (i) (by omega)) TrU_is1_5 rfl) λa A↦?_
  have hu0 := (l.getD (i) 0).toNat_lt
  refine sda A λa A↦?_
  refine seq_end (hK14 _ _ (wsk fun K15 hK15 => wp_block (wsk fun K16 hK16 => wrl (sdm A λa A↦?_))))
  rcases tf (decide ((((l.getD i 0).toNat : Nat) : Int) < 128)) with hb17 | hb17
  ·
   have hb17' := of_decide_eq_true hb17
   refine sdo (v := .bool true) A (does_bin rfl rfl (fun w => (bin_lss w).trans (by rw [hb17]))) λa A↦?_
   refine sda A λa A↦?_
   refine seq_end (hK16 _ _ (wp_cond_true (A.ev rfl) ?_))
   refine wrl (sdm A λa A↦?_)
   refine sdo (v := .int .i32 ((((l.getD i 0).toNat : Nat) : Int))) A (does_convert rfl (ar_conv Tryz.underlying5 Tryz.underlying21 (in_i32 (by omega) (by omega)))) λa A↦?_
   iterate 2 refine sda A λa A↦?_
   refine seq_end (hK15 _ _ (wsk fun K18 hK18 => wrl (sdm A λa A↦?_)))
   refine sdo (v := .bool true) A (does_bin rfl rfl (fun w => by kernel_rfl)) λa A↦?_
   iterate 3 refine sdm A λa A↦?_
   refine sdo (v := .int .i64 (((i + 1 : Nat) : Int))) A (does_bin rfl rfl (ar_add ((in_i64 (by omega) (by omega)).trans (by omega)))) λa A↦?_
   refine sdm A λa A↦?_
   refine sdo A (does_len Tryz.underlying27 rfl) λa A↦?_
   rcases tf (decide (((i + 1 : Nat) : Int) ≤ ((l.length : Nat) : Int))) with hb19 | hb19
   ·
    have hb19' := of_decide_eq_true hb19
    refine sdo (v := .bool true) A (does_bin rfl rfl (fun w => (bin_leq w).trans (by rw [hb19]))) λa A↦?_
    refine sdk (v := .bool true) A λa A↦?_
    refine sda A λa A↦?_
    refine seq_end (hK18 _ _ (wsk fun K20 hK20 => wsk fun K21 hK21 => wrl (sda A λa A↦?_)))
    refine seq_end (hK21 _ _ (wp_block (wp_loop_rounds 5 ?_)))
    refine rounds_k ?_
    intro K22 hK22
    refine wsk fun K23 hK23 => wsk fun K24 hK24 => wrl ?_
    iterate 4 refine sdm A λa A↦?_
    refine sdo (v := .bool false) A (does_bin rfl rfl (fun w => by kernel_rfl)) λa A↦?_
    refine sdk (v := .bool false) A λa A↦?_
    refine seq_end (hK24 _ _ (wp_cond_false (A.ev rfl) ?_))
    refine wp_exit (hK20 _ _ (wsk fun K25 hK25 => wsk fun K26 hK26 => wrl ?_))
    iterate 3 refine sdm A λa A↦?_
    refine sdo (v := .bool false) A (does_bin rfl rfl (fun w => by kernel_rfl)) λa A↦?_
    refine sdk (v := .bool false) A λa A↦?_
    refine seq_end (hK26 _ _ (wp_cond_false (A.ev rfl) ?_))
    refine wp_skip (hK25 _ _ (wsk fun K27 hK27 => wrl (sdm A λa A↦?_)))
    refine seq_end (hK27 _ _ (wp_cond_true (A.ev rfl) ?_))
    refine wsk fun K28 hK28 => wrl ?_
    iterate 3 refine sdm A λa A↦?_
    refine sdo (v := .agg #[.int .i32 ((((l.getD i 0).toNat : Nat) : Int)), .bool false, .int .i64 (((i : Nat) : Int))]) A (does_build rfl (fun w => by kernel_rfl)) λa A↦?_
    refine s_litE (e := 80) (sz := 3) (m := 1) (vs := [.int .i32 ((((l.getD i 0).toNat : Nat) : Int)), .bool false, .int .i64 (((i : Nat) : Int))]) A M rfl rfl rfl (does_buildSlice rfl (by kernel_rfl)) rfl rfl (.inl (by decide)) ?_
    intro g29 w30 M a A
    refine s_appendE (e := 80) (sz := 3) (k := 1) (q := acc.length) (m := 1) (xs := (unitV acc)) (news := [.int .i32 ((((l.getD i 0).toNat : Nat) : Int)), .bool false, .int .i64 (((i : Nat) : Int))]) (L' := fun v31 => (.row 80 3 (.slice (some ⟨g29, 0, none⟩) 1 1) 1 ([.int .i32 ((((l.getD i 0).toNat : Nat) : Int)), .bool false, .int .i64 (((i : Nat) : Int))]) :: .row 80 3 (v31) (acc.length + 1) ((unitV acc) ++ [.int .i32 ((((l.getD i 0).toNat : Nat) : Int)), .bool false, .int .i64 (((i : Nat) : Int))]) :: [])) A rfl rfl rfl (m_appendE (z := .agg #[.int .i32 0, .bool false, .int .i64 0]) (sz := 3) (by_ := 16) Tryz.underlying77 (by kernel_rfl) rfl rfl rfl M 1 rfl rfl 0 rfl rfl rfl rfl (by omega)) (fun _ => rfl) ?_
    intro v31 w32 M a A
    refine sda A λa A↦?_
    refine seq_end (hK28 _ _ (wrl ?_))
    iterate 2 refine sdm A λa A↦?_
    refine sdo (v := .int .i64 (((i + 1 : Nat) : Int))) A (does_bin rfl rfl (ar_add ((in_i64 (by omega) (by omega)).trans (by omega)))) λa A↦?_
    refine sda A λa A↦?_
    refine seq_end ?_
    have hd : decodeN (l.length - i) (l.getD i 0).toNat (l.getD (i + 1) 0).toNat (l.getD (i + 2) 0).toNat (l.getD (i + 3) 0).toNat = (((((l.getD i 0).toNat : Nat) : Int)).toNat, 1) := by
     unfold Lib.decodeN
     repeat' split
     all_goals first | rfl | (exfalso; omega) | (refine Prod.ext ?_ rfl; show (_ : Nat) = _; omega)
    have hr9 : uR (((((l.getD i 0).toNat : Nat) : Int)).toNat) 1 = ((((l.getD i 0).toNat : Nat) : Int)) := by unfold uR; rw [if_neg (by omega)]; omega
    have hs9 := restU_step (show i < l.length by omega) hd
    rw [hr9] at hs9
    replace M : Mg w w32 [.row 80 3 v31 (acc ++ [((i : Int), ((((l.getD i 0).toNat : Nat) : Int)))]).length (unitV (acc ++ [((i : Int), ((((l.getD i 0).toNat : Nat) : Int)))]))] := by
     have h9 := M.sub (.cons _ (.cons_cons _ (.refl _)))
     have e9 : unitV (acc ++ [((i : Int), ((((l.getD i 0).toNat : Nat) : Int)))]) = unitV acc ++ [.int .i32 ((((l.getD i 0).toNat : Nat) : Int)), .bool false, .int .i64 (((i : Nat) : Int))] := by
      unfold unitV
      rw [List.flatMap_append, List.flatMap_singleton]
      rw [if_neg (show ¬ _ = (-1 : Int) by simp only; omega)]
     rw [e9, List.length_append]
     exact h9
    refine hK8 _ _ _ (by omega) ⟨i + 1, acc ++ [((i : Int), ((((l.getD i 0).toNat : Nat) : Int)))], v31, rfl, ⟨by rw [← hrun, hs9, List.append_assoc]; rfl, by omega, by rw [List.length_append]; simp only [List.length_cons, List.length_nil]; omega⟩, A.keep _ ⟨rfl, rfl, rfl, rfl, rfl, trivial⟩, M⟩
   ·
    have hb19' := of_decide_eq_false hb19
    refine sdo (v := .bool false) A (does_bin rfl rfl (fun w => (bin_leq w).trans (by rw [hb19]))) λa A↦?_
    refine sdk (v := .bool false) A λa A↦?_
    refine sda A λa A↦?_
    refine seq_end (hK18 _ _ (wsk fun K33 hK33 => wsk fun K34 hK34 => wrl (sda A λa A↦?_)))
    refine seq_end (hK34 _ _ (wp_block (wp_loop_rounds 5 ?_)))
    refine rounds_k ?_
    intro K35 hK35
    refine wsk fun K36 hK36 => wsk fun K37 hK37 => wrl ?_
    iterate 2 refine sdm A λa A↦?_
    iterate 3 refine seq_skip A rfl rfl rfl λa A↦?_
    refine sdk (v := .bool false) A λa A↦?_
    refine seq_end (hK37 _ _ (wp_cond_false (A.ev rfl) ?_))
    refine wp_exit (hK33 _ _ (wsk fun K38 hK38 => wsk fun K39 hK39 => wrl ?_))
    iterate 2 refine sdm A λa A↦?_
    iterate 2 refine seq_skip A rfl rfl rfl λa A↦?_
    refine sdk (v := .bool false) A λa A↦?_
    refine seq_end (hK39 _ _ (wp_cond_false (A.ev rfl) ?_))
    refine wp_skip (hK38 _ _ (wsk fun K40 hK40 => wrl (sdm A λa A↦?_)))
    refine seq_end (hK40 _ _ (wp_cond_false (A.ev rfl) ?_))
    refine wsk fun K41 hK41 => wrl ?_
    iterate 2 refine sdm A λa A↦?_
    refine sdo (v := .agg #[.int .i32 0, .bool true, .int .i64 (((i : Nat) : Int))]) A (does_build rfl (fun w => by kernel_rfl)) λa A↦?_
    refine s_litE (e := 80) (sz := 3) (m := 1) (vs := [.int .i32 0, .bool true, .int .i64 (((i : Nat) : Int))]) A M rfl rfl rfl (does_buildSlice rfl (by kernel_rfl)) rfl rfl (.inl (by decide)) ?_
    intro g42 w43 M a A
    refine s_appendE (e := 80) (sz := 3) (k := 1) (q := acc.length) (m := 1) (xs := (unitV acc)) (news := [.int .i32 0, .bool true, .int .i64 (((i : Nat) : Int))]) (L' := fun v44 => (.row 80 3 (.slice (some ⟨g42, 0, none⟩) 1 1) 1 ([.int .i32 0, .bool true, .int .i64 (((i : Nat) : Int))]) :: .row 80 3 (v44) (acc.length + 1) ((unitV acc) ++ [.int .i32 0, .bool true, .int .i64 (((i : Nat) : Int))]) :: [])) A rfl rfl rfl (m_appendE (z := .agg #[.int .i32 0, .bool false, .int .i64 0]) (sz := 3) (by_ := 16) Tryz.underlying77 (by kernel_rfl) rfl rfl rfl M 1 rfl rfl 0 rfl rfl rfl rfl (by omega)) (fun _ => rfl) ?_
    intro v44 w45 M a A
    refine sda A λa A↦?_
    refine seq_end (hK41 _ _ (wrl (sdm A λa A↦?_)))
    refine sdo (v := .int .i64 (((i + 1 : Nat) : Int))) A (does_bin rfl rfl (ar_add ((in_i64 (by omega) (by omega)).trans (by omega)))) λa A↦?_
    refine sda A λa A↦?_
    refine seq_end ?_
    have hd : decodeN (l.length - i) (l.getD i 0).toNat (l.getD (i + 1) 0).toNat (l.getD (i + 2) 0).toNat (l.getD (i + 3) 0).toNat = (65533, 1) := by
     unfold Lib.decodeN
     repeat' split
     all_goals first | rfl | (exfalso; omega) | (refine Prod.ext ?_ rfl; show (_ : Nat) = _; omega)
    have hr9 : uR (65533) 1 = (-1) := by unfold uR; rw [if_pos ⟨rfl, by decide⟩]
    have hs9 := restU_step (show i < l.length by omega) hd
    rw [hr9] at hs9
    replace M : Mg w w45 [.row 80 3 v44 (acc ++ [((i : Int), (-1))]).length (unitV (acc ++ [((i : Int), (-1))]))] := by
     have h9 := M.sub (.cons _ (.cons_cons _ (.refl _)))
     have e9 : unitV (acc ++ [((i : Int), (-1))]) = unitV acc ++ [.int .i32 0, .bool true, .int .i64 (((i : Nat) : Int))] := by
      unfold unitV
      rw [List.flatMap_append, List.flatMap_singleton]
      rw [if_pos rfl]
     rw [e9, List.length_append]
     exact h9
    refine hK8 _ _ _ (by omega) ⟨i + 1, acc ++ [((i : Int), (-1))], v44, rfl, ⟨by rw [← hrun, hs9, List.append_assoc]; rfl, by omega, by rw [List.length_append]; simp only [List.length_cons, List.length_nil]; omega⟩, A.keep _ ⟨rfl, rfl, rfl, rfl, rfl, trivial⟩, M⟩
  ·
   have hb17' := of_decide_eq_false hb17
   refine sdo (v := .bool false) A (does_bin rfl rfl (fun w => (bin_lss w).trans (by rw [hb17]))) λa A↦?_
   refine sda A λa A↦?_
   refine seq_end (hK16 _ _ (wp_cond_false (A.ev rfl) ?_))
   refine wsk fun K46 hK46 => wrl (sdm A λa A↦?_)
   refine sdo (v := .int .u8 (((((l.getD i 0).toNat : Nat) : Int)) / 32)) A (does_bin rfl rfl (ar_shr (n := 5) rfl rfl rfl)) λa A↦?_
   rcases tf ((((((l.getD i 0).toNat : Nat) : Int)) / 32 == 6)) with hb47 | hb47
   ·
    have hb47' := eq_of_beq hb47
    refine sdo (v := .bool true) A (does_bin rfl rfl (fun w => (bin_eql w).trans (by rw [hb47]))) λa A↦?_
    refine sda A λa A↦?_
    refine seq_end (hK46 _ _ (wp_cond_true (A.ev rfl) ?_))
    refine wrl (sdm A λa A↦?_)
    refine sdo (v := .int .u8 (((((l.getD i 0).toNat : Nat) : Int)) % 32)) A (does_bin rfl rfl (ar_and (and_u8 5 31 rfl (by decide) (by omega) (by omega)))) λa A↦?_
    refine sdo (v := .int .i32 (((((l.getD i 0).toNat : Nat) : Int)) % 32)) A (does_convert rfl (ar_conv Tryz.underlying5 Tryz.underlying21 (in_i32 (by omega) (by omega)))) λa A↦?_
    iterate 2 refine sda A λa A↦?_
    refine seq_end (hK15 _ _ (wsk fun K48 hK48 => wrl (sdm A λa A↦?_)))
    refine sdo (v := .bool true) A (does_bin rfl rfl (fun w => by kernel_rfl)) λa A↦?_
    iterate 3 refine sdm A λa A↦?_
    refine sdo (v := .int .i64 (((i + 2 : Nat) : Int))) A (does_bin rfl rfl (ar_add ((in_i64 (by omega) (by omega)).trans (by omega)))) λa A↦?_
    refine sdm A λa A↦?_
    refine sdo A (does_len Tryz.underlying27 rfl) λa A↦?_
    rcases tf (decide (((i + 2 : Nat) : Int) ≤ ((l.length : Nat) : Int))) with hb49 | hb49
    ·
     have hb49' := of_decide_eq_true hb49
     refine sdo (v := .bool true) A (does_bin rfl rfl (fun w => (bin_leq w).trans (by rw [hb49]))) λa A↦?_
     refine sdk (v := .bool true) A λa A↦?_
     refine sda A λa A↦?_
     refine seq_end (hK48 _ _ (wsk fun K50 hK50 => wsk fun K51 hK51 => wrl (sda A λa A↦?_)))
     refine seq_end (hK51 _ _ (wp_block (wp_loop_rounds 5 ?_)))
     refine rounds_k ?_
     intro K52 hK52
     refine wsk fun K53 hK53 => wsk fun K54 hK54 => wrl ?_
     iterate 4 refine sdm A λa A↦?_
     refine sdo (v := .bool true) A (does_bin rfl rfl (fun w => by kernel_rfl)) λa A↦?_
     refine sdk (v := .bool true) A λa A↦?_
     refine seq_end (hK54 _ _ (wp_cond_true (A.ev rfl) ?_))
     refine wp_skip (hK53 _ _ (wsk fun K55 hK55 => wp_block (wsk fun K56 hK56 => wrl ?_)))
     iterate 3 refine sdm A λa A↦?_
     refine sdo (v := .int .i64 (((i + 1 : Nat) : Int))) A (does_bin rfl rfl (ar_add ((in_i64 (by omega) (by omega)).trans (by omega)))) λa A↦?_
     refine sdo (v := .pointer (some ⟨bx, ox + (i + 1), none⟩)) A (does_indexRow Tryz.underlying27 (by kernel_rfl) rfl rfl rfl hx1 (show i + 1 < l.length by omega)) λa A↦?_
     refine sdo (v := .int .u8 ((((l.getD (i + 1) 0).toNat : Nat) : Int))) A (m_loadR M hx2 (hx3 (i + 1) (by omega)) TrU_is1_5 rfl) λa A↦?_
     have hu1 := (l.getD (i + 1) 0).toNat_lt
     refine sda A λa A↦?_
     refine seq_end (hK56 _ _ (wsk fun K57 hK57 => wrl (sdm A λa A↦?_)))
     refine sdo (v := .int .u8 (((((l.getD (i + 1) 0).toNat : Nat) : Int)) / 64)) A (does_bin rfl rfl (ar_shr (n := 6) rfl rfl rfl)) λa A↦?_
     rcases tf ((((((l.getD (i + 1) 0).toNat : Nat) : Int)) / 64 == 2)) with hb58 | hb58
     ·
      have hb58' := eq_of_beq hb58
      refine sdo (v := .bool true) A (does_bin rfl rfl (fun w => (bin_eql w).trans (by rw [hb58]))) λa A↦?_
      refine sda A λa A↦?_
      refine seq_end (hK57 _ _ (wrl (sdm A λa A↦?_)))
      refine sdo (v := .int .i32 ((((((l.getD i 0).toNat : Nat) : Int)) % 32) * 64)) A (does_bin rfl rfl (ar_shl (n := 6) rfl rfl (in_i32 (by omega) (by omega)))) λa A↦?_
      refine sdm A λa A↦?_
      refine sdo (v := .int .u8 (((((l.getD (i + 1) 0).toNat : Nat) : Int)) % 64)) A (does_bin rfl rfl (ar_and (and_u8 6 63 rfl (by decide) (by omega) (by omega)))) λa A↦?_
      refine sdo (v := .int .i32 (((((l.getD (i + 1) 0).toNat : Nat) : Int)) % 64)) A (does_convert rfl (ar_conv Tryz.underlying5 Tryz.underlying21 (in_i32 (by omega) (by omega)))) λa A↦?_
      refine sdo (v := .int .i32 ((((((l.getD i 0).toNat : Nat) : Int)) % 32) * 64 + (((((l.getD (i + 1) 0).toNat : Nat) : Int)) % 64))) A (does_bin rfl rfl (ar_or (or_six (by omega) (by omega) (by omega) (by omega)))) λa A↦?_
      refine sda A λa A↦?_
      refine seq_end (hK55 _ _ (wrl (sdm A λa A↦?_)))
      refine sdo (v := .int .i64 2) A (does_bin rfl rfl (fun w => by kernel_rfl)) λa A↦?_
      refine sda A λa A↦?_
      refine seq_end (hK52 _ _ (rounds_k ?_))
      intro K59 hK59
      refine wsk fun K60 hK60 => wsk fun K61 hK61 => wrl ?_
      iterate 4 refine sdm A λa A↦?_
      refine sdo (v := .bool false) A (does_bin rfl rfl (fun w => by kernel_rfl)) λa A↦?_
      refine sdk (v := .bool false) A λa A↦?_
      refine seq_end (hK61 _ _ (wp_cond_false (A.ev rfl) ?_))
      refine wp_exit (hK50 _ _ (wsk fun K62 hK62 => wsk fun K63 hK63 => wrl ?_))
      iterate 3 refine sdm A λa A↦?_
      refine sdo (v := .bool true) A (does_bin rfl rfl (fun w => by kernel_rfl)) λa A↦?_
      refine sdk (v := .bool true) A λa A↦?_
      refine seq_end (hK63 _ _ (wp_cond_true (A.ev rfl) ?_))
      refine wsk fun K64 hK64 => wrl (s_litE (e := 21) (sz := 1) (m := 5) (vs := [.int .i32 0, .int .i32 0, .int .i32 128, .int .i32 2048, .int .i32 65536]) A M rfl rfl rfl (does_buildSlice rfl (by kernel_rfl)) rfl rfl (.inl (by decide)) ?_)
      intro g65 w66 M a A
      refine sda A λa A↦?_
      refine seq_end (hK64 _ _ (wrl ?_))
      iterate 3 refine sdm A λa A↦?_
      refine sdo (v := .pointer (some ⟨g65, 2, none⟩)) A (does_indexI rfl rfl (fun w => by kernel_rfl)) λa A↦?_
      refine sdo (v := .int .i32 128) A (m_loadE M 0 rfl rfl TrU_is1_21 rfl) λa A↦?_
      rcases tf (decide (128 ≤ (((((l.getD i 0).toNat : Nat) : Int)) % 32) * 64 + (((((l.getD (i + 1) 0).toNat : Nat) : Int)) % 64))) with hb67 | hb67
      ·
       have hb67' := of_decide_eq_true hb67
       refine sdo (v := .bool true) A (does_bin rfl rfl (fun w => (bin_geq w).trans (by rw [hb67]))) λa A↦?_
       iterate 2 refine sdm A λa A↦?_
       rcases tf (decide ((((((l.getD i 0).toNat : Nat) : Int)) % 32) * 64 + (((((l.getD (i + 1) 0).toNat : Nat) : Int)) % 64) ≤ 1114111)) with hb68 | hb68
       ·
        have hb68' := of_decide_eq_true hb68
        refine sdo (v := .bool true) A (does_bin rfl rfl (fun w => (bin_leq w).trans (by rw [hb68]))) λa A↦?_
        refine sdk (v := .bool true) A λa A↦?_
        iterate 2 refine sdm A λa A↦?_
        rcases tf (decide ((((((l.getD i 0).toNat : Nat) : Int)) % 32) * 64 + (((((l.getD (i + 1) 0).toNat : Nat) : Int)) % 64) < 55296)) with hb69 | hb69
        ·
         have hb69' := of_decide_eq_true hb69
         refine sdo (v := .bool true) A (does_bin rfl rfl (fun w => (bin_lss w).trans (by rw [hb69]))) λa A↦?_
         refine sdm A λa A↦?_
         iterate 2 refine seq_skip A rfl rfl rfl λa A↦?_
         iterate 2 refine sdk (v := .bool true) A λa A↦?_
         refine sda A λa A↦?_
         refine seq_end (hK62 _ _ (wsk fun K70 hK70 => wrl (sdm A λa A↦?_)))
         refine seq_end (hK70 _ _ (wp_cond_true (A.ev rfl) ?_))
         refine wsk fun K71 hK71 => wrl ?_
         iterate 3 refine sdm A λa A↦?_
         refine sdo (v := .agg #[.int .i32 ((((((l.getD i 0).toNat : Nat) : Int)) % 32) * 64 + (((((l.getD (i + 1) 0).toNat : Nat) : Int)) % 64)), .bool false, .int .i64 (((i : Nat) : Int))]) A (does_build rfl (fun w => by kernel_rfl)) λa A↦?_
         refine s_litE (e := 80) (sz := 3) (m := 1) (vs := [.int .i32 ((((((l.getD i 0).toNat : Nat) : Int)) % 32) * 64 + (((((l.getD (i + 1) 0).toNat : Nat) : Int)) % 64)), .bool false, .int .i64 (((i : Nat) : Int))]) A M rfl rfl rfl (does_buildSlice rfl (by kernel_rfl)) rfl rfl (.inl (by decide)) ?_
         intro g72 w73 M a A
         refine s_appendE (e := 80) (sz := 3) (k := 2) (q := acc.length) (m := 1) (xs := (unitV acc)) (news := [.int .i32 ((((((l.getD i 0).toNat : Nat) : Int)) % 32) * 64 + (((((l.getD (i + 1) 0).toNat : Nat) : Int)) % 64)), .bool false, .int .i64 (((i : Nat) : Int))]) (L' := fun v74 => (.row 80 3 (.slice (some ⟨g72, 0, none⟩) 1 1) 1 ([.int .i32 ((((((l.getD i 0).toNat : Nat) : Int)) % 32) * 64 + (((((l.getD (i + 1) 0).toNat : Nat) : Int)) % 64)), .bool false, .int .i64 (((i : Nat) : Int))]) :: .row 21 1 (.slice (some ⟨g65, 0, none⟩) 5 5) 5 ([.int .i32 0, .int .i32 0, .int .i32 128, .int .i32 2048, .int .i32 65536]) :: .row 80 3 (v74) (acc.length + 1) ((unitV acc) ++ [.int .i32 ((((((l.getD i 0).toNat : Nat) : Int)) % 32) * 64 + (((((l.getD (i + 1) 0).toNat : Nat) : Int)) % 64)), .bool false, .int .i64 (((i : Nat) : Int))]) :: [])) A rfl rfl rfl (m_appendE (z := .agg #[.int .i32 0, .bool false, .int .i64 0]) (sz := 3) (by_ := 16) Tryz.underlying77 (by kernel_rfl) rfl rfl rfl M 2 rfl rfl 0 rfl rfl rfl rfl (by omega)) (fun _ => rfl) ?_
         intro v74 w75 M a A
         refine sda A λa A↦?_
         refine seq_end (hK71 _ _ (wrl ?_))
         iterate 2 refine sdm A λa A↦?_
         refine sdo (v := .int .i64 (((i + 2 : Nat) : Int))) A (does_bin rfl rfl (ar_add ((in_i64 (by omega) (by omega)).trans (by omega)))) λa A↦?_
         refine sda A λa A↦?_
         refine seq_end ?_
         have hd : decodeN (l.length - i) (l.getD i 0).toNat (l.getD (i + 1) 0).toNat (l.getD (i + 2) 0).toNat (l.getD (i + 3) 0).toNat = (((((((l.getD i 0).toNat : Nat) : Int)) % 32) * 64 + (((((l.getD (i + 1) 0).toNat : Nat) : Int)) % 64)).toNat, 2) := by
          unfold Lib.decodeN
          repeat' split
          all_goals first | rfl | (exfalso; omega) | (refine Prod.ext ?_ rfl; show (_ : Nat) = _; omega)
         have hr9 : uR (((((((l.getD i 0).toNat : Nat) : Int)) % 32) * 64 + (((((l.getD (i + 1) 0).toNat : Nat) : Int)) % 64)).toNat) 2 = ((((((l.getD i 0).toNat : Nat) : Int)) % 32) * 64 + (((((l.getD (i + 1) 0).toNat : Nat) : Int)) % 64)) := by unfold uR; rw [if_neg (by omega)]; omega
         have hs9 := restU_step (show i < l.length by omega) hd
         rw [hr9] at hs9
         replace M : Mg w w75 [.row 80 3 v74 (acc ++ [((i : Int), ((((((l.getD i 0).toNat : Nat) : Int)) % 32) * 64 + (((((l.getD (i + 1) 0).toNat : Nat) : Int)) % 64)))]).length (unitV (acc ++ [((i : Int), ((((((l.getD i 0).toNat : Nat) : Int)) % 32) * 64 + (((((l.getD (i + 1) 0).toNat : Nat) : Int)) % 64)))]))] := by
          have h9 := M.sub (.cons _ (.cons _ (.cons_cons _ (.refl _))))
          have e9 : unitV (acc ++ [((i : Int), ((((((l.getD i 0).toNat : Nat) : Int)) % 32) * 64 + (((((l.getD (i + 1) 0).toNat : Nat) : Int)) % 64)))]) = unitV acc ++ [.int .i32 ((((((l.getD i 0).toNat : Nat) : Int)) % 32) * 64 + (((((l.getD (i + 1) 0).toNat : Nat) : Int)) % 64)), .bool false, .int .i64 (((i : Nat) : Int))] := by
           unfold unitV
           rw [List.flatMap_append, List.flatMap_singleton]
           rw [if_neg (show ¬ _ = (-1 : Int) by simp only; omega)]
          rw [e9, List.length_append]
          exact h9
         refine hK8 _ _ _ (by omega) ⟨i + 2, acc ++ [((i : Int), ((((((l.getD i 0).toNat : Nat) : Int)) % 32) * 64 + (((((l.getD (i + 1) 0).toNat : Nat) : Int)) % 64)))], v74, rfl, ⟨by rw [← hrun, hs9, List.append_assoc]; rfl, by omega, by rw [List.length_append]; simp only [List.length_cons, List.length_nil]; omega⟩, A.keep _ ⟨rfl, rfl, rfl, rfl, rfl, trivial⟩, M⟩
        ·
         have hb69' := of_decide_eq_false hb69
         refine sdo (v := .bool false) A (does_bin rfl rfl (fun w => (bin_lss w).trans (by rw [hb69]))) λa A↦?_
         iterate 2 refine sdm A λa A↦?_
         rcases tf (decide (57343 < (((((l.getD i 0).toNat : Nat) : Int)) % 32) * 64 + (((((l.getD (i + 1) 0).toNat : Nat) : Int)) % 64))) with hb76 | hb76
         ·
          have hb76' := of_decide_eq_true hb76
          refine sdo (v := .bool true) A (does_bin rfl rfl (fun w => (bin_gtr w).trans (by rw [hb76]))) λa A↦?_
          iterate 2 refine sdk (v := .bool true) A λa A↦?_
          refine sda A λa A↦?_
          refine seq_end (hK62 _ _ (wsk fun K77 hK77 => wrl (sdm A λa A↦?_)))
          refine seq_end (hK77 _ _ (wp_cond_true (A.ev rfl) ?_))
          refine wsk fun K78 hK78 => wrl ?_
          iterate 3 refine sdm A λa A↦?_
          refine sdo (v := .agg #[.int .i32 ((((((l.getD i 0).toNat : Nat) : Int)) % 32) * 64 + (((((l.getD (i + 1) 0).toNat : Nat) : Int)) % 64)), .bool false, .int .i64 (((i : Nat) : Int))]) A (does_build rfl (fun w => by kernel_rfl)) λa A↦?_
          refine s_litE (e := 80) (sz := 3) (m := 1) (vs := [.int .i32 ((((((l.getD i 0).toNat : Nat) : Int)) % 32) * 64 + (((((l.getD (i + 1) 0).toNat : Nat) : Int)) % 64)), .bool false, .int .i64 (((i : Nat) : Int))]) A M rfl rfl rfl (does_buildSlice rfl (by kernel_rfl)) rfl rfl (.inl (by decide)) ?_
          intro g79 w80 M a A
          refine s_appendE (e := 80) (sz := 3) (k := 2) (q := acc.length) (m := 1) (xs := (unitV acc)) (news := [.int .i32 ((((((l.getD i 0).toNat : Nat) : Int)) % 32) * 64 + (((((l.getD (i + 1) 0).toNat : Nat) : Int)) % 64)), .bool false, .int .i64 (((i : Nat) : Int))]) (L' := fun v81 => (.row 80 3 (.slice (some ⟨g79, 0, none⟩) 1 1) 1 ([.int .i32 ((((((l.getD i 0).toNat : Nat) : Int)) % 32) * 64 + (((((l.getD (i + 1) 0).toNat : Nat) : Int)) % 64)), .bool false, .int .i64 (((i : Nat) : Int))]) :: .row 21 1 (.slice (some ⟨g65, 0, none⟩) 5 5) 5 ([.int .i32 0, .int .i32 0, .int .i32 128, .int .i32 2048, .int .i32 65536]) :: .row 80 3 (v81) (acc.length + 1) ((unitV acc) ++ [.int .i32 ((((((l.getD i 0).toNat : Nat) : Int)) % 32) * 64 + (((((l.getD (i + 1) 0).toNat : Nat) : Int)) % 64)), .bool false, .int .i64 (((i : Nat) : Int))]) :: [])) A rfl rfl rfl (m_appendE (z := .agg #[.int .i32 0, .bool false, .int .i64 0]) (sz := 3) (by_ := 16) Tryz.underlying77 (by kernel_rfl) rfl rfl rfl M 2 rfl rfl 0 rfl rfl rfl rfl (by omega)) (fun _ => rfl) ?_
          intro v81 w82 M a A
          refine sda A λa A↦?_
          refine seq_end (hK78 _ _ (wrl ?_))
          iterate 2 refine sdm A λa A↦?_
          refine sdo (v := .int .i64 (((i + 2 : Nat) : Int))) A (does_bin rfl rfl (ar_add ((in_i64 (by omega) (by omega)).trans (by omega)))) λa A↦?_
          refine sda A λa A↦?_
          refine seq_end ?_
          have hd : decodeN (l.length - i) (l.getD i 0).toNat (l.getD (i + 1) 0).toNat (l.getD (i + 2) 0).toNat (l.getD (i + 3) 0).toNat = (((((((l.getD i 0).toNat : Nat) : Int)) % 32) * 64 + (((((l.getD (i + 1) 0).toNat : Nat) : Int)) % 64)).toNat, 2) := by
           unfold Lib.decodeN
           repeat' split
           all_goals first | rfl | (exfalso; omega) | (refine Prod.ext ?_ rfl; show (_ : Nat) = _; omega)
          have hr9 : uR (((((((l.getD i 0).toNat : Nat) : Int)) % 32) * 64 + (((((l.getD (i + 1) 0).toNat : Nat) : Int)) % 64)).toNat) 2 = ((((((l.getD i 0).toNat : Nat) : Int)) % 32) * 64 + (((((l.getD (i + 1) 0).toNat : Nat) : Int)) % 64)) := by unfold uR; rw [if_neg (by omega)]; omega
          have hs9 := restU_step (show i < l.length by omega) hd
          rw [hr9] at hs9
          replace M : Mg w w82 [.row 80 3 v81 (acc ++ [((i : Int), ((((((l.getD i 0).toNat : Nat) : Int)) % 32) * 64 + (((((l.getD (i + 1) 0).toNat : Nat) : Int)) % 64)))]).length (unitV (acc ++ [((i : Int), ((((((l.getD i 0).toNat : Nat) : Int)) % 32) * 64 + (((((l.getD (i + 1) 0).toNat : Nat) : Int)) % 64)))]))] := by
           have h9 := M.sub (.cons _ (.cons _ (.cons_cons _ (.refl _))))
           have e9 : unitV (acc ++ [((i : Int), ((((((l.getD i 0).toNat : Nat) : Int)) % 32) * 64 + (((((l.getD (i + 1) 0).toNat : Nat) : Int)) % 64)))]) = unitV acc ++ [.int .i32 ((((((l.getD i 0).toNat : Nat) : Int)) % 32) * 64 + (((((l.getD (i + 1) 0).toNat : Nat) : Int)) % 64)), .bool false, .int .i64 (((i : Nat) : Int))] := by
            unfold unitV
            rw [List.flatMap_append, List.flatMap_singleton]
            rw [if_neg (show ¬ _ = (-1 : Int) by simp only; omega)]
           rw [e9, List.length_append]
           exact h9
          refine hK8 _ _ _ (by omega) ⟨i + 2, acc ++ [((i : Int), ((((((l.getD i 0).toNat : Nat) : Int)) % 32) * 64 + (((((l.getD (i + 1) 0).toNat : Nat) : Int)) % 64)))], v81, rfl, ⟨by rw [← hrun, hs9, List.append_assoc]; rfl, by omega, by rw [List.length_append]; simp only [List.length_cons, List.length_nil]; omega⟩, A.keep _ ⟨rfl, rfl, rfl, rfl, rfl, trivial⟩, M⟩
         ·
          have hb76' := of_decide_eq_false hb76
          refine sdo (v := .bool false) A (does_bin rfl rfl (fun w => (bin_gtr w).trans (by rw [hb76]))) λa A↦?_
          iterate 2 refine sdk (v := .bool false) A λa A↦?_
          refine sda A λa A↦?_
          refine seq_end (hK62 _ _ (wsk fun K83 hK83 => wrl (sdm A λa A↦?_)))
          refine seq_end (hK83 _ _ (wp_cond_false (A.ev rfl) ?_))
          refine wsk fun K84 hK84 => wrl ?_
          iterate 2 refine sdm A λa A↦?_
          refine sdo (v := .agg #[.int .i32 0, .bool true, .int .i64 (((i : Nat) : Int))]) A (does_build rfl (fun w => by kernel_rfl)) λa A↦?_
          refine s_litE (e := 80) (sz := 3) (m := 1) (vs := [.int .i32 0, .bool true, .int .i64 (((i : Nat) : Int))]) A M rfl rfl rfl (does_buildSlice rfl (by kernel_rfl)) rfl rfl (.inl (by decide)) ?_
          intro g85 w86 M a A
          refine s_appendE (e := 80) (sz := 3) (k := 2) (q := acc.length) (m := 1) (xs := (unitV acc)) (news := [.int .i32 0, .bool true, .int .i64 (((i : Nat) : Int))]) (L' := fun v87 => (.row 80 3 (.slice (some ⟨g85, 0, none⟩) 1 1) 1 ([.int .i32 0, .bool true, .int .i64 (((i : Nat) : Int))]) :: .row 21 1 (.slice (some ⟨g65, 0, none⟩) 5 5) 5 ([.int .i32 0, .int .i32 0, .int .i32 128, .int .i32 2048, .int .i32 65536]) :: .row 80 3 (v87) (acc.length + 1) ((unitV acc) ++ [.int .i32 0, .bool true, .int .i64 (((i : Nat) : Int))]) :: [])) A rfl rfl rfl (m_appendE (z := .agg #[.int .i32 0, .bool false, .int .i64 0]) (sz := 3) (by_ := 16) Tryz.underlying77 (by kernel_rfl) rfl rfl rfl M 2 rfl rfl 0 rfl rfl rfl rfl (by omega)) (fun _ => rfl) ?_
          intro v87 w88 M a A
          refine sda A λa A↦?_
          refine seq_end (hK84 _ _ (wrl (sdm A λa A↦?_)))
          refine sdo (v := .int .i64 (((i + 1 : Nat) : Int))) A (does_bin rfl rfl (ar_add ((in_i64 (by omega) (by omega)).trans (by omega)))) λa A↦?_
          refine sda A λa A↦?_
          refine seq_end ?_
          have hd : decodeN (l.length - i) (l.getD i 0).toNat (l.getD (i + 1) 0).toNat (l.getD (i + 2) 0).toNat (l.getD (i + 3) 0).toNat = (65533, 1) := by
           unfold Lib.decodeN
           repeat' split
           all_goals first | rfl | (exfalso; omega) | (refine Prod.ext ?_ rfl; show (_ : Nat) = _; omega)
          have hr9 : uR (65533) 1 = (-1) := by unfold uR; rw [if_pos ⟨rfl, by decide⟩]
          have hs9 := restU_step (show i < l.length by omega) hd
          rw [hr9] at hs9
          replace M : Mg w w88 [.row 80 3 v87 (acc ++ [((i : Int), (-1))]).length (unitV (acc ++ [((i : Int), (-1))]))] := by
           have h9 := M.sub (.cons _ (.cons _ (.cons_cons _ (.refl _))))
           have e9 : unitV (acc ++ [((i : Int), (-1))]) = unitV acc ++ [.int .i32 0, .bool true, .int .i64 (((i : Nat) : Int))] := by
            unfold unitV
            rw [List.flatMap_append, List.flatMap_singleton]
            rw [if_pos rfl]
           rw [e9, List.length_append]
           exact h9
          refine hK8 _ _ _ (by omega) ⟨i + 1, acc ++ [((i : Int), (-1))], v87, rfl, ⟨by rw [← hrun, hs9, List.append_assoc]; rfl, by omega, by rw [List.length_append]; simp only [List.length_cons, List.length_nil]; omega⟩, A.keep _ ⟨rfl, rfl, rfl, rfl, rfl, trivial⟩, M⟩
       ·
        have hb68' := of_decide_eq_false hb68
        refine sdo (v := .bool false) A (does_bin rfl rfl (fun w => (bin_leq w).trans (by rw [hb68]))) λa A↦?_
        refine sdk (v := .bool false) A λa A↦?_
        refine sdm A λa A↦?_
        iterate 3 refine seq_skip A rfl rfl rfl λa A↦?_
        iterate 2 refine seq_skipU A rfl rfl rfl λa A↦?_
        refine seq_skip A rfl rfl rfl λa A↦?_
        refine sdk (v := .bool false) A λa A↦?_
        refine sda A λa A↦?_
        refine seq_end (hK62 _ _ (wsk fun K89 hK89 => wrl (sdm A λa A↦?_)))
        refine seq_end (hK89 _ _ (wp_cond_false (A.ev rfl) ?_))
        refine wsk fun K90 hK90 => wrl ?_
        iterate 2 refine sdm A λa A↦?_
        refine sdo (v := .agg #[.int .i32 0, .bool true, .int .i64 (((i : Nat) : Int))]) A (does_build rfl (fun w => by kernel_rfl)) λa A↦?_
        refine s_litE (e := 80) (sz := 3) (m := 1) (vs := [.int .i32 0, .bool true, .int .i64 (((i : Nat) : Int))]) A M rfl rfl rfl (does_buildSlice rfl (by kernel_rfl)) rfl rfl (.inl (by decide)) ?_
        intro g91 w92 M a A
        refine s_appendE (e := 80) (sz := 3) (k := 2) (q := acc.length) (m := 1) (xs := (unitV acc)) (news := [.int .i32 0, .bool true, .int .i64 (((i : Nat) : Int))]) (L' := fun v93 => (.row 80 3 (.slice (some ⟨g91, 0, none⟩) 1 1) 1 ([.int .i32 0, .bool true, .int .i64 (((i : Nat) : Int))]) :: .row 21 1 (.slice (some ⟨g65, 0, none⟩) 5 5) 5 ([.int .i32 0, .int .i32 0, .int .i32 128, .int .i32 2048, .int .i32 65536]) :: .row 80 3 (v93) (acc.length + 1) ((unitV acc) ++ [.int .i32 0, .bool true, .int .i64 (((i : Nat) : Int))]) :: [])) A rfl rfl rfl (m_appendE (z := .agg #[.int .i32 0, .bool false, .int .i64 0]) (sz := 3) (by_ := 16) Tryz.underlying77 (by kernel_rfl) rfl rfl rfl M 2 rfl rfl 0 rfl rfl rfl rfl (by omega)) (fun _ => rfl) ?_
        intro v93 w94 M a A
        refine sda A λa A↦?_
        refine seq_end (hK90 _ _ (wrl (sdm A λa A↦?_)))
        refine sdo (v := .int .i64 (((i + 1 : Nat) : Int))) A (does_bin rfl rfl (ar_add ((in_i64 (by omega) (by omega)).trans (by omega)))) λa A↦?_
        refine sda A λa A↦?_
        refine seq_end ?_
        have hd : decodeN (l.length - i) (l.getD i 0).toNat (l.getD (i + 1) 0).toNat (l.getD (i + 2) 0).toNat (l.getD (i + 3) 0).toNat = (65533, 1) := by
         unfold Lib.decodeN
         repeat' split
         all_goals first | rfl | (exfalso; omega) | (refine Prod.ext ?_ rfl; show (_ : Nat) = _; omega)
        have hr9 : uR (65533) 1 = (-1) := by unfold uR; rw [if_pos ⟨rfl, by decide⟩]
        have hs9 := restU_step (show i < l.length by omega) hd
        rw [hr9] at hs9
        replace M : Mg w w94 [.row 80 3 v93 (acc ++ [((i : Int), (-1))]).length (unitV (acc ++ [((i : Int), (-1))]))] := by
         have h9 := M.sub (.cons _ (.cons _ (.cons_cons _ (.refl _))))
         have e9 : unitV (acc ++ [((i : Int), (-1))]) = unitV acc ++ [.int .i32 0, .bool true, .int .i64 (((i : Nat) : Int))] := by
          unfold unitV
          rw [List.flatMap_append, List.flatMap_singleton]
          rw [if_pos rfl]
         rw [e9, List.length_append]
         exact h9
        refine hK8 _ _ _ (by omega) ⟨i + 1, acc ++ [((i : Int), (-1))], v93, rfl, ⟨by rw [← hrun, hs9, List.append_assoc]; rfl, by omega, by rw [List.length_append]; simp only [List.length_cons, List.length_nil]; omega⟩, A.keep _ ⟨rfl, rfl, rfl, rfl, rfl, trivial⟩, M⟩
      ·
       have hb67' := of_decide_eq_false hb67
       refine sdo (v := .bool false) A (does_bin rfl rfl (fun w => (bin_geq w).trans (by rw [hb67]))) λa A↦?_
       refine sdm A λa A↦?_
       iterate 2 refine seq_skip A rfl rfl rfl λa A↦?_
       refine sdk (v := .bool false) A λa A↦?_
       refine sdm A λa A↦?_
       iterate 3 refine seq_skip A rfl rfl rfl λa A↦?_
       iterate 2 refine seq_skipU A rfl rfl rfl λa A↦?_
       refine seq_skip A rfl rfl rfl λa A↦?_
       refine sdk (v := .bool false) A λa A↦?_
       refine sda A λa A↦?_
       refine seq_end (hK62 _ _ (wsk fun K95 hK95 => wrl (sdm A λa A↦?_)))
       refine seq_end (hK95 _ _ (wp_cond_false (A.ev rfl) ?_))
       refine wsk fun K96 hK96 => wrl ?_
       iterate 2 refine sdm A λa A↦?_
       refine sdo (v := .agg #[.int .i32 0, .bool true, .int .i64 (((i : Nat) : Int))]) A (does_build rfl (fun w => by kernel_rfl)) λa A↦?_
       refine s_litE (e := 80) (sz := 3) (m := 1) (vs := [.int .i32 0, .bool true, .int .i64 (((i : Nat) : Int))]) A M rfl rfl rfl (does_buildSlice rfl (by kernel_rfl)) rfl rfl (.inl (by decide)) ?_
       intro g97 w98 M a A
       refine s_appendE (e := 80) (sz := 3) (k := 2) (q := acc.length) (m := 1) (xs := (unitV acc)) (news := [.int .i32 0, .bool true, .int .i64 (((i : Nat) : Int))]) (L' := fun v99 => (.row 80 3 (.slice (some ⟨g97, 0, none⟩) 1 1) 1 ([.int .i32 0, .bool true, .int .i64 (((i : Nat) : Int))]) :: .row 21 1 (.slice (some ⟨g65, 0, none⟩) 5 5) 5 ([.int .i32 0, .int .i32 0, .int .i32 128, .int .i32 2048, .int .i32 65536]) :: .row 80 3 (v99) (acc.length + 1) ((unitV acc) ++ [.int .i32 0, .bool true, .int .i64 (((i : Nat) : Int))]) :: [])) A rfl rfl rfl (m_appendE (z := .agg #[.int .i32 0, .bool false, .int .i64 0]) (sz := 3) (by_ := 16) Tryz.underlying77 (by kernel_rfl) rfl rfl rfl M 2 rfl rfl 0 rfl rfl rfl rfl (by omega)) (fun _ => rfl) ?_
       intro v99 w100 M a A
       refine sda A λa A↦?_
       refine seq_end (hK96 _ _ (wrl (sdm A λa A↦?_)))
       refine sdo (v := .int .i64 (((i + 1 : Nat) : Int))) A (does_bin rfl rfl (ar_add ((in_i64 (by omega) (by omega)).trans (by omega)))) λa A↦?_
       refine sda A λa A↦?_
       refine seq_end ?_
       have hd : decodeN (l.length - i) (l.getD i 0).toNat (l.getD (i + 1) 0).toNat (l.getD (i + 2) 0).toNat (l.getD (i + 3) 0).toNat = (65533, 1) := by
        unfold Lib.decodeN
        repeat' split
        all_goals first | rfl | (exfalso; omega) | (refine Prod.ext ?_ rfl; show (_ : Nat) = _; omega)
       have hr9 : uR (65533) 1 = (-1) := by unfold uR; rw [if_pos ⟨rfl, by decide⟩]
       have hs9 := restU_step (show i < l.length by omega) hd
       rw [hr9] at hs9
       replace M : Mg w w100 [.row 80 3 v99 (acc ++ [((i : Int), (-1))]).length (unitV (acc ++ [((i : Int), (-1))]))] := by
        have h9 := M.sub (.cons _ (.cons _ (.cons_cons _ (.refl _))))
        have e9 : unitV (acc ++ [((i : Int), (-1))]) = unitV acc ++ [.int .i32 0, .bool true, .int .i64 (((i : Nat) : Int))] := by
         unfold unitV
         rw [List.flatMap_append, List.flatMap_singleton]
         rw [if_pos rfl]
        rw [e9, List.length_append]
        exact h9
       refine hK8 _ _ _ (by omega) ⟨i + 1, acc ++ [((i : Int), (-1))], v99, rfl, ⟨by rw [← hrun, hs9, List.append_assoc]; rfl, by omega, by rw [List.length_append]; simp only [List.length_cons, List.length_nil]; omega⟩, A.keep _ ⟨rfl, rfl, rfl, rfl, rfl, trivial⟩, M⟩
     ·
      have hb58' := ne_of_beq_false hb58
      refine sdo (v := .bool false) A (does_bin rfl rfl (fun w => (bin_eql w).trans (by rw [hb58]))) λa A↦?_
      refine sda A λa A↦?_
      refine seq_end (hK57 _ _ (wrl (sdm A λa A↦?_)))
      refine sdo (v := .int .i32 ((((((l.getD i 0).toNat : Nat) : Int)) % 32) * 64)) A (does_bin rfl rfl (ar_shl (n := 6) rfl rfl (in_i32 (by omega) (by omega)))) λa A↦?_
      refine sdm A λa A↦?_
      refine sdo (v := .int .u8 (((((l.getD (i + 1) 0).toNat : Nat) : Int)) % 64)) A (does_bin rfl rfl (ar_and (and_u8 6 63 rfl (by decide) (by omega) (by omega)))) λa A↦?_
      refine sdo (v := .int .i32 (((((l.getD (i + 1) 0).toNat : Nat) : Int)) % 64)) A (does_convert rfl (ar_conv Tryz.underlying5 Tryz.underlying21 (in_i32 (by omega) (by omega)))) λa A↦?_
      refine sdo (v := .int .i32 ((((((l.getD i 0).toNat : Nat) : Int)) % 32) * 64 + (((((l.getD (i + 1) 0).toNat : Nat) : Int)) % 64))) A (does_bin rfl rfl (ar_or (or_six (by omega) (by omega) (by omega) (by omega)))) λa A↦?_
      refine sda A λa A↦?_
      refine seq_end (hK55 _ _ (wrl (sdm A λa A↦?_)))
      refine sdo (v := .int .i64 2) A (does_bin rfl rfl (fun w => by kernel_rfl)) λa A↦?_
      refine sda A λa A↦?_
      refine seq_end (hK52 _ _ (rounds_k ?_))
      intro K101 hK101
      refine wsk fun K102 hK102 => wsk fun K103 hK103 => wrl ?_
      iterate 2 refine sdm A λa A↦?_
      iterate 3 refine seq_skip A rfl rfl rfl λa A↦?_
      refine sdk (v := .bool false) A λa A↦?_
      refine seq_end (hK103 _ _ (wp_cond_false (A.ev rfl) ?_))
      refine wp_exit (hK50 _ _ (wsk fun K104 hK104 => wsk fun K105 hK105 => wrl ?_))
      iterate 2 refine sdm A λa A↦?_
      iterate 2 refine seq_skip A rfl rfl rfl λa A↦?_
      refine sdk (v := .bool false) A λa A↦?_
      refine seq_end (hK105 _ _ (wp_cond_false (A.ev rfl) ?_))
      refine wp_skip (hK104 _ _ (wsk fun K106 hK106 => wrl (sdm A λa A↦?_)))
      refine seq_end (hK106 _ _ (wp_cond_false (A.ev rfl) ?_))
      refine wsk fun K107 hK107 => wrl ?_
      iterate 2 refine sdm A λa A↦?_
      refine sdo (v := .agg #[.int .i32 0, .bool true, .int .i64 (((i : Nat) : Int))]) A (does_build rfl (fun w => by kernel_rfl)) λa A↦?_
      refine s_litE (e := 80) (sz := 3) (m := 1) (vs := [.int .i32 0, .bool true, .int .i64 (((i : Nat) : Int))]) A M rfl rfl rfl (does_buildSlice rfl (by kernel_rfl)) rfl rfl (.inl (by decide)) ?_
      intro g108 w109 M a A
      refine s_appendE (e := 80) (sz := 3) (k := 1) (q := acc.length) (m := 1) (xs := (unitV acc)) (news := [.int .i32 0, .bool true, .int .i64 (((i : Nat) : Int))]) (L' := fun v110 => (.row 80 3 (.slice (some ⟨g108, 0, none⟩) 1 1) 1 ([.int .i32 0, .bool true, .int .i64 (((i : Nat) : Int))]) :: .row 80 3 (v110) (acc.length + 1) ((unitV acc) ++ [.int .i32 0, .bool true, .int .i64 (((i : Nat) : Int))]) :: [])) A rfl rfl rfl (m_appendE (z := .agg #[.int .i32 0, .bool false, .int .i64 0]) (sz := 3) (by_ := 16) Tryz.underlying77 (by kernel_rfl) rfl rfl rfl M 1 rfl rfl 0 rfl rfl rfl rfl (by omega)) (fun _ => rfl) ?_
      intro v110 w111 M a A
      refine sda A λa A↦?_
      refine seq_end (hK107 _ _ (wrl (sdm A λa A↦?_)))
      refine sdo (v := .int .i64 (((i + 1 : Nat) : Int))) A (does_bin rfl rfl (ar_add ((in_i64 (by omega) (by omega)).trans (by omega)))) λa A↦?_
      refine sda A λa A↦?_
      refine seq_end ?_
      have hd : decodeN (l.length - i) (l.getD i 0).toNat (l.getD (i + 1) 0).toNat (l.getD (i + 2) 0).toNat (l.getD (i + 3) 0).toNat = (65533, 1) := by
       unfold Lib.decodeN
       repeat' split
       all_goals first | rfl | (exfalso; omega) | (refine Prod.ext ?_ rfl; show (_ : Nat) = _; omega)
      have hr9 : uR (65533) 1 = (-1) := by unfold uR; rw [if_pos ⟨rfl, by decide⟩]
      have hs9 := restU_step (show i < l.length by omega) hd
      rw [hr9] at hs9
      replace M : Mg w w111 [.row 80 3 v110 (acc ++ [((i : Int), (-1))]).length (unitV (acc ++ [((i : Int), (-1))]))] := by
       have h9 := M.sub (.cons _ (.cons_cons _ (.refl _)))
       have e9 : unitV (acc ++ [((i : Int), (-1))]) = unitV acc ++ [.int .i32 0, .bool true, .int .i64 (((i : Nat) : Int))] := by
        unfold unitV
        rw [List.flatMap_append, List.flatMap_singleton]
        rw [if_pos rfl]
       rw [e9, List.length_append]
       exact h9
      refine hK8 _ _ _ (by omega) ⟨i + 1, acc ++ [((i : Int), (-1))], v110, rfl, ⟨by rw [← hrun, hs9, List.append_assoc]; rfl, by omega, by rw [List.length_append]; simp only [List.length_cons, List.length_nil]; omega⟩, A.keep _ ⟨rfl, rfl, rfl, rfl, rfl, trivial⟩, M⟩
    ·
     have hb49' := of_decide_eq_false hb49
     refine sdo (v := .bool false) A (does_bin rfl rfl (fun w => (bin_leq w).trans (by rw [hb49]))) λa A↦?_
     refine sdk (v := .bool false) A λa A↦?_
     refine sda A λa A↦?_
     refine seq_end (hK48 _ _ (wsk fun K112 hK112 => wsk fun K113 hK113 => wrl (sda A λa A↦?_)))
     refine seq_end (hK113 _ _ (wp_block (wp_loop_rounds 5 ?_)))
     refine rounds_k ?_
     intro K114 hK114
     refine wsk fun K115 hK115 => wsk fun K116 hK116 => wrl ?_
     iterate 2 refine sdm A λa A↦?_
     iterate 3 refine seq_skip A rfl rfl rfl λa A↦?_
     refine sdk (v := .bool false) A λa A↦?_
     refine seq_end (hK116 _ _ (wp_cond_false (A.ev rfl) ?_))
     refine wp_exit (hK112 _ _ (wsk fun K117 hK117 => wsk fun K118 hK118 => wrl ?_))
     iterate 2 refine sdm A λa A↦?_
     iterate 2 refine seq_skip A rfl rfl rfl λa A↦?_
     refine sdk (v := .bool false) A λa A↦?_
     refine seq_end (hK118 _ _ (wp_cond_false (A.ev rfl) ?_))
     refine wp_skip (hK117 _ _ (wsk fun K119 hK119 => wrl (sdm A λa A↦?_)))
     refine seq_end (hK119 _ _ (wp_cond_false (A.ev rfl) ?_))
     refine wsk fun K120 hK120 => wrl ?_
     iterate 2 refine sdm A λa A↦?_
     refine sdo (v := .agg #[.int .i32 0, .bool true, .int .i64 (((i : Nat) : Int))]) A (does_build rfl (fun w => by kernel_rfl)) λa A↦?_
     refine s_litE (e := 80) (sz := 3) (m := 1) (vs := [.int .i32 0, .bool true, .int .i64 (((i : Nat) : Int))]) A M rfl rfl rfl (does_buildSlice rfl (by kernel_rfl)) rfl rfl (.inl (by decide)) ?_
     intro g121 w122 M a A
     refine s_appendE (e := 80) (sz := 3) (k := 1) (q := acc.length) (m := 1) (xs := (unitV acc)) (news := [.int .i32 0, .bool true, .int .i64 (((i : Nat) : Int))]) (L' := fun v123 => (.row 80 3 (.slice (some ⟨g121, 0, none⟩) 1 1) 1 ([.int .i32 0, .bool true, .int .i64 (((i : Nat) : Int))]) :: .row 80 3 (v123) (acc.length + 1) ((unitV acc) ++ [.int .i32 0, .bool true, .int .i64 (((i : Nat) : Int))]) :: [])) A rfl rfl rfl (m_appendE (z := .agg #[.int .i32 0, .bool false, .int .i64 0]) (sz := 3) (by_ := 16) Tryz.underlying77 (by kernel_rfl) rfl rfl rfl M 1 rfl rfl 0 rfl rfl rfl rfl (by omega)) (fun _ => rfl) ?_
     intro v123 w124 M a A
     refine sda A λa A↦?_
     refine seq_end (hK120 _ _ (wrl (sdm A λa A↦?_)))
     refine sdo (v := .int .i64 (((i + 1 : Nat) : Int))) A (does_bin rfl rfl (ar_add ((in_i64 (by omega) (by omega)).trans (by omega)))) λa A↦?_
     refine sda A λa A↦?_
     refine seq_end ?_
     have hd : decodeN (l.length - i) (l.getD i 0).toNat (l.getD (i + 1) 0).toNat (l.getD (i + 2) 0).toNat (l.getD (i + 3) 0).toNat = (65533, 1) := by
      unfold Lib.decodeN
      repeat' split
      all_goals first | rfl | (exfalso; omega) | (refine Prod.ext ?_ rfl; show (_ : Nat) = _; omega)
     have hr9 : uR (65533) 1 = (-1) := by unfold uR; rw [if_pos ⟨rfl, by decide⟩]
     have hs9 := restU_step (show i < l.length by omega) hd
     rw [hr9] at hs9
     replace M : Mg w w124 [.row 80 3 v123 (acc ++ [((i : Int), (-1))]).length (unitV (acc ++ [((i : Int), (-1))]))] := by
      have h9 := M.sub (.cons _ (.cons_cons _ (.refl _)))
      have e9 : unitV (acc ++ [((i : Int), (-1))]) = unitV acc ++ [.int .i32 0, .bool true, .int .i64 (((i : Nat) : Int))] := by
       unfold unitV
       rw [List.flatMap_append, List.flatMap_singleton]
       rw [if_pos rfl]
      rw [e9, List.length_append]
      exact h9
     refine hK8 _ _ _ (by omega) ⟨i + 1, acc ++ [((i : Int), (-1))], v123, rfl, ⟨by rw [← hrun, hs9, List.append_assoc]; rfl, by omega, by rw [List.length_append]; simp only [List.length_cons, List.length_nil]; omega⟩, A.keep _ ⟨rfl, rfl, rfl, rfl, rfl, trivial⟩, M⟩
   ·
    have hb47' := ne_of_beq_false hb47
    refine sdo (v := .bool false) A (does_bin rfl rfl (fun w => (bin_eql w).trans (by rw [hb47]))) λa A↦?_
    refine sda A λa A↦?_
    refine seq_end (hK46 _ _ (wp_cond_false (A.ev rfl) ?_))
    refine wsk fun K125 hK125 => wrl (sdm A λa A↦?_)
    refine sdo (v := .int .u8 (((((l.getD i 0).toNat : Nat) : Int)) / 16)) A (does_bin rfl rfl (ar_shr (n := 4) rfl rfl rfl)) λa A↦?_
    rcases tf ((((((l.getD i 0).toNat : Nat) : Int)) / 16 == 14)) with hb126 | hb126
    ·
     have hb126' := eq_of_beq hb126
     refine sdo (v := .bool true) A (does_bin rfl rfl (fun w => (bin_eql w).trans (by rw [hb126]))) λa A↦?_
     refine sda A λa A↦?_
     refine seq_end (hK125 _ _ (wp_cond_true (A.ev rfl) ?_))
     refine wrl (sdm A λa A↦?_)
     refine sdo (v := .int .u8 (((((l.getD i 0).toNat : Nat) : Int)) % 16)) A (does_bin rfl rfl (ar_and (and_u8 4 15 rfl (by decide) (by omega) (by omega)))) λa A↦?_
     refine sdo (v := .int .i32 (((((l.getD i 0).toNat : Nat) : Int)) % 16)) A (does_convert rfl (ar_conv Tryz.underlying5 Tryz.underlying21 (in_i32 (by omega) (by omega)))) λa A↦?_
     iterate 2 refine sda A λa A↦?_
     refine seq_end (hK15 _ _ (wsk fun K127 hK127 => wrl (sdm A λa A↦?_)))
     refine sdo (v := .bool true) A (does_bin rfl rfl (fun w => by kernel_rfl)) λa A↦?_
     iterate 3 refine sdm A λa A↦?_
     refine sdo (v := .int .i64 (((i + 3 : Nat) : Int))) A (does_bin rfl rfl (ar_add ((in_i64 (by omega) (by omega)).trans (by omega)))) λa A↦?_
     refine sdm A λa A↦?_
     refine sdo A (does_len Tryz.underlying27 rfl) λa A↦?_
     rcases tf (decide (((i + 3 : Nat) : Int) ≤ ((l.length : Nat) : Int))) with hb128 | hb128
     ·
      have hb128' := of_decide_eq_true hb128
      refine sdo (v := .bool true) A (does_bin rfl rfl (fun w => (bin_leq w).trans (by rw [hb128]))) λa A↦?_
      refine sdk (v := .bool true) A λa A↦?_
      refine sda A λa A↦?_
      refine seq_end (hK127 _ _ (wsk fun K129 hK129 => wsk fun K130 hK130 => wrl (sda A λa A↦?_)))
      refine seq_end (hK130 _ _ (wp_block (wp_loop_rounds 5 ?_)))
      refine rounds_k ?_
      intro K131 hK131
      refine wsk fun K132 hK132 => wsk fun K133 hK133 => wrl ?_
      iterate 4 refine sdm A λa A↦?_
      refine sdo (v := .bool true) A (does_bin rfl rfl (fun w => by kernel_rfl)) λa A↦?_
      refine sdk (v := .bool true) A λa A↦?_
      refine seq_end (hK133 _ _ (wp_cond_true (A.ev rfl) ?_))
      refine wp_skip (hK132 _ _ (wsk fun K134 hK134 => wp_block (wsk fun K135 hK135 => wrl ?_)))
      iterate 3 refine sdm A λa A↦?_
      refine sdo (v := .int .i64 (((i + 1 : Nat) : Int))) A (does_bin rfl rfl (ar_add ((in_i64 (by omega) (by omega)).trans (by omega)))) λa A↦?_
      refine sdo (v := .pointer (some ⟨bx, ox + (i + 1), none⟩)) A (does_indexRow Tryz.underlying27 (by kernel_rfl) rfl rfl rfl hx1 (show i + 1 < l.length by omega)) λa A↦?_
      refine sdo (v := .int .u8 ((((l.getD (i + 1) 0).toNat : Nat) : Int))) A (m_loadR M hx2 (hx3 (i + 1) (by omega)) TrU_is1_5 rfl) λa A↦?_
      have hu1 := (l.getD (i + 1) 0).toNat_lt
      refine sda A λa A↦?_
      refine seq_end (hK135 _ _ (wsk fun K136 hK136 => wrl (sdm A λa A↦?_)))
      refine sdo (v := .int .u8 (((((l.getD (i + 1) 0).toNat : Nat) : Int)) / 64)) A (does_bin rfl rfl (ar_shr (n := 6) rfl rfl rfl)) λa A↦?_
      rcases tf ((((((l.getD (i + 1) 0).toNat : Nat) : Int)) / 64 == 2)) with hb137 | hb137
      ·
       have hb137' := eq_of_beq hb137
       refine sdo (v := .bool true) A (does_bin rfl rfl (fun w => (bin_eql w).trans (by rw [hb137]))) λa A↦?_
       refine sda A λa A↦?_
       refine seq_end (hK136 _ _ (wrl (sdm A λa A↦?_)))
       refine sdo (v := .int .i32 ((((((l.getD i 0).toNat : Nat) : Int)) % 16) * 64)) A (does_bin rfl rfl (ar_shl (n := 6) rfl rfl (in_i32 (by omega) (by omega)))) λa A↦?_
       refine sdm A λa A↦?_
       refine sdo (v := .int .u8 (((((l.getD (i + 1) 0).toNat : Nat) : Int)) % 64)) A (does_bin rfl rfl (ar_and (and_u8 6 63 rfl (by decide) (by omega) (by omega)))) λa A↦?_
       refine sdo (v := .int .i32 (((((l.getD (i + 1) 0).toNat : Nat) : Int)) % 64)) A (does_convert rfl (ar_conv Tryz.underlying5 Tryz.underlying21 (in_i32 (by omega) (by omega)))) λa A↦?_
       refine sdo (v := .int .i32 ((((((l.getD i 0).toNat : Nat) : Int)) % 16) * 64 + (((((l.getD (i + 1) 0).toNat : Nat) : Int)) % 64))) A (does_bin rfl rfl (ar_or (or_six (by omega) (by omega) (by omega) (by omega)))) λa A↦?_
       refine sda A λa A↦?_
       refine seq_end (hK134 _ _ (wrl (sdm A λa A↦?_)))
       refine sdo (v := .int .i64 2) A (does_bin rfl rfl (fun w => by kernel_rfl)) λa A↦?_
       refine sda A λa A↦?_
       refine seq_end (hK131 _ _ (rounds_k ?_))
       intro K138 hK138
       refine wsk fun K139 hK139 => wsk fun K140 hK140 => wrl ?_
       iterate 4 refine sdm A λa A↦?_
       refine sdo (v := .bool true) A (does_bin rfl rfl (fun w => by kernel_rfl)) λa A↦?_
       refine sdk (v := .bool true) A λa A↦?_
       refine seq_end (hK140 _ _ (wp_cond_true (A.ev rfl) ?_))
       refine wp_skip (hK139 _ _ (wsk fun K141 hK141 => wp_block (wsk fun K142 hK142 => wrl ?_)))
       iterate 3 refine sdm A λa A↦?_
       refine sdo (v := .int .i64 (((i + 2 : Nat) : Int))) A (does_bin rfl rfl (ar_add ((in_i64 (by omega) (by omega)).trans (by omega)))) λa A↦?_
       refine sdo (v := .pointer (some ⟨bx, ox + (i + 2), none⟩)) A (does_indexRow Tryz.underlying27 (by kernel_rfl) rfl rfl rfl hx1 (show i + 2 < l.length by omega)) λa A↦?_
       refine sdo (v := .int .u8 ((((l.getD (i + 2) 0).toNat : Nat) : Int))) A (m_loadR M hx2 (hx3 (i + 2) (by omega)) TrU_is1_5 rfl) λa A↦?_
       have hu2 := (l.getD (i + 2) 0).toNat_lt
       refine sda A λa A↦?_
       refine seq_end (hK142 _ _ (wsk fun K143 hK143 => wrl (sdm A λa A↦?_)))
       refine sdo (v := .int .u8 (((((l.getD (i + 2) 0).toNat : Nat) : Int)) / 64)) A (does_bin rfl rfl (ar_shr (n := 6) rfl rfl rfl)) λa A↦?_
       rcases tf ((((((l.getD (i + 2) 0).toNat : Nat) : Int)) / 64 == 2)) with hb144 | hb144
       ·
        have hb144' := eq_of_beq hb144
        refine sdo (v := .bool true) A (does_bin rfl rfl (fun w => (bin_eql w).trans (by rw [hb144]))) λa A↦?_
        refine sda A λa A↦?_
        refine seq_end (hK143 _ _ (wrl (sdm A λa A↦?_)))
        refine sdo (v := .int .i32 (((((((l.getD i 0).toNat : Nat) : Int)) % 16) * 64 + (((((l.getD (i + 1) 0).toNat : Nat) : Int)) % 64)) * 64)) A (does_bin rfl rfl (ar_shl (n := 6) rfl rfl (in_i32 (by omega) (by omega)))) λa A↦?_
        refine sdm A λa A↦?_
        refine sdo (v := .int .u8 (((((l.getD (i + 2) 0).toNat : Nat) : Int)) % 64)) A (does_bin rfl rfl (ar_and (and_u8 6 63 rfl (by decide) (by omega) (by omega)))) λa A↦?_
        refine sdo (v := .int .i32 (((((l.getD (i + 2) 0).toNat : Nat) : Int)) % 64)) A (does_convert rfl (ar_conv Tryz.underlying5 Tryz.underlying21 (in_i32 (by omega) (by omega)))) λa A↦?_
        refine sdo (v := .int .i32 (((((((l.getD i 0).toNat : Nat) : Int)) % 16) * 64 + (((((l.getD (i + 1) 0).toNat : Nat) : Int)) % 64)) * 64 + (((((l.getD (i + 2) 0).toNat : Nat) : Int)) % 64))) A (does_bin rfl rfl (ar_or (or_six (by omega) (by omega) (by omega) (by omega)))) λa A↦?_
        refine sda A λa A↦?_
        refine seq_end (hK141 _ _ (wrl (sdm A λa A↦?_)))
        refine sdo (v := .int .i64 3) A (does_bin rfl rfl (fun w => by kernel_rfl)) λa A↦?_
        refine sda A λa A↦?_
        refine seq_end (hK138 _ _ (rounds_k ?_))
        intro K145 hK145
        refine wsk fun K146 hK146 => wsk fun K147 hK147 => wrl ?_
        iterate 4 refine sdm A λa A↦?_
        refine sdo (v := .bool false) A (does_bin rfl rfl (fun w => by kernel_rfl)) λa A↦?_
        refine sdk (v := .bool false) A λa A↦?_
        refine seq_end (hK147 _ _ (wp_cond_false (A.ev rfl) ?_))
        refine wp_exit (hK129 _ _ (wsk fun K148 hK148 => wsk fun K149 hK149 => wrl ?_))
        iterate 3 refine sdm A λa A↦?_
        refine sdo (v := .bool true) A (does_bin rfl rfl (fun w => by kernel_rfl)) λa A↦?_
        refine sdk (v := .bool true) A λa A↦?_
        refine seq_end (hK149 _ _ (wp_cond_true (A.ev rfl) ?_))
        refine wsk fun K150 hK150 => wrl (s_litE (e := 21) (sz := 1) (m := 5) (vs := [.int .i32 0, .int .i32 0, .int .i32 128, .int .i32 2048, .int .i32 65536]) A M rfl rfl rfl (does_buildSlice rfl (by kernel_rfl)) rfl rfl (.inl (by decide)) ?_)
        intro g151 w152 M a A
        refine sda A λa A↦?_
        refine seq_end (hK150 _ _ (wrl ?_))
        iterate 3 refine sdm A λa A↦?_
        refine sdo (v := .pointer (some ⟨g151, 3, none⟩)) A (does_indexI rfl rfl (fun w => by kernel_rfl)) λa A↦?_
        refine sdo (v := .int .i32 2048) A (m_loadE M 0 rfl rfl TrU_is1_21 rfl) λa A↦?_
        rcases tf (decide (2048 ≤ ((((((l.getD i 0).toNat : Nat) : Int)) % 16) * 64 + (((((l.getD (i + 1) 0).toNat : Nat) : Int)) % 64)) * 64 + (((((l.getD (i + 2) 0).toNat : Nat) : Int)) % 64))) with hb153 | hb153
        ·
         have hb153' := of_decide_eq_true hb153
         refine sdo (v := .bool true) A (does_bin rfl rfl (fun w => (bin_geq w).trans (by rw [hb153]))) λa A↦?_
         iterate 2 refine sdm A λa A↦?_
         rcases tf (decide (((((((l.getD i 0).toNat : Nat) : Int)) % 16) * 64 + (((((l.getD (i + 1) 0).toNat : Nat) : Int)) % 64)) * 64 + (((((l.getD (i + 2) 0).toNat : Nat) : Int)) % 64) ≤ 1114111)) with hb154 | hb154
         ·
          have hb154' := of_decide_eq_true hb154
          refine sdo (v := .bool true) A (does_bin rfl rfl (fun w => (bin_leq w).trans (by rw [hb154]))) λa A↦?_
          refine sdk (v := .bool true) A λa A↦?_
          iterate 2 refine sdm A λa A↦?_
          rcases tf (decide (((((((l.getD i 0).toNat : Nat) : Int)) % 16) * 64 + (((((l.getD (i + 1) 0).toNat : Nat) : Int)) % 64)) * 64 + (((((l.getD (i + 2) 0).toNat : Nat) : Int)) % 64) < 55296)) with hb155 | hb155
          ·
           have hb155' := of_decide_eq_true hb155
           refine sdo (v := .bool true) A (does_bin rfl rfl (fun w => (bin_lss w).trans (by rw [hb155]))) λa A↦?_
           refine sdm A λa A↦?_
           iterate 2 refine seq_skip A rfl rfl rfl λa A↦?_
           iterate 2 refine sdk (v := .bool true) A λa A↦?_
           refine sda A λa A↦?_
           refine seq_end (hK148 _ _ (wsk fun K156 hK156 => wrl (sdm A λa A↦?_)))
           refine seq_end (hK156 _ _ (wp_cond_true (A.ev rfl) ?_))
           refine wsk fun K157 hK157 => wrl ?_
           iterate 3 refine sdm A λa A↦?_
           refine sdo (v := .agg #[.int .i32 (((((((l.getD i 0).toNat : Nat) : Int)) % 16) * 64 + (((((l.getD (i + 1) 0).toNat : Nat) : Int)) % 64)) * 64 + (((((l.getD (i + 2) 0).toNat : Nat) : Int)) % 64)), .bool false, .int .i64 (((i : Nat) : Int))]) A (does_build rfl (fun w => by kernel_rfl)) λa A↦?_
           refine s_litE (e := 80) (sz := 3) (m := 1) (vs := [.int .i32 (((((((l.getD i 0).toNat : Nat) : Int)) % 16) * 64 + (((((l.getD (i + 1) 0).toNat : Nat) : Int)) % 64)) * 64 + (((((l.getD (i + 2) 0).toNat : Nat) : Int)) % 64)), .bool false, .int .i64 (((i : Nat) : Int))]) A M rfl rfl rfl (does_buildSlice rfl (by kernel_rfl)) rfl rfl (.inl (by decide)) ?_
           intro g158 w159 M a A
           refine s_appendE (e := 80) (sz := 3) (k := 2) (q := acc.length) (m := 1) (xs := (unitV acc)) (news := [.int .i32 (((((((l.getD i 0).toNat : Nat) : Int)) % 16) * 64 + (((((l.getD (i + 1) 0).toNat : Nat) : Int)) % 64)) * 64 + (((((l.getD (i + 2) 0).toNat : Nat) : Int)) % 64)), .bool false, .int .i64 (((i : Nat) : Int))]) (L' := fun v160 => (.row 80 3 (.slice (some ⟨g158, 0, none⟩) 1 1) 1 ([.int .i32 (((((((l.getD i 0).toNat : Nat) : Int)) % 16) * 64 + (((((l.getD (i + 1) 0).toNat : Nat) : Int)) % 64)) * 64 + (((((l.getD (i + 2) 0).toNat : Nat) : Int)) % 64)), .bool false, .int .i64 (((i : Nat) : Int))]) :: .row 21 1 (.slice (some ⟨g151, 0, none⟩) 5 5) 5 ([.int .i32 0, .int .i32 0, .int .i32 128, .int .i32 2048, .int .i32 65536]) :: .row 80 3 (v160) (acc.length + 1) ((unitV acc) ++ [.int .i32 (((((((l.getD i 0).toNat : Nat) : Int)) % 16) * 64 + (((((l.getD (i + 1) 0).toNat : Nat) : Int)) % 64)) * 64 + (((((l.getD (i + 2) 0).toNat : Nat) : Int)) % 64)), .bool false, .int .i64 (((i : Nat) : Int))]) :: [])) A rfl rfl rfl (m_appendE (z := .agg #[.int .i32 0, .bool false, .int .i64 0]) (sz := 3) (by_ := 16) Tryz.underlying77 (by kernel_rfl) rfl rfl rfl M 2 rfl rfl 0 rfl rfl rfl rfl (by omega)) (fun _ => rfl) ?_
           intro v160 w161 M a A
           refine sda A λa A↦?_
           refine seq_end (hK157 _ _ (wrl ?_))
           iterate 2 refine sdm A λa A↦?_
           refine sdo (v := .int .i64 (((i + 3 : Nat) : Int))) A (does_bin rfl rfl (ar_add ((in_i64 (by omega) (by omega)).trans (by omega)))) λa A↦?_
           refine sda A λa A↦?_
           refine seq_end ?_
           have hd : decodeN (l.length - i) (l.getD i 0).toNat (l.getD (i + 1) 0).toNat (l.getD (i + 2) 0).toNat (l.getD (i + 3) 0).toNat = ((((((((l.getD i 0).toNat : Nat) : Int)) % 16) * 64 + (((((l.getD (i + 1) 0).toNat : Nat) : Int)) % 64)) * 64 + (((((l.getD (i + 2) 0).toNat : Nat) : Int)) % 64)).toNat, 3) := by
            unfold Lib.decodeN
            repeat' split
            all_goals first | rfl | (exfalso; omega) | (refine Prod.ext ?_ rfl; show (_ : Nat) = _; omega)
           have hr9 : uR ((((((((l.getD i 0).toNat : Nat) : Int)) % 16) * 64 + (((((l.getD (i + 1) 0).toNat : Nat) : Int)) % 64)) * 64 + (((((l.getD (i + 2) 0).toNat : Nat) : Int)) % 64)).toNat) 3 = (((((((l.getD i 0).toNat : Nat) : Int)) % 16) * 64 + (((((l.getD (i + 1) 0).toNat : Nat) : Int)) % 64)) * 64 + (((((l.getD (i + 2) 0).toNat : Nat) : Int)) % 64)) := by unfold uR; rw [if_neg (by omega)]; omega
           have hs9 := restU_step (show i < l.length by omega) hd
           rw [hr9] at hs9
           replace M : Mg w w161 [.row 80 3 v160 (acc ++ [((i : Int), (((((((l.getD i 0).toNat : Nat) : Int)) % 16) * 64 + (((((l.getD (i + 1) 0).toNat : Nat) : Int)) % 64)) * 64 + (((((l.getD (i + 2) 0).toNat : Nat) : Int)) % 64)))]).length (unitV (acc ++ [((i : Int), (((((((l.getD i 0).toNat : Nat) : Int)) % 16) * 64 + (((((l.getD (i + 1) 0).toNat : Nat) : Int)) % 64)) * 64 + (((((l.getD (i + 2) 0).toNat : Nat) : Int)) % 64)))]))] := by
            have h9 := M.sub (.cons _ (.cons _ (.cons_cons _ (.refl _))))
            have e9 : unitV (acc ++ [((i : Int), (((((((l.getD i 0).toNat : Nat) : Int)) % 16) * 64 + (((((l.getD (i + 1) 0).toNat : Nat) : Int)) % 64)) * 64 + (((((l.getD (i + 2) 0).toNat : Nat) : Int)) % 64)))]) = unitV acc ++ [.int .i32 (((((((l.getD i 0).toNat : Nat) : Int)) % 16) * 64 + (((((l.getD (i + 1) 0).toNat : Nat) : Int)) % 64)) * 64 + (((((l.getD (i + 2) 0).toNat : Nat) : Int)) % 64)), .bool false, .int .i64 (((i : Nat) : Int))] := by
             unfold unitV
             rw [List.flatMap_append, List.flatMap_singleton]
             rw [if_neg (show ¬ _ = (-1 : Int) by simp only; omega)]
            rw [e9, List.length_append]
            exact h9
           refine hK8 _ _ _ (by omega) ⟨i + 3, acc ++ [((i : Int), (((((((l.getD i 0).toNat : Nat) : Int)) % 16) * 64 + (((((l.getD (i + 1) 0).toNat : Nat) : Int)) % 64)) * 64 + (((((l.getD (i + 2) 0).toNat : Nat) : Int)) % 64)))], v160, rfl, ⟨by rw [← hrun, hs9, List.append_assoc]; rfl, by omega, by rw [List.length_append]; simp only [List.length_cons, List.length_nil]; omega⟩, A.keep _ ⟨rfl, rfl, rfl, rfl, rfl, trivial⟩, M⟩
          ·
           have hb155' := of_decide_eq_false hb155
           refine sdo (v := .bool false) A (does_bin rfl rfl (fun w => (bin_lss w).trans (by rw [hb155]))) λa A↦?_
           iterate 2 refine sdm A λa A↦?_
           rcases tf (decide (57343 < ((((((l.getD i 0).toNat : Nat) : Int)) % 16) * 64 + (((((l.getD (i + 1) 0).toNat : Nat) : Int)) % 64)) * 64 + (((((l.getD (i + 2) 0).toNat : Nat) : Int)) % 64))) with hb162 | hb162
           ·
            have hb162' := of_decide_eq_true hb162
            refine sdo (v := .bool true) A (does_bin rfl rfl (fun w => (bin_gtr w).trans (by rw [hb162]))) λa A↦?_
            iterate 2 refine sdk (v := .bool true) A λa A↦?_
            refine sda A λa A↦?_
            refine seq_end (hK148 _ _ (wsk fun K163 hK163 => wrl (sdm A λa A↦?_)))
            refine seq_end (hK163 _ _ (wp_cond_true (A.ev rfl) ?_))
            refine wsk fun K164 hK164 => wrl ?_
            iterate 3 refine sdm A λa A↦?_
            refine sdo (v := .agg #[.int .i32 (((((((l.getD i 0).toNat : Nat) : Int)) % 16) * 64 + (((((l.getD (i + 1) 0).toNat : Nat) : Int)) % 64)) * 64 + (((((l.getD (i + 2) 0).toNat : Nat) : Int)) % 64)), .bool false, .int .i64 (((i : Nat) : Int))]) A (does_build rfl (fun w => by kernel_rfl)) λa A↦?_
            refine s_litE (e := 80) (sz := 3) (m := 1) (vs := [.int .i32 (((((((l.getD i 0).toNat : Nat) : Int)) % 16) * 64 + (((((l.getD (i + 1) 0).toNat : Nat) : Int)) % 64)) * 64 + (((((l.getD (i + 2) 0).toNat : Nat) : Int)) % 64)), .bool false, .int .i64 (((i : Nat) : Int))]) A M rfl rfl rfl (does_buildSlice rfl (by kernel_rfl)) rfl rfl (.inl (by decide)) ?_
            intro g165 w166 M a A
            refine s_appendE (e := 80) (sz := 3) (k := 2) (q := acc.length) (m := 1) (xs := (unitV acc)) (news := [.int .i32 (((((((l.getD i 0).toNat : Nat) : Int)) % 16) * 64 + (((((l.getD (i + 1) 0).toNat : Nat) : Int)) % 64)) * 64 + (((((l.getD (i + 2) 0).toNat : Nat) : Int)) % 64)), .bool false, .int .i64 (((i : Nat) : Int))]) (L' := fun v167 => (.row 80 3 (.slice (some ⟨g165, 0, none⟩) 1 1) 1 ([.int .i32 (((((((l.getD i 0).toNat : Nat) : Int)) % 16) * 64 + (((((l.getD (i + 1) 0).toNat : Nat) : Int)) % 64)) * 64 + (((((l.getD (i + 2) 0).toNat : Nat) : Int)) % 64)), .bool false, .int .i64 (((i : Nat) : Int))]) :: .row 21 1 (.slice (some ⟨g151, 0, none⟩) 5 5) 5 ([.int .i32 0, .int .i32 0, .int .i32 128, .int .i32 2048, .int .i32 65536]) :: .row 80 3 (v167) (acc.length + 1) ((unitV acc) ++ [.int .i32 (((((((l.getD i 0).toNat : Nat) : Int)) % 16) * 64 + (((((l.getD (i + 1) 0).toNat : Nat) : Int)) % 64)) * 64 + (((((l.getD (i + 2) 0).toNat : Nat) : Int)) % 64)), .bool false, .int .i64 (((i : Nat) : Int))]) :: [])) A rfl rfl rfl (m_appendE (z := .agg #[.int .i32 0, .bool false, .int .i64 0]) (sz := 3) (by_ := 16) Tryz.underlying77 (by kernel_rfl) rfl rfl rfl M 2 rfl rfl 0 rfl rfl rfl rfl (by omega)) (fun _ => rfl) ?_
            intro v167 w168 M a A
            refine sda A λa A↦?_
            refine seq_end (hK164 _ _ (wrl ?_))
            iterate 2 refine sdm A λa A↦?_
            refine sdo (v := .int .i64 (((i + 3 : Nat) : Int))) A (does_bin rfl rfl (ar_add ((in_i64 (by omega) (by omega)).trans (by omega)))) λa A↦?_
            refine sda A λa A↦?_
            refine seq_end ?_
            have hd : decodeN (l.length - i) (l.getD i 0).toNat (l.getD (i + 1) 0).toNat (l.getD (i + 2) 0).toNat (l.getD (i + 3) 0).toNat = ((((((((l.getD i 0).toNat : Nat) : Int)) % 16) * 64 + (((((l.getD (i + 1) 0).toNat : Nat) : Int)) % 64)) * 64 + (((((l.getD (i + 2) 0).toNat : Nat) : Int)) % 64)).toNat, 3) := by
             unfold Lib.decodeN
             repeat' split
             all_goals first | rfl | (exfalso; omega) | (refine Prod.ext ?_ rfl; show (_ : Nat) = _; omega)
            have hr9 : uR ((((((((l.getD i 0).toNat : Nat) : Int)) % 16) * 64 + (((((l.getD (i + 1) 0).toNat : Nat) : Int)) % 64)) * 64 + (((((l.getD (i + 2) 0).toNat : Nat) : Int)) % 64)).toNat) 3 = (((((((l.getD i 0).toNat : Nat) : Int)) % 16) * 64 + (((((l.getD (i + 1) 0).toNat : Nat) : Int)) % 64)) * 64 + (((((l.getD (i + 2) 0).toNat : Nat) : Int)) % 64)) := by unfold uR; rw [if_neg (by omega)]; omega
            have hs9 := restU_step (show i < l.length by omega) hd
            rw [hr9] at hs9
            replace M : Mg w w168 [.row 80 3 v167 (acc ++ [((i : Int), (((((((l.getD i 0).toNat : Nat) : Int)) % 16) * 64 + (((((l.getD (i + 1) 0).toNat : Nat) : Int)) % 64)) * 64 + (((((l.getD (i + 2) 0).toNat : Nat) : Int)) % 64)))]).length (unitV (acc ++ [((i : Int), (((((((l.getD i 0).toNat : Nat) : Int)) % 16) * 64 + (((((l.getD (i + 1) 0).toNat : Nat) : Int)) % 64)) * 64 + (((((l.getD (i + 2) 0).toNat : Nat) : Int)) % 64)))]))] := by
             have h9 := M.sub (.cons _ (.cons _ (.cons_cons _ (.refl _))))
             have e9 : unitV (acc ++ [((i : Int), (((((((l.getD i 0).toNat : Nat) : Int)) % 16) * 64 + (((((l.getD (i + 1) 0).toNat : Nat) : Int)) % 64)) * 64 + (((((l.getD (i + 2) 0).toNat : Nat) : Int)) % 64)))]) = unitV acc ++ [.int .i32 (((((((l.getD i 0).toNat : Nat) : Int)) % 16) * 64 + (((((l.getD (i + 1) 0).toNat : Nat) : Int)) % 64)) * 64 + (((((l.getD (i + 2) 0).toNat : Nat) : Int)) % 64)), .bool false, .int .i64 (((i : Nat) : Int))] := by
              unfold unitV
              rw [List.flatMap_append, List.flatMap_singleton]
              rw [if_neg (show ¬ _ = (-1 : Int) by simp only; omega)]
             rw [e9, List.length_append]
             exact h9
            refine hK8 _ _ _ (by omega) ⟨i + 3, acc ++ [((i : Int), (((((((l.getD i 0).toNat : Nat) : Int)) % 16) * 64 + (((((l.getD (i + 1) 0).toNat : Nat) : Int)) % 64)) * 64 + (((((l.getD (i + 2) 0).toNat : Nat) : Int)) % 64)))], v167, rfl, ⟨by rw [← hrun, hs9, List.append_assoc]; rfl, by omega, by rw [List.length_append]; simp only [List.length_cons, List.length_nil]; omega⟩, A.keep _ ⟨rfl, rfl, rfl, rfl, rfl, trivial⟩, M⟩
           ·
            have hb162' := of_decide_eq_false hb162
            refine sdo (v := .bool false) A (does_bin rfl rfl (fun w => (bin_gtr w).trans (by rw [hb162]))) λa A↦?_
            iterate 2 refine sdk (v := .bool false) A λa A↦?_
            refine sda A λa A↦?_
            refine seq_end (hK148 _ _ (wsk fun K169 hK169 => wrl (sdm A λa A↦?_)))
            refine seq_end (hK169 _ _ (wp_cond_false (A.ev rfl) ?_))
            refine wsk fun K170 hK170 => wrl ?_
            iterate 2 refine sdm A λa A↦?_
            refine sdo (v := .agg #[.int .i32 0, .bool true, .int .i64 (((i : Nat) : Int))]) A (does_build rfl (fun w => by kernel_rfl)) λa A↦?_
            refine s_litE (e := 80) (sz := 3) (m := 1) (vs := [.int .i32 0, .bool true, .int .i64 (((i : Nat) : Int))]) A M rfl rfl rfl (does_buildSlice rfl (by kernel_rfl)) rfl rfl (.inl (by decide)) ?_
            intro g171 w172 M a A
            refine s_appendE (e := 80) (sz := 3) (k := 2) (q := acc.length) (m := 1) (xs := (unitV acc)) (news := [.int .i32 0, .bool true, .int .i64 (((i : Nat) : Int))]) (L' := fun v173 => (.row 80 3 (.slice (some ⟨g171, 0, none⟩) 1 1) 1 ([.int .i32 0, .bool true, .int .i64 (((i : Nat) : Int))]) :: .row 21 1 (.slice (some ⟨g151, 0, none⟩) 5 5) 5 ([.int .i32 0, .int .i32 0, .int .i32 128, .int .i32 2048, .int .i32 65536]) :: .row 80 3 (v173) (acc.length + 1) ((unitV acc) ++ [.int .i32 0, .bool true, .int .i64 (((i : Nat) : Int))]) :: [])) A rfl rfl rfl (m_appendE (z := .agg #[.int .i32 0, .bool false, .int .i64 0]) (sz := 3) (by_ := 16) Tryz.underlying77 (by kernel_rfl) rfl rfl rfl M 2 rfl rfl 0 rfl rfl rfl rfl (by omega)) (fun _ => rfl) ?_
            intro v173 w174 M a A
            refine sda A λa A↦?_
            refine seq_end (hK170 _ _ (wrl (sdm A λa A↦?_)))
            refine sdo (v := .int .i64 (((i + 1 : Nat) : Int))) A (does_bin rfl rfl (ar_add ((in_i64 (by omega) (by omega)).trans (by omega)))) λa A↦?_
            refine sda A λa A↦?_
            refine seq_end ?_
            have hd : decodeN (l.length - i) (l.getD i 0).toNat (l.getD (i + 1) 0).toNat (l.getD (i + 2) 0).toNat (l.getD (i + 3) 0).toNat = (65533, 1) := by
             unfold Lib.decodeN
             repeat' split
             all_goals first | rfl | (exfalso; omega) | (refine Prod.ext ?_ rfl; show (_ : Nat) = _; omega)
            have hr9 : uR (65533) 1 = (-1) := by unfold uR; rw [if_pos ⟨rfl, by decide⟩]
            have hs9 := restU_step (show i < l.length by omega) hd
            rw [hr9] at hs9
            replace M : Mg w w174 [.row 80 3 v173 (acc ++ [((i : Int), (-1))]).length (unitV (acc ++ [((i : Int), (-1))]))] := by
             have h9 := M.sub (.cons _ (.cons _ (.cons_cons _ (.refl _))))
             have e9 : unitV (acc ++ [((i : Int), (-1))]) = unitV acc ++ [.int .i32 0, .bool true, .int .i64 (((i : Nat) : Int))] := by
              unfold unitV
              rw [List.flatMap_append, List.flatMap_singleton]
              rw [if_pos rfl]
             rw [e9, List.length_append]
             exact h9
            refine hK8 _ _ _ (by omega) ⟨i + 1, acc ++ [((i : Int), (-1))], v173, rfl, ⟨by rw [← hrun, hs9, List.append_assoc]; rfl, by omega, by rw [List.length_append]; simp only [List.length_cons, List.length_nil]; omega⟩, A.keep _ ⟨rfl, rfl, rfl, rfl, rfl, trivial⟩, M⟩
         ·
          have hb154' := of_decide_eq_false hb154
          refine sdo (v := .bool false) A (does_bin rfl rfl (fun w => (bin_leq w).trans (by rw [hb154]))) λa A↦?_
          refine sdk (v := .bool false) A λa A↦?_
          refine sdm A λa A↦?_
          iterate 3 refine seq_skip A rfl rfl rfl λa A↦?_
          iterate 2 refine seq_skipU A rfl rfl rfl λa A↦?_
          refine seq_skip A rfl rfl rfl λa A↦?_
          refine sdk (v := .bool false) A λa A↦?_
          refine sda A λa A↦?_
          refine seq_end (hK148 _ _ (wsk fun K175 hK175 => wrl (sdm A λa A↦?_)))
          refine seq_end (hK175 _ _ (wp_cond_false (A.ev rfl) ?_))
          refine wsk fun K176 hK176 => wrl ?_
          iterate 2 refine sdm A λa A↦?_
          refine sdo (v := .agg #[.int .i32 0, .bool true, .int .i64 (((i : Nat) : Int))]) A (does_build rfl (fun w => by kernel_rfl)) λa A↦?_
          refine s_litE (e := 80) (sz := 3) (m := 1) (vs := [.int .i32 0, .bool true, .int .i64 (((i : Nat) : Int))]) A M rfl rfl rfl (does_buildSlice rfl (by kernel_rfl)) rfl rfl (.inl (by decide)) ?_
          intro g177 w178 M a A
          refine s_appendE (e := 80) (sz := 3) (k := 2) (q := acc.length) (m := 1) (xs := (unitV acc)) (news := [.int .i32 0, .bool true, .int .i64 (((i : Nat) : Int))]) (L' := fun v179 => (.row 80 3 (.slice (some ⟨g177, 0, none⟩) 1 1) 1 ([.int .i32 0, .bool true, .int .i64 (((i : Nat) : Int))]) :: .row 21 1 (.slice (some ⟨g151, 0, none⟩) 5 5) 5 ([.int .i32 0, .int .i32 0, .int .i32 128, .int .i32 2048, .int .i32 65536]) :: .row 80 3 (v179) (acc.length + 1) ((unitV acc) ++ [.int .i32 0, .bool true, .int .i64 (((i : Nat) : Int))]) :: [])) A rfl rfl rfl (m_appendE (z := .agg #[.int .i32 0, .bool false, .int .i64 0]) (sz := 3) (by_ := 16) Tryz.underlying77 (by kernel_rfl) rfl rfl rfl M 2 rfl rfl 0 rfl rfl rfl rfl (by omega)) (fun _ => rfl) ?_
          intro v179 w180 M a A
          refine sda A λa A↦?_
          refine seq_end (hK176 _ _ (wrl (sdm A λa A↦?_)))
          refine sdo (v := .int .i64 (((i + 1 : Nat) : Int))) A (does_bin rfl rfl (ar_add ((in_i64 (by omega) (by omega)).trans (by omega)))) λa A↦?_
          refine sda A λa A↦?_
          refine seq_end ?_
          have hd : decodeN (l.length - i) (l.getD i 0).toNat (l.getD (i + 1) 0).toNat (l.getD (i + 2) 0).toNat (l.getD (i + 3) 0).toNat = (65533, 1) := by
           unfold Lib.decodeN
           repeat' split
           all_goals first | rfl | (exfalso; omega) | (refine Prod.ext ?_ rfl; show (_ : Nat) = _; omega)
          have hr9 : uR (65533) 1 = (-1) := by unfold uR; rw [if_pos ⟨rfl, by decide⟩]
          have hs9 := restU_step (show i < l.length by omega) hd
          rw [hr9] at hs9
          replace M : Mg w w180 [.row 80 3 v179 (acc ++ [((i : Int), (-1))]).length (unitV (acc ++ [((i : Int), (-1))]))] := by
           have h9 := M.sub (.cons _ (.cons _ (.cons_cons _ (.refl _))))
           have e9 : unitV (acc ++ [((i : Int), (-1))]) = unitV acc ++ [.int .i32 0, .bool true, .int .i64 (((i : Nat) : Int))] := by
            unfold unitV
            rw [List.flatMap_append, List.flatMap_singleton]
            rw [if_pos rfl]
           rw [e9, List.length_append]
           exact h9
          refine hK8 _ _ _ (by omega) ⟨i + 1, acc ++ [((i : Int), (-1))], v179, rfl, ⟨by rw [← hrun, hs9, List.append_assoc]; rfl, by omega, by rw [List.length_append]; simp only [List.length_cons, List.length_nil]; omega⟩, A.keep _ ⟨rfl, rfl, rfl, rfl, rfl, trivial⟩, M⟩
        ·
         have hb153' := of_decide_eq_false hb153
         refine sdo (v := .bool false) A (does_bin rfl rfl (fun w => (bin_geq w).trans (by rw [hb153]))) λa A↦?_
         refine sdm A λa A↦?_
         iterate 2 refine seq_skip A rfl rfl rfl λa A↦?_
         refine sdk (v := .bool false) A λa A↦?_
         refine sdm A λa A↦?_
         iterate 3 refine seq_skip A rfl rfl rfl λa A↦?_
         iterate 2 refine seq_skipU A rfl rfl rfl λa A↦?_
         refine seq_skip A rfl rfl rfl λa A↦?_
         refine sdk (v := .bool false) A λa A↦?_
         refine sda A λa A↦?_
         refine seq_end (hK148 _ _ (wsk fun K181 hK181 => wrl (sdm A λa A↦?_)))
         refine seq_end (hK181 _ _ (wp_cond_false (A.ev rfl) ?_))
         refine wsk fun K182 hK182 => wrl ?_
         iterate 2 refine sdm A λa A↦?_
         refine sdo (v := .agg #[.int .i32 0, .bool true, .int .i64 (((i : Nat) : Int))]) A (does_build rfl (fun w => by kernel_rfl)) λa A↦?_
         refine s_litE (e := 80) (sz := 3) (m := 1) (vs := [.int .i32 0, .bool true, .int .i64 (((i : Nat) : Int))]) A M rfl rfl rfl (does_buildSlice rfl (by kernel_rfl)) rfl rfl (.inl (by decide)) ?_
         intro g183 w184 M a A
         refine s_appendE (e := 80) (sz := 3) (k := 2) (q := acc.length) (m := 1) (xs := (unitV acc)) (news := [.int .i32 0, .bool true, .int .i64 (((i : Nat) : Int))]) (L' := fun v185 => (.row 80 3 (.slice (some ⟨g183, 0, none⟩) 1 1) 1 ([.int .i32 0, .bool true, .int .i64 (((i : Nat) : Int))]) :: .row 21 1 (.slice (some ⟨g151, 0, none⟩) 5 5) 5 ([.int .i32 0, .int .i32 0, .int .i32 128, .int .i32 2048, .int .i32 65536]) :: .row 80 3 (v185) (acc.length + 1) ((unitV acc) ++ [.int .i32 0, .bool true, .int .i64 (((i : Nat) : Int))]) :: [])) A rfl rfl rfl (m_appendE (z := .agg #[.int .i32 0, .bool false, .int .i64 0]) (sz := 3) (by_ := 16) Tryz.underlying77 (by kernel_rfl) rfl rfl rfl M 2 rfl rfl 0 rfl rfl rfl rfl (by omega)) (fun _ => rfl) ?_
         intro v185 w186 M a A
         refine sda A λa A↦?_
         refine seq_end (hK182 _ _ (wrl (sdm A λa A↦?_)))
         refine sdo (v := .int .i64 (((i + 1 : Nat) : Int))) A (does_bin rfl rfl (ar_add ((in_i64 (by omega) (by omega)).trans (by omega)))) λa A↦?_
         refine sda A λa A↦?_
         refine seq_end ?_
         have hd : decodeN (l.length - i) (l.getD i 0).toNat (l.getD (i + 1) 0).toNat (l.getD (i + 2) 0).toNat (l.getD (i + 3) 0).toNat = (65533, 1) := by
          unfold Lib.decodeN
          repeat' split
          all_goals first | rfl | (exfalso; omega) | (refine Prod.ext ?_ rfl; show (_ : Nat) = _; omega)
         have hr9 : uR (65533) 1 = (-1) := by unfold uR; rw [if_pos ⟨rfl, by decide⟩]
         have hs9 := restU_step (show i < l.length by omega) hd
         rw [hr9] at hs9
         replace M : Mg w w186 [.row 80 3 v185 (acc ++ [((i : Int), (-1))]).length (unitV (acc ++ [((i : Int), (-1))]))] := by
          have h9 := M.sub (.cons _ (.cons _ (.cons_cons _ (.refl _))))
          have e9 : unitV (acc ++ [((i : Int), (-1))]) = unitV acc ++ [.int .i32 0, .bool true, .int .i64 (((i : Nat) : Int))] := by
           unfold unitV
           rw [List.flatMap_append, List.flatMap_singleton]
           rw [if_pos rfl]
          rw [e9, List.length_append]
          exact h9
         refine hK8 _ _ _ (by omega) ⟨i + 1, acc ++ [((i : Int), (-1))], v185, rfl, ⟨by rw [← hrun, hs9, List.append_assoc]; rfl, by omega, by rw [List.length_append]; simp only [List.length_cons, List.length_nil]; omega⟩, A.keep _ ⟨rfl, rfl, rfl, rfl, rfl, trivial⟩, M⟩
       ·
        have hb144' := ne_of_beq_false hb144
        refine sdo (v := .bool false) A (does_bin rfl rfl (fun w => (bin_eql w).trans (by rw [hb144]))) λa A↦?_
        refine sda A λa A↦?_
        refine seq_end (hK143 _ _ (wrl (sdm A λa A↦?_)))
        refine sdo (v := .int .i32 (((((((l.getD i 0).toNat : Nat) : Int)) % 16) * 64 + (((((l.getD (i + 1) 0).toNat : Nat) : Int)) % 64)) * 64)) A (does_bin rfl rfl (ar_shl (n := 6) rfl rfl (in_i32 (by omega) (by omega)))) λa A↦?_
        refine sdm A λa A↦?_
        refine sdo (v := .int .u8 (((((l.getD (i + 2) 0).toNat : Nat) : Int)) % 64)) A (does_bin rfl rfl (ar_and (and_u8 6 63 rfl (by decide) (by omega) (by omega)))) λa A↦?_
        refine sdo (v := .int .i32 (((((l.getD (i + 2) 0).toNat : Nat) : Int)) % 64)) A (does_convert rfl (ar_conv Tryz.underlying5 Tryz.underlying21 (in_i32 (by omega) (by omega)))) λa A↦?_
        refine sdo (v := .int .i32 (((((((l.getD i 0).toNat : Nat) : Int)) % 16) * 64 + (((((l.getD (i + 1) 0).toNat : Nat) : Int)) % 64)) * 64 + (((((l.getD (i + 2) 0).toNat : Nat) : Int)) % 64))) A (does_bin rfl rfl (ar_or (or_six (by omega) (by omega) (by omega) (by omega)))) λa A↦?_
        refine sda A λa A↦?_
        refine seq_end (hK141 _ _ (wrl (sdm A λa A↦?_)))
        refine sdo (v := .int .i64 3) A (does_bin rfl rfl (fun w => by kernel_rfl)) λa A↦?_
        refine sda A λa A↦?_
        refine seq_end (hK138 _ _ (rounds_k ?_))
        intro K187 hK187
        refine wsk fun K188 hK188 => wsk fun K189 hK189 => wrl ?_
        iterate 2 refine sdm A λa A↦?_
        iterate 3 refine seq_skip A rfl rfl rfl λa A↦?_
        refine sdk (v := .bool false) A λa A↦?_
        refine seq_end (hK189 _ _ (wp_cond_false (A.ev rfl) ?_))
        refine wp_exit (hK129 _ _ (wsk fun K190 hK190 => wsk fun K191 hK191 => wrl ?_))
        iterate 2 refine sdm A λa A↦?_
        iterate 2 refine seq_skip A rfl rfl rfl λa A↦?_
        refine sdk (v := .bool false) A λa A↦?_
        refine seq_end (hK191 _ _ (wp_cond_false (A.ev rfl) ?_))
        refine wp_skip (hK190 _ _ (wsk fun K192 hK192 => wrl (sdm A λa A↦?_)))
        refine seq_end (hK192 _ _ (wp_cond_false (A.ev rfl) ?_))
        refine wsk fun K193 hK193 => wrl ?_
        iterate 2 refine sdm A λa A↦?_
        refine sdo (v := .agg #[.int .i32 0, .bool true, .int .i64 (((i : Nat) : Int))]) A (does_build rfl (fun w => by kernel_rfl)) λa A↦?_
        refine s_litE (e := 80) (sz := 3) (m := 1) (vs := [.int .i32 0, .bool true, .int .i64 (((i : Nat) : Int))]) A M rfl rfl rfl (does_buildSlice rfl (by kernel_rfl)) rfl rfl (.inl (by decide)) ?_
        intro g194 w195 M a A
        refine s_appendE (e := 80) (sz := 3) (k := 1) (q := acc.length) (m := 1) (xs := (unitV acc)) (news := [.int .i32 0, .bool true, .int .i64 (((i : Nat) : Int))]) (L' := fun v196 => (.row 80 3 (.slice (some ⟨g194, 0, none⟩) 1 1) 1 ([.int .i32 0, .bool true, .int .i64 (((i : Nat) : Int))]) :: .row 80 3 (v196) (acc.length + 1) ((unitV acc) ++ [.int .i32 0, .bool true, .int .i64 (((i : Nat) : Int))]) :: [])) A rfl rfl rfl (m_appendE (z := .agg #[.int .i32 0, .bool false, .int .i64 0]) (sz := 3) (by_ := 16) Tryz.underlying77 (by kernel_rfl) rfl rfl rfl M 1 rfl rfl 0 rfl rfl rfl rfl (by omega)) (fun _ => rfl) ?_
        intro v196 w197 M a A
        refine sda A λa A↦?_
        refine seq_end (hK193 _ _ (wrl (sdm A λa A↦?_)))
        refine sdo (v := .int .i64 (((i + 1 : Nat) : Int))) A (does_bin rfl rfl (ar_add ((in_i64 (by omega) (by omega)).trans (by omega)))) λa A↦?_
        refine sda A λa A↦?_
        refine seq_end ?_
        have hd : decodeN (l.length - i) (l.getD i 0).toNat (l.getD (i + 1) 0).toNat (l.getD (i + 2) 0).toNat (l.getD (i + 3) 0).toNat = (65533, 1) := by
         unfold Lib.decodeN
         repeat' split
         all_goals first | rfl | (exfalso; omega) | (refine Prod.ext ?_ rfl; show (_ : Nat) = _; omega)
        have hr9 : uR (65533) 1 = (-1) := by unfold uR; rw [if_pos ⟨rfl, by decide⟩]
        have hs9 := restU_step (show i < l.length by omega) hd
        rw [hr9] at hs9
        replace M : Mg w w197 [.row 80 3 v196 (acc ++ [((i : Int), (-1))]).length (unitV (acc ++ [((i : Int), (-1))]))] := by
         have h9 := M.sub (.cons _ (.cons_cons _ (.refl _)))
         have e9 : unitV (acc ++ [((i : Int), (-1))]) = unitV acc ++ [.int .i32 0, .bool true, .int .i64 (((i : Nat) : Int))] := by
          unfold unitV
          rw [List.flatMap_append, List.flatMap_singleton]
          rw [if_pos rfl]
         rw [e9, List.length_append]
         exact h9
        refine hK8 _ _ _ (by omega) ⟨i + 1, acc ++ [((i : Int), (-1))], v196, rfl, ⟨by rw [← hrun, hs9, List.append_assoc]; rfl, by omega, by rw [List.length_append]; simp only [List.length_cons, List.length_nil]; omega⟩, A.keep _ ⟨rfl, rfl, rfl, rfl, rfl, trivial⟩, M⟩
      ·
       have hb137' := ne_of_beq_false hb137
       refine sdo (v := .bool false) A (does_bin rfl rfl (fun w => (bin_eql w).trans (by rw [hb137]))) λa A↦?_
       refine sda A λa A↦?_
       refine seq_end (hK136 _ _ (wrl (sdm A λa A↦?_)))
       refine sdo (v := .int .i32 ((((((l.getD i 0).toNat : Nat) : Int)) % 16) * 64)) A (does_bin rfl rfl (ar_shl (n := 6) rfl rfl (in_i32 (by omega) (by omega)))) λa A↦?_
       refine sdm A λa A↦?_
       refine sdo (v := .int .u8 (((((l.getD (i + 1) 0).toNat : Nat) : Int)) % 64)) A (does_bin rfl rfl (ar_and (and_u8 6 63 rfl (by decide) (by omega) (by omega)))) λa A↦?_
       refine sdo (v := .int .i32 (((((l.getD (i + 1) 0).toNat : Nat) : Int)) % 64)) A (does_convert rfl (ar_conv Tryz.underlying5 Tryz.underlying21 (in_i32 (by omega) (by omega)))) λa A↦?_
       refine sdo (v := .int .i32 ((((((l.getD i 0).toNat : Nat) : Int)) % 16) * 64 + (((((l.getD (i + 1) 0).toNat : Nat) : Int)) % 64))) A (does_bin rfl rfl (ar_or (or_six (by omega) (by omega) (by omega) (by omega)))) λa A↦?_
       refine sda A λa A↦?_
       refine seq_end (hK134 _ _ (wrl (sdm A λa A↦?_)))
       refine sdo (v := .int .i64 2) A (does_bin rfl rfl (fun w => by kernel_rfl)) λa A↦?_
       refine sda A λa A↦?_
       refine seq_end (hK131 _ _ (rounds_k ?_))
       intro K198 hK198
       refine wsk fun K199 hK199 => wsk fun K200 hK200 => wrl ?_
       iterate 2 refine sdm A λa A↦?_
       iterate 3 refine seq_skip A rfl rfl rfl λa A↦?_
       refine sdk (v := .bool false) A λa A↦?_
       refine seq_end (hK200 _ _ (wp_cond_false (A.ev rfl) ?_))
       refine wp_exit (hK129 _ _ (wsk fun K201 hK201 => wsk fun K202 hK202 => wrl ?_))
       iterate 2 refine sdm A λa A↦?_
       iterate 2 refine seq_skip A rfl rfl rfl λa A↦?_
       refine sdk (v := .bool false) A λa A↦?_
       refine seq_end (hK202 _ _ (wp_cond_false (A.ev rfl) ?_))
       refine wp_skip (hK201 _ _ (wsk fun K203 hK203 => wrl (sdm A λa A↦?_)))
       refine seq_end (hK203 _ _ (wp_cond_false (A.ev rfl) ?_))
       refine wsk fun K204 hK204 => wrl ?_
       iterate 2 refine sdm A λa A↦?_
       refine sdo (v := .agg #[.int .i32 0, .bool true, .int .i64 (((i : Nat) : Int))]) A (does_build rfl (fun w => by kernel_rfl)) λa A↦?_
       refine s_litE (e := 80) (sz := 3) (m := 1) (vs := [.int .i32 0, .bool true, .int .i64 (((i : Nat) : Int))]) A M rfl rfl rfl (does_buildSlice rfl (by kernel_rfl)) rfl rfl (.inl (by decide)) ?_
       intro g205 w206 M a A
       refine s_appendE (e := 80) (sz := 3) (k := 1) (q := acc.length) (m := 1) (xs := (unitV acc)) (news := [.int .i32 0, .bool true, .int .i64 (((i : Nat) : Int))]) (L' := fun v207 => (.row 80 3 (.slice (some ⟨g205, 0, none⟩) 1 1) 1 ([.int .i32 0, .bool true, .int .i64 (((i : Nat) : Int))]) :: .row 80 3 (v207) (acc.length + 1) ((unitV acc) ++ [.int .i32 0, .bool true, .int .i64 (((i : Nat) : Int))]) :: [])) A rfl rfl rfl (m_appendE (z := .agg #[.int .i32 0, .bool false, .int .i64 0]) (sz := 3) (by_ := 16) Tryz.underlying77 (by kernel_rfl) rfl rfl rfl M 1 rfl rfl 0 rfl rfl rfl rfl (by omega)) (fun _ => rfl) ?_
       intro v207 w208 M a A
       refine sda A λa A↦?_
       refine seq_end (hK204 _ _ (wrl (sdm A λa A↦?_)))
       refine sdo (v := .int .i64 (((i + 1 : Nat) : Int))) A (does_bin rfl rfl (ar_add ((in_i64 (by omega) (by omega)).trans (by omega)))) λa A↦?_
       refine sda A λa A↦?_
       refine seq_end ?_
       have hd : decodeN (l.length - i) (l.getD i 0).toNat (l.getD (i + 1) 0).toNat (l.getD (i + 2) 0).toNat (l.getD (i + 3) 0).toNat = (65533, 1) := by
        unfold Lib.decodeN
        repeat' split
        all_goals first | rfl | (exfalso; omega) | (refine Prod.ext ?_ rfl; show (_ : Nat) = _; omega)
       have hr9 : uR (65533) 1 = (-1) := by unfold uR; rw [if_pos ⟨rfl, by decide⟩]
       have hs9 := restU_step (show i < l.length by omega) hd
       rw [hr9] at hs9
       replace M : Mg w w208 [.row 80 3 v207 (acc ++ [((i : Int), (-1))]).length (unitV (acc ++ [((i : Int), (-1))]))] := by
        have h9 := M.sub (.cons _ (.cons_cons _ (.refl _)))
        have e9 : unitV (acc ++ [((i : Int), (-1))]) = unitV acc ++ [.int .i32 0, .bool true, .int .i64 (((i : Nat) : Int))] := by
         unfold unitV
         rw [List.flatMap_append, List.flatMap_singleton]
         rw [if_pos rfl]
        rw [e9, List.length_append]
        exact h9
       refine hK8 _ _ _ (by omega) ⟨i + 1, acc ++ [((i : Int), (-1))], v207, rfl, ⟨by rw [← hrun, hs9, List.append_assoc]; rfl, by omega, by rw [List.length_append]; simp only [List.length_cons, List.length_nil]; omega⟩, A.keep _ ⟨rfl, rfl, rfl, rfl, rfl, trivial⟩, M⟩
     ·
      have hb128' := of_decide_eq_false hb128
      refine sdo (v := .bool false) A (does_bin rfl rfl (fun w => (bin_leq w).trans (by rw [hb128]))) λa A↦?_
      refine sdk (v := .bool false) A λa A↦?_
      refine sda A λa A↦?_
      refine seq_end (hK127 _ _ (wsk fun K209 hK209 => wsk fun K210 hK210 => wrl (sda A λa A↦?_)))
      refine seq_end (hK210 _ _ (wp_block (wp_loop_rounds 5 ?_)))
      refine rounds_k ?_
      intro K211 hK211
      refine wsk fun K212 hK212 => wsk fun K213 hK213 => wrl ?_
      iterate 2 refine sdm A λa A↦?_
      iterate 3 refine seq_skip A rfl rfl rfl λa A↦?_
      refine sdk (v := .bool false) A λa A↦?_
      refine seq_end (hK213 _ _ (wp_cond_false (A.ev rfl) ?_))
      refine wp_exit (hK209 _ _ (wsk fun K214 hK214 => wsk fun K215 hK215 => wrl ?_))
      iterate 2 refine sdm A λa A↦?_
      iterate 2 refine seq_skip A rfl rfl rfl λa A↦?_
      refine sdk (v := .bool false) A λa A↦?_
      refine seq_end (hK215 _ _ (wp_cond_false (A.ev rfl) ?_))
      refine wp_skip (hK214 _ _ (wsk fun K216 hK216 => wrl (sdm A λa A↦?_)))
      refine seq_end (hK216 _ _ (wp_cond_false (A.ev rfl) ?_))
      refine wsk fun K217 hK217 => wrl ?_
      iterate 2 refine sdm A λa A↦?_
      refine sdo (v := .agg #[.int .i32 0, .bool true, .int .i64 (((i : Nat) : Int))]) A (does_build rfl (fun w => by kernel_rfl)) λa A↦?_
      refine s_litE (e := 80) (sz := 3) (m := 1) (vs := [.int .i32 0, .bool true, .int .i64 (((i : Nat) : Int))]) A M rfl rfl rfl (does_buildSlice rfl (by kernel_rfl)) rfl rfl (.inl (by decide)) ?_
      intro g218 w219 M a A
      refine s_appendE (e := 80) (sz := 3) (k := 1) (q := acc.length) (m := 1) (xs := (unitV acc)) (news := [.int .i32 0, .bool true, .int .i64 (((i : Nat) : Int))]) (L' := fun v220 => (.row 80 3 (.slice (some ⟨g218, 0, none⟩) 1 1) 1 ([.int .i32 0, .bool true, .int .i64 (((i : Nat) : Int))]) :: .row 80 3 (v220) (acc.length + 1) ((unitV acc) ++ [.int .i32 0, .bool true, .int .i64 (((i : Nat) : Int))]) :: [])) A rfl rfl rfl (m_appendE (z := .agg #[.int .i32 0, .bool false, .int .i64 0]) (sz := 3) (by_ := 16) Tryz.underlying77 (by kernel_rfl) rfl rfl rfl M 1 rfl rfl 0 rfl rfl rfl rfl (by omega)) (fun _ => rfl) ?_
      intro v220 w221 M a A
      refine sda A λa A↦?_
      refine seq_end (hK217 _ _ (wrl (sdm A λa A↦?_)))
      refine sdo (v := .int .i64 (((i + 1 : Nat) : Int))) A (does_bin rfl rfl (ar_add ((in_i64 (by omega) (by omega)).trans (by omega)))) λa A↦?_
      refine sda A λa A↦?_
      refine seq_end ?_
      have hd : decodeN (l.length - i) (l.getD i 0).toNat (l.getD (i + 1) 0).toNat (l.getD (i + 2) 0).toNat (l.getD (i + 3) 0).toNat = (65533, 1) := by
       unfold Lib.decodeN
       repeat' split
       all_goals first | rfl | (exfalso; omega) | (refine Prod.ext ?_ rfl; show (_ : Nat) = _; omega)
      have hr9 : uR (65533) 1 = (-1) := by unfold uR; rw [if_pos ⟨rfl, by decide⟩]
      have hs9 := restU_step (show i < l.length by omega) hd
      rw [hr9] at hs9
      replace M : Mg w w221 [.row 80 3 v220 (acc ++ [((i : Int), (-1))]).length (unitV (acc ++ [((i : Int), (-1))]))] := by
       have h9 := M.sub (.cons _ (.cons_cons _ (.refl _)))
       have e9 : unitV (acc ++ [((i : Int), (-1))]) = unitV acc ++ [.int .i32 0, .bool true, .int .i64 (((i : Nat) : Int))] := by
        unfold unitV
        rw [List.flatMap_append, List.flatMap_singleton]
        rw [if_pos rfl]
       rw [e9, List.length_append]
       exact h9
      refine hK8 _ _ _ (by omega) ⟨i + 1, acc ++ [((i : Int), (-1))], v220, rfl, ⟨by rw [← hrun, hs9, List.append_assoc]; rfl, by omega, by rw [List.length_append]; simp only [List.length_cons, List.length_nil]; omega⟩, A.keep _ ⟨rfl, rfl, rfl, rfl, rfl, trivial⟩, M⟩
    ·
     have hb126' := ne_of_beq_false hb126
     refine sdo (v := .bool false) A (does_bin rfl rfl (fun w => (bin_eql w).trans (by rw [hb126]))) λa A↦?_
     refine sda A λa A↦?_
     refine seq_end (hK125 _ _ (wp_cond_false (A.ev rfl) ?_))
     refine wsk fun K222 hK222 => wrl (sdm A λa A↦?_)
     refine sdo (v := .int .u8 (((((l.getD i 0).toNat : Nat) : Int)) / 8)) A (does_bin rfl rfl (ar_shr (n := 3) rfl rfl rfl)) λa A↦?_
     rcases tf ((((((l.getD i 0).toNat : Nat) : Int)) / 8 == 30)) with hb223 | hb223
     ·
      have hb223' := eq_of_beq hb223
      refine sdo (v := .bool true) A (does_bin rfl rfl (fun w => (bin_eql w).trans (by rw [hb223]))) λa A↦?_
      refine sda A λa A↦?_
      refine seq_end (hK222 _ _ (wp_cond_true (A.ev rfl) ?_))
      refine wrl (sdm A λa A↦?_)
      refine sdo (v := .int .u8 (((((l.getD i 0).toNat : Nat) : Int)) % 8)) A (does_bin rfl rfl (ar_and (and_u8 3 7 rfl (by decide) (by omega) (by omega)))) λa A↦?_
      refine sdo (v := .int .i32 (((((l.getD i 0).toNat : Nat) : Int)) % 8)) A (does_convert rfl (ar_conv Tryz.underlying5 Tryz.underlying21 (in_i32 (by omega) (by omega)))) λa A↦?_
      iterate 2 refine sda A λa A↦?_
      refine seq_end (hK15 _ _ (wsk fun K224 hK224 => wrl (sdm A λa A↦?_)))
      refine sdo (v := .bool true) A (does_bin rfl rfl (fun w => by kernel_rfl)) λa A↦?_
      iterate 3 refine sdm A λa A↦?_
      refine sdo (v := .int .i64 (((i + 4 : Nat) : Int))) A (does_bin rfl rfl (ar_add ((in_i64 (by omega) (by omega)).trans (by omega)))) λa A↦?_
      refine sdm A λa A↦?_
      refine sdo A (does_len Tryz.underlying27 rfl) λa A↦?_
      rcases tf (decide (((i + 4 : Nat) : Int) ≤ ((l.length : Nat) : Int))) with hb225 | hb225
      ·
       have hb225' := of_decide_eq_true hb225
       refine sdo (v := .bool true) A (does_bin rfl rfl (fun w => (bin_leq w).trans (by rw [hb225]))) λa A↦?_
       refine sdk (v := .bool true) A λa A↦?_
       refine sda A λa A↦?_
       refine seq_end (hK224 _ _ (wsk fun K226 hK226 => wsk fun K227 hK227 => wrl (sda A λa A↦?_)))
       refine seq_end (hK227 _ _ (wp_block (wp_loop_rounds 5 ?_)))
       refine rounds_k ?_
       intro K228 hK228
       refine wsk fun K229 hK229 => wsk fun K230 hK230 => wrl ?_
       iterate 4 refine sdm A λa A↦?_
       refine sdo (v := .bool true) A (does_bin rfl rfl (fun w => by kernel_rfl)) λa A↦?_
       refine sdk (v := .bool true) A λa A↦?_
       refine seq_end (hK230 _ _ (wp_cond_true (A.ev rfl) ?_))
       refine wp_skip (hK229 _ _ (wsk fun K231 hK231 => wp_block (wsk fun K232 hK232 => wrl ?_)))
       iterate 3 refine sdm A λa A↦?_
       refine sdo (v := .int .i64 (((i + 1 : Nat) : Int))) A (does_bin rfl rfl (ar_add ((in_i64 (by omega) (by omega)).trans (by omega)))) λa A↦?_
       refine sdo (v := .pointer (some ⟨bx, ox + (i + 1), none⟩)) A (does_indexRow Tryz.underlying27 (by kernel_rfl) rfl rfl rfl hx1 (show i + 1 < l.length by omega)) λa A↦?_
       refine sdo (v := .int .u8 ((((l.getD (i + 1) 0).toNat : Nat) : Int))) A (m_loadR M hx2 (hx3 (i + 1) (by omega)) TrU_is1_5 rfl) λa A↦?_
       have hu1 := (l.getD (i + 1) 0).toNat_lt
       refine sda A λa A↦?_
       refine seq_end (hK232 _ _ (wsk fun K233 hK233 => wrl (sdm A λa A↦?_)))
       refine sdo (v := .int .u8 (((((l.getD (i + 1) 0).toNat : Nat) : Int)) / 64)) A (does_bin rfl rfl (ar_shr (n := 6) rfl rfl rfl)) λa A↦?_
       rcases tf ((((((l.getD (i + 1) 0).toNat : Nat) : Int)) / 64 == 2)) with hb234 | hb234
       ·
        have hb234' := eq_of_beq hb234
        refine sdo (v := .bool true) A (does_bin rfl rfl (fun w => (bin_eql w).trans (by rw [hb234]))) λa A↦?_
        refine sda A λa A↦?_
        refine seq_end (hK233 _ _ (wrl (sdm A λa A↦?_)))
        refine sdo (v := .int .i32 ((((((l.getD i 0).toNat : Nat) : Int)) % 8) * 64)) A (does_bin rfl rfl (ar_shl (n := 6) rfl rfl (in_i32 (by omega) (by omega)))) λa A↦?_
        refine sdm A λa A↦?_
        refine sdo (v := .int .u8 (((((l.getD (i + 1) 0).toNat : Nat) : Int)) % 64)) A (does_bin rfl rfl (ar_and (and_u8 6 63 rfl (by decide) (by omega) (by omega)))) λa A↦?_
        refine sdo (v := .int .i32 (((((l.getD (i + 1) 0).toNat : Nat) : Int)) % 64)) A (does_convert rfl (ar_conv Tryz.underlying5 Tryz.underlying21 (in_i32 (by omega) (by omega)))) λa A↦?_
        refine sdo (v := .int .i32 ((((((l.getD i 0).toNat : Nat) : Int)) % 8) * 64 + (((((l.getD (i + 1) 0).toNat : Nat) : Int)) % 64))) A (does_bin rfl rfl (ar_or (or_six (by omega) (by omega) (by omega) (by omega)))) λa A↦?_
        refine sda A λa A↦?_
        refine seq_end (hK231 _ _ (wrl (sdm A λa A↦?_)))
        refine sdo (v := .int .i64 2) A (does_bin rfl rfl (fun w => by kernel_rfl)) λa A↦?_
        refine sda A λa A↦?_
        refine seq_end (hK228 _ _ (rounds_k ?_))
        intro K235 hK235
        refine wsk fun K236 hK236 => wsk fun K237 hK237 => wrl ?_
        iterate 4 refine sdm A λa A↦?_
        refine sdo (v := .bool true) A (does_bin rfl rfl (fun w => by kernel_rfl)) λa A↦?_
        refine sdk (v := .bool true) A λa A↦?_
        refine seq_end (hK237 _ _ (wp_cond_true (A.ev rfl) ?_))
        refine wp_skip (hK236 _ _ (wsk fun K238 hK238 => wp_block (wsk fun K239 hK239 => wrl ?_)))
        iterate 3 refine sdm A λa A↦?_
        refine sdo (v := .int .i64 (((i + 2 : Nat) : Int))) A (does_bin rfl rfl (ar_add ((in_i64 (by omega) (by omega)).trans (by omega)))) λa A↦?_
        refine sdo (v := .pointer (some ⟨bx, ox + (i + 2), none⟩)) A (does_indexRow Tryz.underlying27 (by kernel_rfl) rfl rfl rfl hx1 (show i + 2 < l.length by omega)) λa A↦?_
        refine sdo (v := .int .u8 ((((l.getD (i + 2) 0).toNat : Nat) : Int))) A (m_loadR M hx2 (hx3 (i + 2) (by omega)) TrU_is1_5 rfl) λa A↦?_
        have hu2 := (l.getD (i + 2) 0).toNat_lt
        refine sda A λa A↦?_
        refine seq_end (hK239 _ _ (wsk fun K240 hK240 => wrl (sdm A λa A↦?_)))
        refine sdo (v := .int .u8 (((((l.getD (i + 2) 0).toNat : Nat) : Int)) / 64)) A (does_bin rfl rfl (ar_shr (n := 6) rfl rfl rfl)) λa A↦?_
        rcases tf ((((((l.getD (i + 2) 0).toNat : Nat) : Int)) / 64 == 2)) with hb241 | hb241
        ·
         have hb241' := eq_of_beq hb241
         refine sdo (v := .bool true) A (does_bin rfl rfl (fun w => (bin_eql w).trans (by rw [hb241]))) λa A↦?_
         refine sda A λa A↦?_
         refine seq_end (hK240 _ _ (wrl (sdm A λa A↦?_)))
         refine sdo (v := .int .i32 (((((((l.getD i 0).toNat : Nat) : Int)) % 8) * 64 + (((((l.getD (i + 1) 0).toNat : Nat) : Int)) % 64)) * 64)) A (does_bin rfl rfl (ar_shl (n := 6) rfl rfl (in_i32 (by omega) (by omega)))) λa A↦?_
         refine sdm A λa A↦?_
         refine sdo (v := .int .u8 (((((l.getD (i + 2) 0).toNat : Nat) : Int)) % 64)) A (does_bin rfl rfl (ar_and (and_u8 6 63 rfl (by decide) (by omega) (by omega)))) λa A↦?_
         refine sdo (v := .int .i32 (((((l.getD (i + 2) 0).toNat : Nat) : Int)) % 64)) A (does_convert rfl (ar_conv Tryz.underlying5 Tryz.underlying21 (in_i32 (by omega) (by omega)))) λa A↦?_
         refine sdo (v := .int .i32 (((((((l.getD i 0).toNat : Nat) : Int)) % 8) * 64 + (((((l.getD (i + 1) 0).toNat : Nat) : Int)) % 64)) * 64 + (((((l.getD (i + 2) 0).toNat : Nat) : Int)) % 64))) A (does_bin rfl rfl (ar_or (or_six (by omega) (by omega) (by omega) (by omega)))) λa A↦?_
         refine sda A λa A↦?_
         refine seq_end (hK238 _ _ (wrl (sdm A λa A↦?_)))
         refine sdo (v := .int .i64 3) A (does_bin rfl rfl (fun w => by kernel_rfl)) λa A↦?_
         refine sda A λa A↦?_
         refine seq_end (hK235 _ _ (rounds_k ?_))
         intro K242 hK242
         refine wsk fun K243 hK243 => wsk fun K244 hK244 => wrl ?_
         iterate 4 refine sdm A λa A↦?_
         refine sdo (v := .bool true) A (does_bin rfl rfl (fun w => by kernel_rfl)) λa A↦?_
         refine sdk (v := .bool true) A λa A↦?_
         refine seq_end (hK244 _ _ (wp_cond_true (A.ev rfl) ?_))
         refine wp_skip (hK243 _ _ (wsk fun K245 hK245 => wp_block (wsk fun K246 hK246 => wrl ?_)))
         iterate 3 refine sdm A λa A↦?_
         refine sdo (v := .int .i64 (((i + 3 : Nat) : Int))) A (does_bin rfl rfl (ar_add ((in_i64 (by omega) (by omega)).trans (by omega)))) λa A↦?_
         refine sdo (v := .pointer (some ⟨bx, ox + (i + 3), none⟩)) A (does_indexRow Tryz.underlying27 (by kernel_rfl) rfl rfl rfl hx1 (show i + 3 < l.length by omega)) λa A↦?_
         refine sdo (v := .int .u8 ((((l.getD (i + 3) 0).toNat : Nat) : Int))) A (m_loadR M hx2 (hx3 (i + 3) (by omega)) TrU_is1_5 rfl) λa A↦?_
         have hu3 := (l.getD (i + 3) 0).toNat_lt
         refine sda A λa A↦?_
         refine seq_end (hK246 _ _ (wsk fun K247 hK247 => wrl (sdm A λa A↦?_)))
         refine sdo (v := .int .u8 (((((l.getD (i + 3) 0).toNat : Nat) : Int)) / 64)) A (does_bin rfl rfl (ar_shr (n := 6) rfl rfl rfl)) λa A↦?_
         rcases tf ((((((l.getD (i + 3) 0).toNat : Nat) : Int)) / 64 == 2)) with hb248 | hb248
         ·
          have hb248' := eq_of_beq hb248
          refine sdo (v := .bool true) A (does_bin rfl rfl (fun w => (bin_eql w).trans (by rw [hb248]))) λa A↦?_
          refine sda A λa A↦?_
          refine seq_end (hK247 _ _ (wrl (sdm A λa A↦?_)))
          refine sdo (v := .int .i32 ((((((((l.getD i 0).toNat : Nat) : Int)) % 8) * 64 + (((((l.getD (i + 1) 0).toNat : Nat) : Int)) % 64)) * 64 + (((((l.getD (i + 2) 0).toNat : Nat) : Int)) % 64)) * 64)) A (does_bin rfl rfl (ar_shl (n := 6) rfl rfl (in_i32 (by omega) (by omega)))) λa A↦?_
          refine sdm A λa A↦?_
          refine sdo (v := .int .u8 (((((l.getD (i + 3) 0).toNat : Nat) : Int)) % 64)) A (does_bin rfl rfl (ar_and (and_u8 6 63 rfl (by decide) (by omega) (by omega)))) λa A↦?_
          refine sdo (v := .int .i32 (((((l.getD (i + 3) 0).toNat : Nat) : Int)) % 64)) A (does_convert rfl (ar_conv Tryz.underlying5 Tryz.underlying21 (in_i32 (by omega) (by omega)))) λa A↦?_
          refine sdo (v := .int .i32 ((((((((l.getD i 0).toNat : Nat) : Int)) % 8) * 64 + (((((l.getD (i + 1) 0).toNat : Nat) : Int)) % 64)) * 64 + (((((l.getD (i + 2) 0).toNat : Nat) : Int)) % 64)) * 64 + (((((l.getD (i + 3) 0).toNat : Nat) : Int)) % 64))) A (does_bin rfl rfl (ar_or (or_six (by omega) (by omega) (by omega) (by omega)))) λa A↦?_
          refine sda A λa A↦?_
          refine seq_end (hK245 _ _ (wrl (sdm A λa A↦?_)))
          refine sdo (v := .int .i64 4) A (does_bin rfl rfl (fun w => by kernel_rfl)) λa A↦?_
          refine sda A λa A↦?_
          refine seq_end (hK242 _ _ (rounds_k ?_))
          intro K249 hK249
          refine wsk fun K250 hK250 => wsk fun K251 hK251 => wrl ?_
          iterate 4 refine sdm A λa A↦?_
          refine sdo (v := .bool false) A (does_bin rfl rfl (fun w => by kernel_rfl)) λa A↦?_
          refine sdk (v := .bool false) A λa A↦?_
          refine seq_end (hK251 _ _ (wp_cond_false (A.ev rfl) ?_))
          refine wp_exit (hK226 _ _ (wsk fun K252 hK252 => wsk fun K253 hK253 => wrl ?_))
          iterate 3 refine sdm A λa A↦?_
          refine sdo (v := .bool true) A (does_bin rfl rfl (fun w => by kernel_rfl)) λa A↦?_
          refine sdk (v := .bool true) A λa A↦?_
          refine seq_end (hK253 _ _ (wp_cond_true (A.ev rfl) ?_))
          refine wsk fun K254 hK254 => wrl (s_litE (e := 21) (sz := 1) (m := 5) (vs := [.int .i32 0, .int .i32 0, .int .i32 128, .int .i32 2048, .int .i32 65536]) A M rfl rfl rfl (does_buildSlice rfl (by kernel_rfl)) rfl rfl (.inl (by decide)) ?_)
          intro g255 w256 M a A
          refine sda A λa A↦?_
          refine seq_end (hK254 _ _ (wrl ?_))
          iterate 3 refine sdm A λa A↦?_
          refine sdo (v := .pointer (some ⟨g255, 4, none⟩)) A (does_indexI rfl rfl (fun w => by kernel_rfl)) λa A↦?_
          refine sdo (v := .int .i32 65536) A (m_loadE M 0 rfl rfl TrU_is1_21 rfl) λa A↦?_
          rcases tf (decide (65536 ≤ (((((((l.getD i 0).toNat : Nat) : Int)) % 8) * 64 + (((((l.getD (i + 1) 0).toNat : Nat) : Int)) % 64)) * 64 + (((((l.getD (i + 2) 0).toNat : Nat) : Int)) % 64)) * 64 + (((((l.getD (i + 3) 0).toNat : Nat) : Int)) % 64))) with hb257 | hb257
          ·
           have hb257' := of_decide_eq_true hb257
           refine sdo (v := .bool true) A (does_bin rfl rfl (fun w => (bin_geq w).trans (by rw [hb257]))) λa A↦?_
           iterate 2 refine sdm A λa A↦?_
           rcases tf (decide ((((((((l.getD i 0).toNat : Nat) : Int)) % 8) * 64 + (((((l.getD (i + 1) 0).toNat : Nat) : Int)) % 64)) * 64 + (((((l.getD (i + 2) 0).toNat : Nat) : Int)) % 64)) * 64 + (((((l.getD (i + 3) 0).toNat : Nat) : Int)) % 64) ≤ 1114111)) with hb258 | hb258
           ·
            have hb258' := of_decide_eq_true hb258
            refine sdo (v := .bool true) A (does_bin rfl rfl (fun w => (bin_leq w).trans (by rw [hb258]))) λa A↦?_
            refine sdk (v := .bool true) A λa A↦?_
            iterate 2 refine sdm A λa A↦?_
            rcases tf (decide ((((((((l.getD i 0).toNat : Nat) : Int)) % 8) * 64 + (((((l.getD (i + 1) 0).toNat : Nat) : Int)) % 64)) * 64 + (((((l.getD (i + 2) 0).toNat : Nat) : Int)) % 64)) * 64 + (((((l.getD (i + 3) 0).toNat : Nat) : Int)) % 64) < 55296)) with hb259 | hb259
            ·
             have hb259' := of_decide_eq_true hb259
             refine sdo (v := .bool true) A (does_bin rfl rfl (fun w => (bin_lss w).trans (by rw [hb259]))) λa A↦?_
             refine sdm A λa A↦?_
             iterate 2 refine seq_skip A rfl rfl rfl λa A↦?_
             iterate 2 refine sdk (v := .bool true) A λa A↦?_
             refine sda A λa A↦?_
             refine seq_end (hK252 _ _ (wsk fun K260 hK260 => wrl (sdm A λa A↦?_)))
             refine seq_end (hK260 _ _ (wp_cond_true (A.ev rfl) ?_))
             refine wsk fun K261 hK261 => wrl ?_
             iterate 3 refine sdm A λa A↦?_
             refine sdo (v := .agg #[.int .i32 ((((((((l.getD i 0).toNat : Nat) : Int)) % 8) * 64 + (((((l.getD (i + 1) 0).toNat : Nat) : Int)) % 64)) * 64 + (((((l.getD (i + 2) 0).toNat : Nat) : Int)) % 64)) * 64 + (((((l.getD (i + 3) 0).toNat : Nat) : Int)) % 64)), .bool false, .int .i64 (((i : Nat) : Int))]) A (does_build rfl (fun w => by kernel_rfl)) λa A↦?_
             refine s_litE (e := 80) (sz := 3) (m := 1) (vs := [.int .i32 ((((((((l.getD i 0).toNat : Nat) : Int)) % 8) * 64 + (((((l.getD (i + 1) 0).toNat : Nat) : Int)) % 64)) * 64 + (((((l.getD (i + 2) 0).toNat : Nat) : Int)) % 64)) * 64 + (((((l.getD (i + 3) 0).toNat : Nat) : Int)) % 64)), .bool false, .int .i64 (((i : Nat) : Int))]) A M rfl rfl rfl (does_buildSlice rfl (by kernel_rfl)) rfl rfl (.inl (by decide)) ?_
             intro g262 w263 M a A
             refine s_appendE (e := 80) (sz := 3) (k := 2) (q := acc.length) (m := 1) (xs := (unitV acc)) (news := [.int .i32 ((((((((l.getD i 0).toNat : Nat) : Int)) % 8) * 64 + (((((l.getD (i + 1) 0).toNat : Nat) : Int)) % 64)) * 64 + (((((l.getD (i + 2) 0).toNat : Nat) : Int)) % 64)) * 64 + (((((l.getD (i + 3) 0).toNat : Nat) : Int)) % 64)), .bool false, .int .i64 (((i : Nat) : Int))]) (L' := fun v264 => (.row 80 3 (.slice (some ⟨g262, 0, none⟩) 1 1) 1 ([.int .i32 ((((((((l.getD i 0).toNat : Nat) : Int)) % 8) * 64 + (((((l.getD (i + 1) 0).toNat : Nat) : Int)) % 64)) * 64 + (((((l.getD (i + 2) 0).toNat : Nat) : Int)) % 64)) * 64 + (((((l.getD (i + 3) 0).toNat : Nat) : Int)) % 64)), .bool false, .int .i64 (((i : Nat) : Int))]) :: .row 21 1 (.slice (some ⟨g255, 0, none⟩) 5 5) 5 ([.int .i32 0, .int .i32 0, .int .i32 128, .int .i32 2048, .int .i32 65536]) :: .row 80 3 (v264) (acc.length + 1) ((unitV acc) ++ [.int .i32 ((((((((l.getD i 0).toNat : Nat) : Int)) % 8) * 64 + (((((l.getD (i + 1) 0).toNat : Nat) : Int)) % 64)) * 64 + (((((l.getD (i + 2) 0).toNat : Nat) : Int)) % 64)) * 64 + (((((l.getD (i + 3) 0).toNat : Nat) : Int)) % 64)), .bool false, .int .i64 (((i : Nat) : Int))]) :: [])) A rfl rfl rfl (m_appendE (z := .agg #[.int .i32 0, .bool false, .int .i64 0]) (sz := 3) (by_ := 16) Tryz.underlying77 (by kernel_rfl) rfl rfl rfl M 2 rfl rfl 0 rfl rfl rfl rfl (by omega)) (fun _ => rfl) ?_
             intro v264 w265 M a A
             refine sda A λa A↦?_
             refine seq_end (hK261 _ _ (wrl ?_))
             iterate 2 refine sdm A λa A↦?_
             refine sdo (v := .int .i64 (((i + 4 : Nat) : Int))) A (does_bin rfl rfl (ar_add ((in_i64 (by omega) (by omega)).trans (by omega)))) λa A↦?_
             refine sda A λa A↦?_
             refine seq_end ?_
             have hd : decodeN (l.length - i) (l.getD i 0).toNat (l.getD (i + 1) 0).toNat (l.getD (i + 2) 0).toNat (l.getD (i + 3) 0).toNat = (((((((((l.getD i 0).toNat : Nat) : Int)) % 8) * 64 + (((((l.getD (i + 1) 0).toNat : Nat) : Int)) % 64)) * 64 + (((((l.getD (i + 2) 0).toNat : Nat) : Int)) % 64)) * 64 + (((((l.getD (i + 3) 0).toNat : Nat) : Int)) % 64)).toNat, 4) := by
              unfold Lib.decodeN
              repeat' split
              all_goals first | rfl | (exfalso; omega) | (refine Prod.ext ?_ rfl; show (_ : Nat) = _; omega)
             have hr9 : uR (((((((((l.getD i 0).toNat : Nat) : Int)) % 8) * 64 + (((((l.getD (i + 1) 0).toNat : Nat) : Int)) % 64)) * 64 + (((((l.getD (i + 2) 0).toNat : Nat) : Int)) % 64)) * 64 + (((((l.getD (i + 3) 0).toNat : Nat) : Int)) % 64)).toNat) 4 = ((((((((l.getD i 0).toNat : Nat) : Int)) % 8) * 64 + (((((l.getD (i + 1) 0).toNat : Nat) : Int)) % 64)) * 64 + (((((l.getD (i + 2) 0).toNat : Nat) : Int)) % 64)) * 64 + (((((l.getD (i + 3) 0).toNat : Nat) : Int)) % 64)) := by unfold uR; rw [if_neg (by omega)]; omega
             have hs9 := restU_step (show i < l.length by omega) hd
             rw [hr9] at hs9
             replace M : Mg w w265 [.row 80 3 v264 (acc ++ [((i : Int), ((((((((l.getD i 0).toNat : Nat) : Int)) % 8) * 64 + (((((l.getD (i + 1) 0).toNat : Nat) : Int)) % 64)) * 64 + (((((l.getD (i + 2) 0).toNat : Nat) : Int)) % 64)) * 64 + (((((l.getD (i + 3) 0).toNat : Nat) : Int)) % 64)))]).length (unitV (acc ++ [((i : Int), ((((((((l.getD i 0).toNat : Nat) : Int)) % 8) * 64 + (((((l.getD (i + 1) 0).toNat : Nat) : Int)) % 64)) * 64 + (((((l.getD (i + 2) 0).toNat : Nat) : Int)) % 64)) * 64 + (((((l.getD (i + 3) 0).toNat : Nat) : Int)) % 64)))]))] := by
              have h9 := M.sub (.cons _ (.cons _ (.cons_cons _ (.refl _))))
              have e9 : unitV (acc ++ [((i : Int), ((((((((l.getD i 0).toNat : Nat) : Int)) % 8) * 64 + (((((l.getD (i + 1) 0).toNat : Nat) : Int)) % 64)) * 64 + (((((l.getD (i + 2) 0).toNat : Nat) : Int)) % 64)) * 64 + (((((l.getD (i + 3) 0).toNat : Nat) : Int)) % 64)))]) = unitV acc ++ [.int .i32 ((((((((l.getD i 0).toNat : Nat) : Int)) % 8) * 64 + (((((l.getD (i + 1) 0).toNat : Nat) : Int)) % 64)) * 64 + (((((l.getD (i + 2) 0).toNat : Nat) : Int)) % 64)) * 64 + (((((l.getD (i + 3) 0).toNat : Nat) : Int)) % 64)), .bool false, .int .i64 (((i : Nat) : Int))] := by
               unfold unitV
               rw [List.flatMap_append, List.flatMap_singleton]
               rw [if_neg (show ¬ _ = (-1 : Int) by simp only; omega)]
              rw [e9, List.length_append]
              exact h9
             refine hK8 _ _ _ (by omega) ⟨i + 4, acc ++ [((i : Int), ((((((((l.getD i 0).toNat : Nat) : Int)) % 8) * 64 + (((((l.getD (i + 1) 0).toNat : Nat) : Int)) % 64)) * 64 + (((((l.getD (i + 2) 0).toNat : Nat) : Int)) % 64)) * 64 + (((((l.getD (i + 3) 0).toNat : Nat) : Int)) % 64)))], v264, rfl, ⟨by rw [← hrun, hs9, List.append_assoc]; rfl, by omega, by rw [List.length_append]; simp only [List.length_cons, List.length_nil]; omega⟩, A.keep _ ⟨rfl, rfl, rfl, rfl, rfl, trivial⟩, M⟩
            ·
             have hb259' := of_decide_eq_false hb259
             refine sdo (v := .bool false) A (does_bin rfl rfl (fun w => (bin_lss w).trans (by rw [hb259]))) λa A↦?_
             iterate 2 refine sdm A λa A↦?_
             rcases tf (decide (57343 < (((((((l.getD i 0).toNat : Nat) : Int)) % 8) * 64 + (((((l.getD (i + 1) 0).toNat : Nat) : Int)) % 64)) * 64 + (((((l.getD (i + 2) 0).toNat : Nat) : Int)) % 64)) * 64 + (((((l.getD (i + 3) 0).toNat : Nat) : Int)) % 64))) with hb266 | hb266
             ·
              have hb266' := of_decide_eq_true hb266
              refine sdo (v := .bool true) A (does_bin rfl rfl (fun w => (bin_gtr w).trans (by rw [hb266]))) λa A↦?_
              iterate 2 refine sdk (v := .bool true) A λa A↦?_
              refine sda A λa A↦?_
              refine seq_end (hK252 _ _ (wsk fun K267 hK267 => wrl (sdm A λa A↦?_)))
              refine seq_end (hK267 _ _ (wp_cond_true (A.ev rfl) ?_))
              refine wsk fun K268 hK268 => wrl ?_
              iterate 3 refine sdm A λa A↦?_
              refine sdo (v := .agg #[.int .i32 ((((((((l.getD i 0).toNat : Nat) : Int)) % 8) * 64 + (((((l.getD (i + 1) 0).toNat : Nat) : Int)) % 64)) * 64 + (((((l.getD (i + 2) 0).toNat : Nat) : Int)) % 64)) * 64 + (((((l.getD (i + 3) 0).toNat : Nat) : Int)) % 64)), .bool false, .int .i64 (((i : Nat) : Int))]) A (does_build rfl (fun w => by kernel_rfl)) λa A↦?_
              refine s_litE (e := 80) (sz := 3) (m := 1) (vs := [.int .i32 ((((((((l.getD i 0).toNat : Nat) : Int)) % 8) * 64 + (((((l.getD (i + 1) 0).toNat : Nat) : Int)) % 64)) * 64 + (((((l.getD (i + 2) 0).toNat : Nat) : Int)) % 64)) * 64 + (((((l.getD (i + 3) 0).toNat : Nat) : Int)) % 64)), .bool false, .int .i64 (((i : Nat) : Int))]) A M rfl rfl rfl (does_buildSlice rfl (by kernel_rfl)) rfl rfl (.inl (by decide)) ?_
              intro g269 w270 M a A
              refine s_appendE (e := 80) (sz := 3) (k := 2) (q := acc.length) (m := 1) (xs := (unitV acc)) (news := [.int .i32 ((((((((l.getD i 0).toNat : Nat) : Int)) % 8) * 64 + (((((l.getD (i + 1) 0).toNat : Nat) : Int)) % 64)) * 64 + (((((l.getD (i + 2) 0).toNat : Nat) : Int)) % 64)) * 64 + (((((l.getD (i + 3) 0).toNat : Nat) : Int)) % 64)), .bool false, .int .i64 (((i : Nat) : Int))]) (L' := fun v271 => (.row 80 3 (.slice (some ⟨g269, 0, none⟩) 1 1) 1 ([.int .i32 ((((((((l.getD i 0).toNat : Nat) : Int)) % 8) * 64 + (((((l.getD (i + 1) 0).toNat : Nat) : Int)) % 64)) * 64 + (((((l.getD (i + 2) 0).toNat : Nat) : Int)) % 64)) * 64 + (((((l.getD (i + 3) 0).toNat : Nat) : Int)) % 64)), .bool false, .int .i64 (((i : Nat) : Int))]) :: .row 21 1 (.slice (some ⟨g255, 0, none⟩) 5 5) 5 ([.int .i32 0, .int .i32 0, .int .i32 128, .int .i32 2048, .int .i32 65536]) :: .row 80 3 (v271) (acc.length + 1) ((unitV acc) ++ [.int .i32 ((((((((l.getD i 0).toNat : Nat) : Int)) % 8) * 64 + (((((l.getD (i + 1) 0).toNat : Nat) : Int)) % 64)) * 64 + (((((l.getD (i + 2) 0).toNat : Nat) : Int)) % 64)) * 64 + (((((l.getD (i + 3) 0).toNat : Nat) : Int)) % 64)), .bool false, .int .i64 (((i : Nat) : Int))]) :: [])) A rfl rfl rfl (m_appendE (z := .agg #[.int .i32 0, .bool false, .int .i64 0]) (sz := 3) (by_ := 16) Tryz.underlying77 (by kernel_rfl) rfl rfl rfl M 2 rfl rfl 0 rfl rfl rfl rfl (by omega)) (fun _ => rfl) ?_
              intro v271 w272 M a A
              refine sda A λa A↦?_
              refine seq_end (hK268 _ _ (wrl ?_))
              iterate 2 refine sdm A λa A↦?_
              refine sdo (v := .int .i64 (((i + 4 : Nat) : Int))) A (does_bin rfl rfl (ar_add ((in_i64 (by omega) (by omega)).trans (by omega)))) λa A↦?_
              refine sda A λa A↦?_
              refine seq_end ?_
              have hd : decodeN (l.length - i) (l.getD i 0).toNat (l.getD (i + 1) 0).toNat (l.getD (i + 2) 0).toNat (l.getD (i + 3) 0).toNat = (((((((((l.getD i 0).toNat : Nat) : Int)) % 8) * 64 + (((((l.getD (i + 1) 0).toNat : Nat) : Int)) % 64)) * 64 + (((((l.getD (i + 2) 0).toNat : Nat) : Int)) % 64)) * 64 + (((((l.getD (i + 3) 0).toNat : Nat) : Int)) % 64)).toNat, 4) := by
               unfold Lib.decodeN
               repeat' split
               all_goals first | rfl | (exfalso; omega) | (refine Prod.ext ?_ rfl; show (_ : Nat) = _; omega)
              have hr9 : uR (((((((((l.getD i 0).toNat : Nat) : Int)) % 8) * 64 + (((((l.getD (i + 1) 0).toNat : Nat) : Int)) % 64)) * 64 + (((((l.getD (i + 2) 0).toNat : Nat) : Int)) % 64)) * 64 + (((((l.getD (i + 3) 0).toNat : Nat) : Int)) % 64)).toNat) 4 = ((((((((l.getD i 0).toNat : Nat) : Int)) % 8) * 64 + (((((l.getD (i + 1) 0).toNat : Nat) : Int)) % 64)) * 64 + (((((l.getD (i + 2) 0).toNat : Nat) : Int)) % 64)) * 64 + (((((l.getD (i + 3) 0).toNat : Nat) : Int)) % 64)) := by unfold uR; rw [if_neg (by omega)]; omega
              have hs9 := restU_step (show i < l.length by omega) hd
              rw [hr9] at hs9
              replace M : Mg w w272 [.row 80 3 v271 (acc ++ [((i : Int), ((((((((l.getD i 0).toNat : Nat) : Int)) % 8) * 64 + (((((l.getD (i + 1) 0).toNat : Nat) : Int)) % 64)) * 64 + (((((l.getD (i + 2) 0).toNat : Nat) : Int)) % 64)) * 64 + (((((l.getD (i + 3) 0).toNat : Nat) : Int)) % 64)))]).length (unitV (acc ++ [((i : Int), ((((((((l.getD i 0).toNat : Nat) : Int)) % 8) * 64 + (((((l.getD (i + 1) 0).toNat : Nat) : Int)) % 64)) * 64 + (((((l.getD (i + 2) 0).toNat : Nat) : Int)) % 64)) * 64 + (((((l.getD (i + 3) 0).toNat : Nat) : Int)) % 64)))]))] := by
               have h9 := M.sub (.cons _ (.cons _ (.cons_cons _ (.refl _))))
               have e9 : unitV (acc ++ [((i : Int), ((((((((l.getD i 0).toNat : Nat) : Int)) % 8) * 64 + (((((l.getD (i + 1) 0).toNat : Nat) : Int)) % 64)) * 64 + (((((l.getD (i + 2) 0).toNat : Nat) : Int)) % 64)) * 64 + (((((l.getD (i + 3) 0).toNat : Nat) : Int)) % 64)))]) = unitV acc ++ [.int .i32 ((((((((l.getD i 0).toNat : Nat) : Int)) % 8) * 64 + (((((l.getD (i + 1) 0).toNat : Nat) : Int)) % 64)) * 64 + (((((l.getD (i + 2) 0).toNat : Nat) : Int)) % 64)) * 64 + (((((l.getD (i + 3) 0).toNat : Nat) : Int)) % 64)), .bool false, .int .i64 (((i : Nat) : Int))] := by
                unfold unitV
                rw [List.flatMap_append, List.flatMap_singleton]
                rw [if_neg (show ¬ _ = (-1 : Int) by simp only; omega)]
               rw [e9, List.length_append]
               exact h9
              refine hK8 _ _ _ (by omega) ⟨i + 4, acc ++ [((i : Int), ((((((((l.getD i 0).toNat : Nat) : Int)) % 8) * 64 + (((((l.getD (i + 1) 0).toNat : Nat) : Int)) % 64)) * 64 + (((((l.getD (i + 2) 0).toNat : Nat) : Int)) % 64)) * 64 + (((((l.getD (i + 3) 0).toNat : Nat) : Int)) % 64)))], v271, rfl, ⟨by rw [← hrun, hs9, List.append_assoc]; rfl, by omega, by rw [List.length_append]; simp only [List.length_cons, List.length_nil]; omega⟩, A.keep _ ⟨rfl, rfl, rfl, rfl, rfl, trivial⟩, M⟩
             ·
              have hb266' := of_decide_eq_false hb266
              refine sdo (v := .bool false) A (does_bin rfl rfl (fun w => (bin_gtr w).trans (by rw [hb266]))) λa A↦?_
              iterate 2 refine sdk (v := .bool false) A λa A↦?_
              refine sda A λa A↦?_
              refine seq_end (hK252 _ _ (wsk fun K273 hK273 => wrl (sdm A λa A↦?_)))
              refine seq_end (hK273 _ _ (wp_cond_false (A.ev rfl) ?_))
              refine wsk fun K274 hK274 => wrl ?_
              iterate 2 refine sdm A λa A↦?_
              refine sdo (v := .agg #[.int .i32 0, .bool true, .int .i64 (((i : Nat) : Int))]) A (does_build rfl (fun w => by kernel_rfl)) λa A↦?_
              refine s_litE (e := 80) (sz := 3) (m := 1) (vs := [.int .i32 0, .bool true, .int .i64 (((i : Nat) : Int))]) A M rfl rfl rfl (does_buildSlice rfl (by kernel_rfl)) rfl rfl (.inl (by decide)) ?_
              intro g275 w276 M a A
              refine s_appendE (e := 80) (sz := 3) (k := 2) (q := acc.length) (m := 1) (xs := (unitV acc)) (news := [.int .i32 0, .bool true, .int .i64 (((i : Nat) : Int))]) (L' := fun v277 => (.row 80 3 (.slice (some ⟨g275, 0, none⟩) 1 1) 1 ([.int .i32 0, .bool true, .int .i64 (((i : Nat) : Int))]) :: .row 21 1 (.slice (some ⟨g255, 0, none⟩) 5 5) 5 ([.int .i32 0, .int .i32 0, .int .i32 128, .int .i32 2048, .int .i32 65536]) :: .row 80 3 (v277) (acc.length + 1) ((unitV acc) ++ [.int .i32 0, .bool true, .int .i64 (((i : Nat) : Int))]) :: [])) A rfl rfl rfl (m_appendE (z := .agg #[.int .i32 0, .bool false, .int .i64 0]) (sz := 3) (by_ := 16) Tryz.underlying77 (by kernel_rfl) rfl rfl rfl M 2 rfl rfl 0 rfl rfl rfl rfl (by omega)) (fun _ => rfl) ?_
              intro v277 w278 M a A
              refine sda A λa A↦?_
              refine seq_end (hK274 _ _ (wrl (sdm A λa A↦?_)))
              refine sdo (v := .int .i64 (((i + 1 : Nat) : Int))) A (does_bin rfl rfl (ar_add ((in_i64 (by omega) (by omega)).trans (by omega)))) λa A↦?_
              refine sda A λa A↦?_
              refine seq_end ?_
              have hd : decodeN (l.length - i) (l.getD i 0).toNat (l.getD (i + 1) 0).toNat (l.getD (i + 2) 0).toNat (l.getD (i + 3) 0).toNat = (65533, 1) := by
               unfold Lib.decodeN
               repeat' split
               all_goals first | rfl | (exfalso; omega) | (refine Prod.ext ?_ rfl; show (_ : Nat) = _; omega)
              have hr9 : uR (65533) 1 = (-1) := by unfold uR; rw [if_pos ⟨rfl, by decide⟩]
              have hs9 := restU_step (show i < l.length by omega) hd
              rw [hr9] at hs9
              replace M : Mg w w278 [.row 80 3 v277 (acc ++ [((i : Int), (-1))]).length (unitV (acc ++ [((i : Int), (-1))]))] := by
               have h9 := M.sub (.cons _ (.cons _ (.cons_cons _ (.refl _))))
               have e9 : unitV (acc ++ [((i : Int), (-1))]) = unitV acc ++ [.int .i32 0, .bool true, .int .i64 (((i : Nat) : Int))] := by
                unfold unitV
                rw [List.flatMap_append, List.flatMap_singleton]
                rw [if_pos rfl]
               rw [e9, List.length_append]
               exact h9
              refine hK8 _ _ _ (by omega) ⟨i + 1, acc ++ [((i : Int), (-1))], v277, rfl, ⟨by rw [← hrun, hs9, List.append_assoc]; rfl, by omega, by rw [List.length_append]; simp only [List.length_cons, List.length_nil]; omega⟩, A.keep _ ⟨rfl, rfl, rfl, rfl, rfl, trivial⟩, M⟩
           ·
            have hb258' := of_decide_eq_false hb258
            refine sdo (v := .bool false) A (does_bin rfl rfl (fun w => (bin_leq w).trans (by rw [hb258]))) λa A↦?_
            refine sdk (v := .bool false) A λa A↦?_
            refine sdm A λa A↦?_
            iterate 3 refine seq_skip A rfl rfl rfl λa A↦?_
            iterate 2 refine seq_skipU A rfl rfl rfl λa A↦?_
            refine seq_skip A rfl rfl rfl λa A↦?_
            refine sdk (v := .bool false) A λa A↦?_
            refine sda A λa A↦?_
            refine seq_end (hK252 _ _ (wsk fun K279 hK279 => wrl (sdm A λa A↦?_)))
            refine seq_end (hK279 _ _ (wp_cond_false (A.ev rfl) ?_))
            refine wsk fun K280 hK280 => wrl ?_
            iterate 2 refine sdm A λa A↦?_
            refine sdo (v := .agg #[.int .i32 0, .bool true, .int .i64 (((i : Nat) : Int))]) A (does_build rfl (fun w => by kernel_rfl)) λa A↦?_
            refine s_litE (e := 80) (sz := 3) (m := 1) (vs := [.int .i32 0, .bool true, .int .i64 (((i : Nat) : Int))]) A M rfl rfl rfl (does_buildSlice rfl (by kernel_rfl)) rfl rfl (.inl (by decide)) ?_
            intro g281 w282 M a A
            refine s_appendE (e := 80) (sz := 3) (k := 2) (q := acc.length) (m := 1) (xs := (unitV acc)) (news := [.int .i32 0, .bool true, .int .i64 (((i : Nat) : Int))]) (L' := fun v283 => (.row 80 3 (.slice (some ⟨g281, 0, none⟩) 1 1) 1 ([.int .i32 0, .bool true, .int .i64 (((i : Nat) : Int))]) :: .row 21 1 (.slice (some ⟨g255, 0, none⟩) 5 5) 5 ([.int .i32 0, .int .i32 0, .int .i32 128, .int .i32 2048, .int .i32 65536]) :: .row 80 3 (v283) (acc.length + 1) ((unitV acc) ++ [.int .i32 0, .bool true, .int .i64 (((i : Nat) : Int))]) :: [])) A rfl rfl rfl (m_appendE (z := .agg #[.int .i32 0, .bool false, .int .i64 0]) (sz := 3) (by_ := 16) Tryz.underlying77 (by kernel_rfl) rfl rfl rfl M 2 rfl rfl 0 rfl rfl rfl rfl (by omega)) (fun _ => rfl) ?_
            intro v283 w284 M a A
            refine sda A λa A↦?_
            refine seq_end (hK280 _ _ (wrl (sdm A λa A↦?_)))
            refine sdo (v := .int .i64 (((i + 1 : Nat) : Int))) A (does_bin rfl rfl (ar_add ((in_i64 (by omega) (by omega)).trans (by omega)))) λa A↦?_
            refine sda A λa A↦?_
            refine seq_end ?_
            have hd : decodeN (l.length - i) (l.getD i 0).toNat (l.getD (i + 1) 0).toNat (l.getD (i + 2) 0).toNat (l.getD (i + 3) 0).toNat = (65533, 1) := by
             unfold Lib.decodeN
             repeat' split
             all_goals first | rfl | (exfalso; omega) | (refine Prod.ext ?_ rfl; show (_ : Nat) = _; omega)
            have hr9 : uR (65533) 1 = (-1) := by unfold uR; rw [if_pos ⟨rfl, by decide⟩]
            have hs9 := restU_step (show i < l.length by omega) hd
            rw [hr9] at hs9
            replace M : Mg w w284 [.row 80 3 v283 (acc ++ [((i : Int), (-1))]).length (unitV (acc ++ [((i : Int), (-1))]))] := by
             have h9 := M.sub (.cons _ (.cons _ (.cons_cons _ (.refl _))))
             have e9 : unitV (acc ++ [((i : Int), (-1))]) = unitV acc ++ [.int .i32 0, .bool true, .int .i64 (((i : Nat) : Int))] := by
              unfold unitV
              rw [List.flatMap_append, List.flatMap_singleton]
              rw [if_pos rfl]
             rw [e9, List.length_append]
             exact h9
            refine hK8 _ _ _ (by omega) ⟨i + 1, acc ++ [((i : Int), (-1))], v283, rfl, ⟨by rw [← hrun, hs9, List.append_assoc]; rfl, by omega, by rw [List.length_append]; simp only [List.length_cons, List.length_nil]; omega⟩, A.keep _ ⟨rfl, rfl, rfl, rfl, rfl, trivial⟩, M⟩
          ·
           have hb257' := of_decide_eq_false hb257
           refine sdo (v := .bool false) A (does_bin rfl rfl (fun w => (bin_geq w).trans (by rw [hb257]))) λa A↦?_
           refine sdm A λa A↦?_
           iterate 2 refine seq_skip A rfl rfl rfl λa A↦?_
           refine sdk (v := .bool false) A λa A↦?_
           refine sdm A λa A↦?_
           iterate 3 refine seq_skip A rfl rfl rfl λa A↦?_
           iterate 2 refine seq_skipU A rfl rfl rfl λa A↦?_
           refine seq_skip A rfl rfl rfl λa A↦?_
           refine sdk (v := .bool false) A λa A↦?_
           refine sda A λa A↦?_
           refine seq_end (hK252 _ _ (wsk fun K285 hK285 => wrl (sdm A λa A↦?_)))
           refine seq_end (hK285 _ _ (wp_cond_false (A.ev rfl) ?_))
           refine wsk fun K286 hK286 => wrl ?_
           iterate 2 refine sdm A λa A↦?_
           refine sdo (v := .agg #[.int .i32 0, .bool true, .int .i64 (((i : Nat) : Int))]) A (does_build rfl (fun w => by kernel_rfl)) λa A↦?_
           refine s_litE (e := 80) (sz := 3) (m := 1) (vs := [.int .i32 0, .bool true, .int .i64 (((i : Nat) : Int))]) A M rfl rfl rfl (does_buildSlice rfl (by kernel_rfl)) rfl rfl (.inl (by decide)) ?_
           intro g287 w288 M a A
           refine s_appendE (e := 80) (sz := 3) (k := 2) (q := acc.length) (m := 1) (xs := (unitV acc)) (news := [.int .i32 0, .bool true, .int .i64 (((i : Nat) : Int))]) (L' := fun v289 => (.row 80 3 (.slice (some ⟨g287, 0, none⟩) 1 1) 1 ([.int .i32 0, .bool true, .int .i64 (((i : Nat) : Int))]) :: .row 21 1 (.slice (some ⟨g255, 0, none⟩) 5 5) 5 ([.int .i32 0, .int .i32 0, .int .i32 128, .int .i32 2048, .int .i32 65536]) :: .row 80 3 (v289) (acc.length + 1) ((unitV acc) ++ [.int .i32 0, .bool true, .int .i64 (((i : Nat) : Int))]) :: [])) A rfl rfl rfl (m_appendE (z := .agg #[.int .i32 0, .bool false, .int .i64 0]) (sz := 3) (by_ := 16) Tryz.underlying77 (by kernel_rfl) rfl rfl rfl M 2 rfl rfl 0 rfl rfl rfl rfl (by omega)) (fun _ => rfl) ?_
           intro v289 w290 M a A
           refine sda A λa A↦?_
           refine seq_end (hK286 _ _ (wrl (sdm A λa A↦?_)))
           refine sdo (v := .int .i64 (((i + 1 : Nat) : Int))) A (does_bin rfl rfl (ar_add ((in_i64 (by omega) (by omega)).trans (by omega)))) λa A↦?_
           refine sda A λa A↦?_
           refine seq_end ?_
           have hd : decodeN (l.length - i) (l.getD i 0).toNat (l.getD (i + 1) 0).toNat (l.getD (i + 2) 0).toNat (l.getD (i + 3) 0).toNat = (65533, 1) := by
            unfold Lib.decodeN
            repeat' split
            all_goals first | rfl | (exfalso; omega) | (refine Prod.ext ?_ rfl; show (_ : Nat) = _; omega)
           have hr9 : uR (65533) 1 = (-1) := by unfold uR; rw [if_pos ⟨rfl, by decide⟩]
           have hs9 := restU_step (show i < l.length by omega) hd
           rw [hr9] at hs9
           replace M : Mg w w290 [.row 80 3 v289 (acc ++ [((i : Int), (-1))]).length (unitV (acc ++ [((i : Int), (-1))]))] := by
            have h9 := M.sub (.cons _ (.cons _ (.cons_cons _ (.refl _))))
            have e9 : unitV (acc ++ [((i : Int), (-1))]) = unitV acc ++ [.int .i32 0, .bool true, .int .i64 (((i : Nat) : Int))] := by
             unfold unitV
             rw [List.flatMap_append, List.flatMap_singleton]
             rw [if_pos rfl]
            rw [e9, List.length_append]
            exact h9
           refine hK8 _ _ _ (by omega) ⟨i + 1, acc ++ [((i : Int), (-1))], v289, rfl, ⟨by rw [← hrun, hs9, List.append_assoc]; rfl, by omega, by rw [List.length_append]; simp only [List.length_cons, List.length_nil]; omega⟩, A.keep _ ⟨rfl, rfl, rfl, rfl, rfl, trivial⟩, M⟩
         ·
          have hb248' := ne_of_beq_false hb248
          refine sdo (v := .bool false) A (does_bin rfl rfl (fun w => (bin_eql w).trans (by rw [hb248]))) λa A↦?_
          refine sda A λa A↦?_
          refine seq_end (hK247 _ _ (wrl (sdm A λa A↦?_)))
          refine sdo (v := .int .i32 ((((((((l.getD i 0).toNat : Nat) : Int)) % 8) * 64 + (((((l.getD (i + 1) 0).toNat : Nat) : Int)) % 64)) * 64 + (((((l.getD (i + 2) 0).toNat : Nat) : Int)) % 64)) * 64)) A (does_bin rfl rfl (ar_shl (n := 6) rfl rfl (in_i32 (by omega) (by omega)))) λa A↦?_
          refine sdm A λa A↦?_
          refine sdo (v := .int .u8 (((((l.getD (i + 3) 0).toNat : Nat) : Int)) % 64)) A (does_bin rfl rfl (ar_and (and_u8 6 63 rfl (by decide) (by omega) (by omega)))) λa A↦?_
          refine sdo (v := .int .i32 (((((l.getD (i + 3) 0).toNat : Nat) : Int)) % 64)) A (does_convert rfl (ar_conv Tryz.underlying5 Tryz.underlying21 (in_i32 (by omega) (by omega)))) λa A↦?_
          refine sdo (v := .int .i32 ((((((((l.getD i 0).toNat : Nat) : Int)) % 8) * 64 + (((((l.getD (i + 1) 0).toNat : Nat) : Int)) % 64)) * 64 + (((((l.getD (i + 2) 0).toNat : Nat) : Int)) % 64)) * 64 + (((((l.getD (i + 3) 0).toNat : Nat) : Int)) % 64))) A (does_bin rfl rfl (ar_or (or_six (by omega) (by omega) (by omega) (by omega)))) λa A↦?_
          refine sda A λa A↦?_
          refine seq_end (hK245 _ _ (wrl (sdm A λa A↦?_)))
          refine sdo (v := .int .i64 4) A (does_bin rfl rfl (fun w => by kernel_rfl)) λa A↦?_
          refine sda A λa A↦?_
          refine seq_end (hK242 _ _ (rounds_k ?_))
          intro K291 hK291
          refine wsk fun K292 hK292 => wsk fun K293 hK293 => wrl ?_
          iterate 2 refine sdm A λa A↦?_
          iterate 3 refine seq_skip A rfl rfl rfl λa A↦?_
          refine sdk (v := .bool false) A λa A↦?_
          refine seq_end (hK293 _ _ (wp_cond_false (A.ev rfl) ?_))
          refine wp_exit (hK226 _ _ (wsk fun K294 hK294 => wsk fun K295 hK295 => wrl ?_))
          iterate 2 refine sdm A λa A↦?_
          iterate 2 refine seq_skip A rfl rfl rfl λa A↦?_
          refine sdk (v := .bool false) A λa A↦?_
          refine seq_end (hK295 _ _ (wp_cond_false (A.ev rfl) ?_))
          refine wp_skip (hK294 _ _ (wsk fun K296 hK296 => wrl (sdm A λa A↦?_)))
          refine seq_end (hK296 _ _ (wp_cond_false (A.ev rfl) ?_))
          refine wsk fun K297 hK297 => wrl ?_
          iterate 2 refine sdm A λa A↦?_
          refine sdo (v := .agg #[.int .i32 0, .bool true, .int .i64 (((i : Nat) : Int))]) A (does_build rfl (fun w => by kernel_rfl)) λa A↦?_
          refine s_litE (e := 80) (sz := 3) (m := 1) (vs := [.int .i32 0, .bool true, .int .i64 (((i : Nat) : Int))]) A M rfl rfl rfl (does_buildSlice rfl (by kernel_rfl)) rfl rfl (.inl (by decide)) ?_
          intro g298 w299 M a A
          refine s_appendE (e := 80) (sz := 3) (k := 1) (q := acc.length) (m := 1) (xs := (unitV acc)) (news := [.int .i32 0, .bool true, .int .i64 (((i : Nat) : Int))]) (L' := fun v300 => (.row 80 3 (.slice (some ⟨g298, 0, none⟩) 1 1) 1 ([.int .i32 0, .bool true, .int .i64 (((i : Nat) : Int))]) :: .row 80 3 (v300) (acc.length + 1) ((unitV acc) ++ [.int .i32 0, .bool true, .int .i64 (((i : Nat) : Int))]) :: [])) A rfl rfl rfl (m_appendE (z := .agg #[.int .i32 0, .bool false, .int .i64 0]) (sz := 3) (by_ := 16) Tryz.underlying77 (by kernel_rfl) rfl rfl rfl M 1 rfl rfl 0 rfl rfl rfl rfl (by omega)) (fun _ => rfl) ?_
          intro v300 w301 M a A
          refine sda A λa A↦?_
          refine seq_end (hK297 _ _ (wrl (sdm A λa A↦?_)))
          refine sdo (v := .int .i64 (((i + 1 : Nat) : Int))) A (does_bin rfl rfl (ar_add ((in_i64 (by omega) (by omega)).trans (by omega)))) λa A↦?_
          refine sda A λa A↦?_
          refine seq_end ?_
          have hd : decodeN (l.length - i) (l.getD i 0).toNat (l.getD (i + 1) 0).toNat (l.getD (i + 2) 0).toNat (l.getD (i + 3) 0).toNat = (65533, 1) := by
           unfold Lib.decodeN
           repeat' split
           all_goals first | rfl | (exfalso; omega) | (refine Prod.ext ?_ rfl; show (_ : Nat) = _; omega)
          have hr9 : uR (65533) 1 = (-1) := by unfold uR; rw [if_pos ⟨rfl, by decide⟩]
          have hs9 := restU_step (show i < l.length by omega) hd
          rw [hr9] at hs9
          replace M : Mg w w301 [.row 80 3 v300 (acc ++ [((i : Int), (-1))]).length (unitV (acc ++ [((i : Int), (-1))]))] := by
           have h9 := M.sub (.cons _ (.cons_cons _ (.refl _)))
           have e9 : unitV (acc ++ [((i : Int), (-1))]) = unitV acc ++ [.int .i32 0, .bool true, .int .i64 (((i : Nat) : Int))] := by
            unfold unitV
            rw [List.flatMap_append, List.flatMap_singleton]
            rw [if_pos rfl]
           rw [e9, List.length_append]
           exact h9
          refine hK8 _ _ _ (by omega) ⟨i + 1, acc ++ [((i : Int), (-1))], v300, rfl, ⟨by rw [← hrun, hs9, List.append_assoc]; rfl, by omega, by rw [List.length_append]; simp only [List.length_cons, List.length_nil]; omega⟩, A.keep _ ⟨rfl, rfl, rfl, rfl, rfl, trivial⟩, M⟩
        ·
         have hb241' := ne_of_beq_false hb241
         refine sdo (v := .bool false) A (does_bin rfl rfl (fun w => (bin_eql w).trans (by rw [hb241]))) λa A↦?_
         refine sda A λa A↦?_
         refine seq_end (hK240 _ _ (wrl (sdm A λa A↦?_)))
         refine sdo (v := .int .i32 (((((((l.getD i 0).toNat : Nat) : Int)) % 8) * 64 + (((((l.getD (i + 1) 0).toNat : Nat) : Int)) % 64)) * 64)) A (does_bin rfl rfl (ar_shl (n := 6) rfl rfl (in_i32 (by omega) (by omega)))) λa A↦?_
         refine sdm A λa A↦?_
         refine sdo (v := .int .u8 (((((l.getD (i + 2) 0).toNat : Nat) : Int)) % 64)) A (does_bin rfl rfl (ar_and (and_u8 6 63 rfl (by decide) (by omega) (by omega)))) λa A↦?_
         refine sdo (v := .int .i32 (((((l.getD (i + 2) 0).toNat : Nat) : Int)) % 64)) A (does_convert rfl (ar_conv Tryz.underlying5 Tryz.underlying21 (in_i32 (by omega) (by omega)))) λa A↦?_
         refine sdo (v := .int .i32 (((((((l.getD i 0).toNat : Nat) : Int)) % 8) * 64 + (((((l.getD (i + 1) 0).toNat : Nat) : Int)) % 64)) * 64 + (((((l.getD (i + 2) 0).toNat : Nat) : Int)) % 64))) A (does_bin rfl rfl (ar_or (or_six (by omega) (by omega) (by omega) (by omega)))) λa A↦?_
         refine sda A λa A↦?_
         refine seq_end (hK238 _ _ (wrl (sdm A λa A↦?_)))
         refine sdo (v := .int .i64 3) A (does_bin rfl rfl (fun w => by kernel_rfl)) λa A↦?_
         refine sda A λa A↦?_
         refine seq_end (hK235 _ _ (rounds_k ?_))
         intro K302 hK302
         refine wsk fun K303 hK303 => wsk fun K304 hK304 => wrl ?_
         iterate 2 refine sdm A λa A↦?_
         iterate 3 refine seq_skip A rfl rfl rfl λa A↦?_
         refine sdk (v := .bool false) A λa A↦?_
         refine seq_end (hK304 _ _ (wp_cond_false (A.ev rfl) ?_))
         refine wp_exit (hK226 _ _ (wsk fun K305 hK305 => wsk fun K306 hK306 => wrl ?_))
         iterate 2 refine sdm A λa A↦?_
         iterate 2 refine seq_skip A rfl rfl rfl λa A↦?_
         refine sdk (v := .bool false) A λa A↦?_
         refine seq_end (hK306 _ _ (wp_cond_false (A.ev rfl) ?_))
         refine wp_skip (hK305 _ _ (wsk fun K307 hK307 => wrl (sdm A λa A↦?_)))
         refine seq_end (hK307 _ _ (wp_cond_false (A.ev rfl) ?_))
         refine wsk fun K308 hK308 => wrl ?_
         iterate 2 refine sdm A λa A↦?_
         refine sdo (v := .agg #[.int .i32 0, .bool true, .int .i64 (((i : Nat) : Int))]) A (does_build rfl (fun w => by kernel_rfl)) λa A↦?_
         refine s_litE (e := 80) (sz := 3) (m := 1) (vs := [.int .i32 0, .bool true, .int .i64 (((i : Nat) : Int))]) A M rfl rfl rfl (does_buildSlice rfl (by kernel_rfl)) rfl rfl (.inl (by decide)) ?_
         intro g309 w310 M a A
         refine s_appendE (e := 80) (sz := 3) (k := 1) (q := acc.length) (m := 1) (xs := (unitV acc)) (news := [.int .i32 0, .bool true, .int .i64 (((i : Nat) : Int))]) (L' := fun v311 => (.row 80 3 (.slice (some ⟨g309, 0, none⟩) 1 1) 1 ([.int .i32 0, .bool true, .int .i64 (((i : Nat) : Int))]) :: .row 80 3 (v311) (acc.length + 1) ((unitV acc) ++ [.int .i32 0, .bool true, .int .i64 (((i : Nat) : Int))]) :: [])) A rfl rfl rfl (m_appendE (z := .agg #[.int .i32 0, .bool false, .int .i64 0]) (sz := 3) (by_ := 16) Tryz.underlying77 (by kernel_rfl) rfl rfl rfl M 1 rfl rfl 0 rfl rfl rfl rfl (by omega)) (fun _ => rfl) ?_
         intro v311 w312 M a A
         refine sda A λa A↦?_
         refine seq_end (hK308 _ _ (wrl (sdm A λa A↦?_)))
         refine sdo (v := .int .i64 (((i + 1 : Nat) : Int))) A (does_bin rfl rfl (ar_add ((in_i64 (by omega) (by omega)).trans (by omega)))) λa A↦?_
         refine sda A λa A↦?_
         refine seq_end ?_
         have hd : decodeN (l.length - i) (l.getD i 0).toNat (l.getD (i + 1) 0).toNat (l.getD (i + 2) 0).toNat (l.getD (i + 3) 0).toNat = (65533, 1) := by
          unfold Lib.decodeN
          repeat' split
          all_goals first | rfl | (exfalso; omega) | (refine Prod.ext ?_ rfl; show (_ : Nat) = _; omega)
         have hr9 : uR (65533) 1 = (-1) := by unfold uR; rw [if_pos ⟨rfl, by decide⟩]
         have hs9 := restU_step (show i < l.length by omega) hd
         rw [hr9] at hs9
         replace M : Mg w w312 [.row 80 3 v311 (acc ++ [((i : Int), (-1))]).length (unitV (acc ++ [((i : Int), (-1))]))] := by
          have h9 := M.sub (.cons _ (.cons_cons _ (.refl _)))
          have e9 : unitV (acc ++ [((i : Int), (-1))]) = unitV acc ++ [.int .i32 0, .bool true, .int .i64 (((i : Nat) : Int))] := by
           unfold unitV
           rw [List.flatMap_append, List.flatMap_singleton]
           rw [if_pos rfl]
          rw [e9, List.length_append]
          exact h9
         refine hK8 _ _ _ (by omega) ⟨i + 1, acc ++ [((i : Int), (-1))], v311, rfl, ⟨by rw [← hrun, hs9, List.append_assoc]; rfl, by omega, by rw [List.length_append]; simp only [List.length_cons, List.length_nil]; omega⟩, A.keep _ ⟨rfl, rfl, rfl, rfl, rfl, trivial⟩, M⟩
       ·
        have hb234' := ne_of_beq_false hb234
        refine sdo (v := .bool false) A (does_bin rfl rfl (fun w => (bin_eql w).trans (by rw [hb234]))) λa A↦?_
        refine sda A λa A↦?_
        refine seq_end (hK233 _ _ (wrl (sdm A λa A↦?_)))
        refine sdo (v := .int .i32 ((((((l.getD i 0).toNat : Nat) : Int)) % 8) * 64)) A (does_bin rfl rfl (ar_shl (n := 6) rfl rfl (in_i32 (by omega) (by omega)))) λa A↦?_
        refine sdm A λa A↦?_
        refine sdo (v := .int .u8 (((((l.getD (i + 1) 0).toNat : Nat) : Int)) % 64)) A (does_bin rfl rfl (ar_and (and_u8 6 63 rfl (by decide) (by omega) (by omega)))) λa A↦?_
        refine sdo (v := .int .i32 (((((l.getD (i + 1) 0).toNat : Nat) : Int)) % 64)) A (does_convert rfl (ar_conv Tryz.underlying5 Tryz.underlying21 (in_i32 (by omega) (by omega)))) λa A↦?_
        refine sdo (v := .int .i32 ((((((l.getD i 0).toNat : Nat) : Int)) % 8) * 64 + (((((l.getD (i + 1) 0).toNat : Nat) : Int)) % 64))) A (does_bin rfl rfl (ar_or (or_six (by omega) (by omega) (by omega) (by omega)))) λa A↦?_
        refine sda A λa A↦?_
        refine seq_end (hK231 _ _ (wrl (sdm A λa A↦?_)))
        refine sdo (v := .int .i64 2) A (does_bin rfl rfl (fun w => by kernel_rfl)) λa A↦?_
        refine sda A λa A↦?_
        refine seq_end (hK228 _ _ (rounds_k ?_))
        intro K313 hK313
        refine wsk fun K314 hK314 => wsk fun K315 hK315 => wrl ?_
        iterate 2 refine sdm A λa A↦?_
        iterate 3 refine seq_skip A rfl rfl rfl λa A↦?_
        refine sdk (v := .bool false) A λa A↦?_
        refine seq_end (hK315 _ _ (wp_cond_false (A.ev rfl) ?_))
        refine wp_exit (hK226 _ _ (wsk fun K316 hK316 => wsk fun K317 hK317 => wrl ?_))
        iterate 2 refine sdm A λa A↦?_
        iterate 2 refine seq_skip A rfl rfl rfl λa A↦?_
        refine sdk (v := .bool false) A λa A↦?_
        refine seq_end (hK317 _ _ (wp_cond_false (A.ev rfl) ?_))
        refine wp_skip (hK316 _ _ (wsk fun K318 hK318 => wrl (sdm A λa A↦?_)))
        refine seq_end (hK318 _ _ (wp_cond_false (A.ev rfl) ?_))
        refine wsk fun K319 hK319 => wrl ?_
        iterate 2 refine sdm A λa A↦?_
        refine sdo (v := .agg #[.int .i32 0, .bool true, .int .i64 (((i : Nat) : Int))]) A (does_build rfl (fun w => by kernel_rfl)) λa A↦?_
        refine s_litE (e := 80) (sz := 3) (m := 1) (vs := [.int .i32 0, .bool true, .int .i64 (((i : Nat) : Int))]) A M rfl rfl rfl (does_buildSlice rfl (by kernel_rfl)) rfl rfl (.inl (by decide)) ?_
        intro g320 w321 M a A
        refine s_appendE (e := 80) (sz := 3) (k := 1) (q := acc.length) (m := 1) (xs := (unitV acc)) (news := [.int .i32 0, .bool true, .int .i64 (((i : Nat) : Int))]) (L' := fun v322 => (.row 80 3 (.slice (some ⟨g320, 0, none⟩) 1 1) 1 ([.int .i32 0, .bool true, .int .i64 (((i : Nat) : Int))]) :: .row 80 3 (v322) (acc.length + 1) ((unitV acc) ++ [.int .i32 0, .bool true, .int .i64 (((i : Nat) : Int))]) :: [])) A rfl rfl rfl (m_appendE (z := .agg #[.int .i32 0, .bool false, .int .i64 0]) (sz := 3) (by_ := 16) Tryz.underlying77 (by kernel_rfl) rfl rfl rfl M 1 rfl rfl 0 rfl rfl rfl rfl (by omega)) (fun _ => rfl) ?_
        intro v322 w323 M a A
        refine sda A λa A↦?_
        refine seq_end (hK319 _ _ (wrl (sdm A λa A↦?_)))
        refine sdo (v := .int .i64 (((i + 1 : Nat) : Int))) A (does_bin rfl rfl (ar_add ((in_i64 (by omega) (by omega)).trans (by omega)))) λa A↦?_
        refine sda A λa A↦?_
        refine seq_end ?_
        have hd : decodeN (l.length - i) (l.getD i 0).toNat (l.getD (i + 1) 0).toNat (l.getD (i + 2) 0).toNat (l.getD (i + 3) 0).toNat = (65533, 1) := by
         unfold Lib.decodeN
         repeat' split
         all_goals first | rfl | (exfalso; omega) | (refine Prod.ext ?_ rfl; show (_ : Nat) = _; omega)
        have hr9 : uR (65533) 1 = (-1) := by unfold uR; rw [if_pos ⟨rfl, by decide⟩]
        have hs9 := restU_step (show i < l.length by omega) hd
        rw [hr9] at hs9
        replace M : Mg w w323 [.row 80 3 v322 (acc ++ [((i : Int), (-1))]).length (unitV (acc ++ [((i : Int), (-1))]))] := by
         have h9 := M.sub (.cons _ (.cons_cons _ (.refl _)))
         have e9 : unitV (acc ++ [((i : Int), (-1))]) = unitV acc ++ [.int .i32 0, .bool true, .int .i64 (((i : Nat) : Int))] := by
          unfold unitV
          rw [List.flatMap_append, List.flatMap_singleton]
          rw [if_pos rfl]
         rw [e9, List.length_append]
         exact h9
        refine hK8 _ _ _ (by omega) ⟨i + 1, acc ++ [((i : Int), (-1))], v322, rfl, ⟨by rw [← hrun, hs9, List.append_assoc]; rfl, by omega, by rw [List.length_append]; simp only [List.length_cons, List.length_nil]; omega⟩, A.keep _ ⟨rfl, rfl, rfl, rfl, rfl, trivial⟩, M⟩
      ·
       have hb225' := of_decide_eq_false hb225
       refine sdo (v := .bool false) A (does_bin rfl rfl (fun w => (bin_leq w).trans (by rw [hb225]))) λa A↦?_
       refine sdk (v := .bool false) A λa A↦?_
       refine sda A λa A↦?_
       refine seq_end (hK224 _ _ (wsk fun K324 hK324 => wsk fun K325 hK325 => wrl (sda A λa A↦?_)))
       refine seq_end (hK325 _ _ (wp_block (wp_loop_rounds 5 ?_)))
       refine rounds_k ?_
       intro K326 hK326
       refine wsk fun K327 hK327 => wsk fun K328 hK328 => wrl ?_
       iterate 2 refine sdm A λa A↦?_
       iterate 3 refine seq_skip A rfl rfl rfl λa A↦?_
       refine sdk (v := .bool false) A λa A↦?_
       refine seq_end (hK328 _ _ (wp_cond_false (A.ev rfl) ?_))
       refine wp_exit (hK324 _ _ (wsk fun K329 hK329 => wsk fun K330 hK330 => wrl ?_))
       iterate 2 refine sdm A λa A↦?_
       iterate 2 refine seq_skip A rfl rfl rfl λa A↦?_
       refine sdk (v := .bool false) A λa A↦?_
       refine seq_end (hK330 _ _ (wp_cond_false (A.ev rfl) ?_))
       refine wp_skip (hK329 _ _ (wsk fun K331 hK331 => wrl (sdm A λa A↦?_)))
       refine seq_end (hK331 _ _ (wp_cond_false (A.ev rfl) ?_))
       refine wsk fun K332 hK332 => wrl ?_
       iterate 2 refine sdm A λa A↦?_
       refine sdo (v := .agg #[.int .i32 0, .bool true, .int .i64 (((i : Nat) : Int))]) A (does_build rfl (fun w => by kernel_rfl)) λa A↦?_
       refine s_litE (e := 80) (sz := 3) (m := 1) (vs := [.int .i32 0, .bool true, .int .i64 (((i : Nat) : Int))]) A M rfl rfl rfl (does_buildSlice rfl (by kernel_rfl)) rfl rfl (.inl (by decide)) ?_
       intro g333 w334 M a A
       refine s_appendE (e := 80) (sz := 3) (k := 1) (q := acc.length) (m := 1) (xs := (unitV acc)) (news := [.int .i32 0, .bool true, .int .i64 (((i : Nat) : Int))]) (L' := fun v335 => (.row 80 3 (.slice (some ⟨g333, 0, none⟩) 1 1) 1 ([.int .i32 0, .bool true, .int .i64 (((i : Nat) : Int))]) :: .row 80 3 (v335) (acc.length + 1) ((unitV acc) ++ [.int .i32 0, .bool true, .int .i64 (((i : Nat) : Int))]) :: [])) A rfl rfl rfl (m_appendE (z := .agg #[.int .i32 0, .bool false, .int .i64 0]) (sz := 3) (by_ := 16) Tryz.underlying77 (by kernel_rfl) rfl rfl rfl M 1 rfl rfl 0 rfl rfl rfl rfl (by omega)) (fun _ => rfl) ?_
       intro v335 w336 M a A
       refine sda A λa A↦?_
       refine seq_end (hK332 _ _ (wrl (sdm A λa A↦?_)))
       refine sdo (v := .int .i64 (((i + 1 : Nat) : Int))) A (does_bin rfl rfl (ar_add ((in_i64 (by omega) (by omega)).trans (by omega)))) λa A↦?_
       refine sda A λa A↦?_
       refine seq_end ?_
       have hd : decodeN (l.length - i) (l.getD i 0).toNat (l.getD (i + 1) 0).toNat (l.getD (i + 2) 0).toNat (l.getD (i + 3) 0).toNat = (65533, 1) := by
        unfold Lib.decodeN
        repeat' split
        all_goals first | rfl | (exfalso; omega) | (refine Prod.ext ?_ rfl; show (_ : Nat) = _; omega)
       have hr9 : uR (65533) 1 = (-1) := by unfold uR; rw [if_pos ⟨rfl, by decide⟩]
       have hs9 := restU_step (show i < l.length by omega) hd
       rw [hr9] at hs9
       replace M : Mg w w336 [.row 80 3 v335 (acc ++ [((i : Int), (-1))]).length (unitV (acc ++ [((i : Int), (-1))]))] := by
        have h9 := M.sub (.cons _ (.cons_cons _ (.refl _)))
        have e9 : unitV (acc ++ [((i : Int), (-1))]) = unitV acc ++ [.int .i32 0, .bool true, .int .i64 (((i : Nat) : Int))] := by
         unfold unitV
         rw [List.flatMap_append, List.flatMap_singleton]
         rw [if_pos rfl]
        rw [e9, List.length_append]
        exact h9
       refine hK8 _ _ _ (by omega) ⟨i + 1, acc ++ [((i : Int), (-1))], v335, rfl, ⟨by rw [← hrun, hs9, List.append_assoc]; rfl, by omega, by rw [List.length_append]; simp only [List.length_cons, List.length_nil]; omega⟩, A.keep _ ⟨rfl, rfl, rfl, rfl, rfl, trivial⟩, M⟩
     ·
      have hb223' := ne_of_beq_false hb223
      refine sdo (v := .bool false) A (does_bin rfl rfl (fun w => (bin_eql w).trans (by rw [hb223]))) λa A↦?_
      refine sda A λa A↦?_
      refine seq_end (hK222 _ _ (wp_cond_false (A.ev rfl) ?_))
      refine wp_skip (hK15 _ _ (wsk fun K337 hK337 => wrl (sdm A λa A↦?_)))
      refine sdo (v := .bool false) A (does_bin rfl rfl (fun w => by kernel_rfl)) λa A↦?_
      refine sdm A λa A↦?_
      iterate 6 refine seq_skip A rfl rfl rfl λa A↦?_
      refine sdk (v := .bool false) A λa A↦?_
      refine sda A λa A↦?_
      refine seq_end (hK337 _ _ (wsk fun K338 hK338 => wsk fun K339 hK339 => wrl (sda A λa A↦?_)))
      refine seq_end (hK339 _ _ (wp_block (wp_loop_rounds 5 ?_)))
      refine rounds_k ?_
      intro K340 hK340
      refine wsk fun K341 hK341 => wsk fun K342 hK342 => wrl ?_
      iterate 2 refine sdm A λa A↦?_
      iterate 3 refine seq_skip A rfl rfl rfl λa A↦?_
      refine sdk (v := .bool false) A λa A↦?_
      refine seq_end (hK342 _ _ (wp_cond_false (A.ev rfl) ?_))
      refine wp_exit (hK338 _ _ (wsk fun K343 hK343 => wsk fun K344 hK344 => wrl ?_))
      iterate 2 refine sdm A λa A↦?_
      iterate 2 refine seq_skip A rfl rfl rfl λa A↦?_
      refine sdk (v := .bool false) A λa A↦?_
      refine seq_end (hK344 _ _ (wp_cond_false (A.ev rfl) ?_))
      refine wp_skip (hK343 _ _ (wsk fun K345 hK345 => wrl (sdm A λa A↦?_)))
      refine seq_end (hK345 _ _ (wp_cond_false (A.ev rfl) ?_))
      refine wsk fun K346 hK346 => wrl ?_
      iterate 2 refine sdm A λa A↦?_
      refine sdo (v := .agg #[.int .i32 0, .bool true, .int .i64 (((i : Nat) : Int))]) A (does_build rfl (fun w => by kernel_rfl)) λa A↦?_
      refine s_litE (e := 80) (sz := 3) (m := 1) (vs := [.int .i32 0, .bool true, .int .i64 (((i : Nat) : Int))]) A M rfl rfl rfl (does_buildSlice rfl (by kernel_rfl)) rfl rfl (.inl (by decide)) ?_
      intro g347 w348 M a A
      refine s_appendE (e := 80) (sz := 3) (k := 1) (q := acc.length) (m := 1) (xs := (unitV acc)) (news := [.int .i32 0, .bool true, .int .i64 (((i : Nat) : Int))]) (L' := fun v349 => (.row 80 3 (.slice (some ⟨g347, 0, none⟩) 1 1) 1 ([.int .i32 0, .bool true, .int .i64 (((i : Nat) : Int))]) :: .row 80 3 (v349) (acc.length + 1) ((unitV acc) ++ [.int .i32 0, .bool true, .int .i64 (((i : Nat) : Int))]) :: [])) A rfl rfl rfl (m_appendE (z := .agg #[.int .i32 0, .bool false, .int .i64 0]) (sz := 3) (by_ := 16) Tryz.underlying77 (by kernel_rfl) rfl rfl rfl M 1 rfl rfl 0 rfl rfl rfl rfl (by omega)) (fun _ => rfl) ?_
      intro v349 w350 M a A
      refine sda A λa A↦?_
      refine seq_end (hK346 _ _ (wrl (sdm A λa A↦?_)))
      refine sdo (v := .int .i64 (((i + 1 : Nat) : Int))) A (does_bin rfl rfl (ar_add ((in_i64 (by omega) (by omega)).trans (by omega)))) λa A↦?_
      refine sda A λa A↦?_
      refine seq_end ?_
      have hd : decodeN (l.length - i) (l.getD i 0).toNat (l.getD (i + 1) 0).toNat (l.getD (i + 2) 0).toNat (l.getD (i + 3) 0).toNat = (65533, 1) := by
       unfold Lib.decodeN
       repeat' split
       all_goals first | rfl | (exfalso; omega) | (refine Prod.ext ?_ rfl; show (_ : Nat) = _; omega)
      have hr9 : uR (65533) 1 = (-1) := by unfold uR; rw [if_pos ⟨rfl, by decide⟩]
      have hs9 := restU_step (show i < l.length by omega) hd
      rw [hr9] at hs9
      replace M : Mg w w350 [.row 80 3 v349 (acc ++ [((i : Int), (-1))]).length (unitV (acc ++ [((i : Int), (-1))]))] := by
       have h9 := M.sub (.cons _ (.cons_cons _ (.refl _)))
       have e9 : unitV (acc ++ [((i : Int), (-1))]) = unitV acc ++ [.int .i32 0, .bool true, .int .i64 (((i : Nat) : Int))] := by
        unfold unitV
        rw [List.flatMap_append, List.flatMap_singleton]
        rw [if_pos rfl]
       rw [e9, List.length_append]
       exact h9
      refine hK8 _ _ _ (by omega) ⟨i + 1, acc ++ [((i : Int), (-1))], v349, rfl, ⟨by rw [← hrun, hs9, List.append_assoc]; rfl, by omega, by rw [List.length_append]; simp only [List.length_cons, List.length_nil]; omega⟩, A.keep _ ⟨rfl, rfl, rfl, rfl, rfl, trivial⟩, M⟩
 ·
  have hb12' := of_decide_eq_false hb12
  refine sdo (v := .bool false) A (does_bin rfl rfl (fun w => (bin_lss w).trans (by rw [hb12]))) λa A↦?_
  refine seq_end (hK11 _ _ (wp_cond_false (A.ev rfl) ?_))
  refine wp_exit (hK5 _ _ (wsk fun K351 hK351 => wrl (sdm A λa A↦?_)))
  refine sda A λa A↦?_
  refine seq_end (hK351 _ _ (wp_ret (hret _ _ (en1 A rfl (res_tmp rfl) ?_))))
  rw [restU_over (by omega), List.append_nil] at hrun
  subst hrun
  exact ⟨_, rfl, M⟩
theorem owns_sliceE {w : World} {B : Nat} {e : TypeId} {sz : Nat} {v : Value} {n : Nat} {xs : List Value} (h : w.ownsRow B e sz v n xs) : ∃ so cap, v = .slice so n cap := by
  rcases h.2 with ⟨rfl, rfl⟩ | ⟨g, cap, cur, rfl, _⟩
  · exact ⟨none, 0, rfl⟩
  · exact ⟨_, cap, rfl⟩
section
variable {P : Program} {w0 w : World} {L : List Ck} {l : List (Nat × Value)} {dst : Option Tmp} {ty : TypeId} {pos : String} {after : Array Edge} {guard : Option (Nat × Bool)} {v : Value}
theorem does_convC {w' : World} {s d : TypeId} {x : Operand} {u : Value} (hx : ev l x = some u) (hr : (convert s d u).run P w = .ok v w') : Does P l ⟨dst, .convert s d x, ty, pos, after, guard⟩ w v w' := fun ρ h => by
  simp only [execOp, h x _ hx, Sem.run_bind, hr, Result.andThen_ok, Sem.run_pure]
theorem row_addr (hM : Mg w0 w L) (k : Nat) {e : TypeId} {sz n cap : Nat} {so : Option Addr} {xs : List Value} (hk : L[k]? = some (.row e sz (.slice so n cap) n xs)) (hn : 0 < n) : ∃ g, so = some ⟨g, 0, none⟩ := by
  rcases (hM.has k hk).2 with ⟨_, h0⟩ | ⟨g, cap', cur, he, _⟩
  · omega
  · cases he; exact ⟨g, rfl⟩
theorem does_indexX {t e : TypeId} {sz : Nat} (hu : P.underlying t = some (.slice e)) (he : (P.info? e).map (·.size) = some sz) {x i : Operand} {so : Option Addr} {g n c k : Nat} {z : Int} (hx : ev l x = some (.slice so n c)) (hi : ev l i = some (.int .i64 z)) (hz : z = (k : Nat)) (hso : so = some ⟨g, 0, none⟩) (hk : k < n) :
    Does P l ⟨dst, .indexAddr t x i, ty, pos, after, guard⟩ w (.pointer (some ⟨g, k * sz, none⟩)) w := by
  subst hso
  exact does_indexE hu he hx hi hz hk
theorem m_loadX (hM : Mg w0 w L) (k : Nat) {e : TypeId} {sz g n c j : Nat} {so : Option Addr} {xs : List Value} (hk : L[k]? = some (.row e sz (.slice so n c) n xs)) (hso : so = some ⟨g, 0, none⟩) (hj : xs[j]? = some v) {t : TypeId} (ht : Is1 P t) {x : Operand} (hx : ev l x = some (.pointer (some ⟨g, j, none⟩))) : Does P l ⟨dst, .load t x, ty, pos, after, guard⟩ w v w := by
  subst hso
  exact m_loadE hM k hk hj ht hx
end
section
variable {P : Program} {w0 w : World} {L : List Ck} {l : List (Nat × Value)} {ops : List Oper} {Q : Exit → Act → World → Prop} {a : Act} {n : Nat} {rest : List Oper} {d : Nat} {dst : Option Tmp} {ty : TypeId} {pos : String} {after : Array Edge} {guard : Option (Nat × Bool)}
/-- A text as bytes. -/
theorem s_bytes (hA : Sl a n l) (hM : Mg w0 w L) {t t' : TypeId} {x : Operand} {s : ByteArray} {o : Oper} (ho : o = ⟨dst, .convert t t' x, ty, pos, after, guard⟩) (ht : P.underlying t = some .string) (hd : P.underlying t' = some (.slice BY)) (he : P.underlying BY = some (.int .u8)) (hx : ev l x = some (.string s)) (hg : passes l ops o = true) (hdst : o.dst = some d) (hdn : Nat.blt d n = true)
    (hk : ∀ so cap w', Rb w' so s.data.toList → Mg w0 w' L → ∀ a', Sl a' n ((d, .slice so s.data.toList.length cap) :: l) → wpList P ops.toArray Q rest a' w') : wpList P ops.toArray Q (o :: rest) a w := by
  subst ho
  have hr := Go.Lib.run_convert_string_bytes (P := P) w t t' BY s ht hd he
  have hb : Below w.heap.size w (bytesWorld w BY s) := ⟨rfl, rfl, rfl, by rw [bytesWorld_size]; omega, fun j hj => bytesWorld_at_old w BY s j hj⟩
  refine seq_do hA hg hdst hdn (v := .slice (some ⟨w.heap.size, 0, none⟩) s.data.toList.length (grownCap w s.size 0 BY)) (w' := bytesWorld w BY s) (does_convC hx (by rw [size_toList]; exact hr)) (hk _ _ _ ⟨fun _ => ⟨w.heap.size, 0, rfl, by rw [bytesWorld_size]; omega, fun j hj => ?_⟩⟩ (hM.call hb))
  rw [size_toList] at hj
  rw [Nat.zero_add]
  exact bytesWorld_cell w BY s j hj
end
theorem unitV_cons (u : Int × Int) (us : List (Int × Int)) : unitV (u :: us) = (if u.2 = -1 then [.int .i32 0, .bool true, .int .i64 u.1] else [.int .i32 u.2, .bool false, .int .i64 u.1]) ++ unitV us := rfl
theorem unitV_at : ∀ (us : List (Int × Int)) (i f : Nat) (u : Int × Int), us[i]? = some u → f < 3 → (unitV us)[i * 3 + f]? = (if u.2 = -1 then [Value.int .i32 0, .bool true, .int .i64 u.1] else [.int .i32 u.2, .bool false, .int .i64 u.1])[f]?
  | [], i, f, u, h, hf => by simp at h
  | v :: us, 0, f, u, h, hf => by
    simp only [List.getElem?_cons_zero, Option.some.injEq] at h
    subst h
    rw [unitV_cons, Nat.zero_mul, Nat.zero_add, List.getElem?_append_left]
    split <;> exact hf
  | v :: us, i + 1, f, u, h, hf => by
    rw [List.getElem?_cons_succ] at h
    rw [unitV_cons, List.getElem?_append_right (by split <;> (simp only [List.length_cons, List.length_nil]; omega))]
    have e : (i + 1) * 3 + f - (if v.2 = -1 then [Value.int .i32 0, .bool true, .int .i64 v.1] else [.int .i32 v.2, .bool false, .int .i64 v.1]).length = i * 3 + f := by
      split <;> (simp only [List.length_cons, List.length_nil]; omega)
    rw [e]
    exact unitV_at us i f u h hf
theorem unit_get {us : List (Int × Int)} {i : Nat} (h : i < us.length) : ∃ ua ur, us[i]? = some (ua, ur) := ⟨_, _, List.getElem?_eq_getElem h⟩
/-! ### Encode -/
theorem units_lenF : ∀ (f p : Nat) (l : List UInt8), (unitsF f p l).length ≤ l.length
  | 0, _, _ => Nat.zero_le _
  | f + 1, p, l => by
    by_cases hl : l = []
    · subst hl; simp [unitsF]
    · rw [unitsF_cons hl, List.length_cons]
      have h1 := units_lenF f (p + (decodeL l).2) (l.drop (decodeL l).2)
      have h2 := decode_wide l hl
      rw [List.length_drop] at h1
      omega
theorem dec_fffd (l : List UInt8) (h : (decodeL l).1 = 65533) : (decodeL l).2 = 1 ∨ (decodeL l).2 = 3 ∨ (decodeL l).2 = 0 := by
  rw [decodeL_N] at h ⊢
  generalize (l.getD 0 0).toNat = b0 at h ⊢
  generalize (l.getD 1 0).toNat = b1 at h ⊢
  generalize (l.getD 2 0).toNat = b2 at h ⊢
  generalize (l.getD 3 0).toNat = b3 at h ⊢
  unfold decodeN at h ⊢
  repeat' split
  all_goals (simp_all)
  all_goals omega
theorem validGo_units : ∀ (f p : Nat) (l : List UInt8), validGoD f l = (unitsF f p l).all (fun u => !decide (u.2 = -1))
  | 0, p, l => rfl
  | f + 1, p, l => by
    unfold validGoD unitsF
    by_cases hl : l = []
    · rw [if_pos hl, if_pos hl]; rfl
    · rw [if_neg hl, if_neg hl, List.all_cons]
      have hw := decode_wide l hl
      have h3 := dec_fffd l
      by_cases hb : (decodeL l).1 = 65533 ∧ (decodeL l).2 = 1
      · rw [if_pos hb]
        have : uR (decodeL l).1 (decodeL l).2 = -1 := by unfold uR; rw [if_pos ⟨hb.1, by omega⟩]
        rw [this]; rfl
      · rw [if_neg hb]
        have : ¬ uR (decodeL l).1 (decodeL l).2 = -1 := by
          unfold uR
          by_cases h9 : (decodeL l).1 = 65533
          · rw [if_neg (by have := h3 h9; omega)]; omega
          · rw [if_neg (fun e => h9 e.1)]; omega
        rw [decide_eq_false this, validGo_units f (p + (decodeL l).2)]
        simp
theorem okS_units (s : ByteArray) : okS s = (unitsU s.data.toList).all (fun u => !decide (u.2 = -1)) := validGo_units _ 0 _
theorem okS_bad {s : ByteArray} {i : Nat} {ua ur : Int} (h : (unitsU s.data.toList)[i]? = some (ua, ur)) (hr : ur = -1) : okS s = false := by
  rw [okS_units]
  apply Bool.eq_false_iff.2
  intro k
  have := List.all_eq_true.1 k _ (List.mem_of_getElem? h)
  simp [hr] at this
theorem okS_good {s : ByteArray} (h : ∀ (i : Nat) (ua ur : Int), (unitsU s.data.toList)[i]? = some (ua, ur) → ur ≠ -1) : okS s = true := by
  rw [okS_units, List.all_eq_true]
  intro u hu
  obtain ⟨i, hi⟩ := List.mem_iff_getElem?.1 hu
  simp [h i u.1 u.2 hi]
theorem TrA_is1_28 : Is1 Tryz.prog 28 := ⟨⟨_, Tryz.underlying28, rfl⟩, by kernel_rfl⟩
theorem TrA_is1_3 : Is1 Tryz.prog 3 := ⟨⟨_, Tryz.underlying3, rfl⟩, by kernel_rfl⟩
theorem TrA_fld_30_0 : FieldAt Tryz.prog 30 0 0 := ⟨_, _, Tryz.underlying30, rfl, rfl, by kernel_rfl⟩
theorem TrA_fld_30_5 : FieldAt Tryz.prog 30 5 10 := ⟨_, _, Tryz.underlying30, rfl, rfl, by kernel_rfl⟩
/-- The walk of the size of a datum. -/
def FitsAt (t : Dt) : Prop := ∀ {w0 w : World} {b o gl : Nat} {left dp : Int} {T : List Ck}, t.rd w0 → Here w0 b o t.cells → Mg w0 w (.obj gl (.cells #[.int .i64 left] 3) :: T) → 0 ≤ left → left ≤ 20000 → 0 ≤ dp → dp ≤ 201 → Calls Tryz.prog 50 #[.pointer (some ⟨b, o, none⟩), .int .i64 dp, .pointer (some ⟨gl, 0, none⟩)] w fun e w' => e = .returned (.bool (fitT dp left t.tr).1) ∧ Mg w0 w' (.obj gl (.cells #[.int .i64 (fitT dp left t.tr).2] 3) :: T)
theorem fitsAt_all : ∀ t : Dt, FitsAt t := Dt.indT fun d ts ih => by
 intro w0 w b o gl left dp T hrd hH hM0 hl0 hl1 hd0 hd1
 replace hH : Here w0 b o (d.cells ts.length) := hH
 have hok := (Dt.rd_iff.1 hrd)
 have hk0 := hok.1.k0
 have hk1 := hok.1.k1
 have hlen : ts.length ≤ 9223372036854775807 := Nat.le_trans hok.2.1 hok.2.2.1
 have M : Mg w0 w (.obj gl (.cells #[.int .i64 left] 3) :: T) := hM0
 refine walk_of (l := [(0, .pointer (some ⟨b, o, none⟩)), (1, .int .i64 dp), (2, .pointer (some ⟨gl, 0, none⟩))]) Tryz.func50 rfl Tryz.ntmps50 rfl rfl ?_
 intro Q hret hnorm hP a A
 refine wsk fun K1 hK1 => wrl (sda A λa A↦?_)
 refine seq_end (hK1 _ _ (wsk fun K2 hK2 => wrl (sdm A λa A↦?_)))
 refine sdo A (does_nilp rfl) λa A↦?_
 refine sdo A (m_load1 M TrA_is1_3 rfl 0 rfl rfl) λa A↦?_
 refine sdo (v := .int .i64 (left - 1)) A (does_bin rfl rfl (bin_sub (i64In (by omega) (by omega)))) λa A↦?_
 refine sdo A (does_nilp rfl) λa A↦?_
 refine s_store (us := [.int .i64 (left - 1)]) (L' := (.obj gl (.cells #[.int .i64 (left - 1)] 3) :: T)) A M rfl rfl (m_store rfl rfl rfl (by kernel_rfl) M 0 rfl rfl rfl) 0 rfl rfl rfl ?_
 intro w3 M
 refine seq_end (hK2 _ _ (wsk fun K4 hK4 => wsk fun K5 hK5 => wrl (sdm A λa A↦?_)))
 refine sdo A (does_nilp rfl) λa A↦?_
 refine sdo A (m_load1 M TrA_is1_3 rfl 0 rfl rfl) λa A↦?_
 rcases tf (decide (left - 1 < 0)) with hb6 | hb6
 ·
  have hb6' := of_decide_eq_true hb6
  refine sdo (v := .bool true) A (does_bin rfl rfl (fun w => (bin_lss w).trans (by rw [hb6]))) λa A↦?_
  refine sdm A λa A↦?_
  iterate 2 refine seq_skip A rfl rfl rfl λa A↦?_
  refine sdk (v := .bool true) A λa A↦?_
  refine seq_end (hK5 _ _ (wp_cond_true (A.ev rfl) ?_))
  refine wsk fun K7 hK7 => wrl (sda A λa A↦?_)
  refine seq_end (hK7 _ _ (wp_ret (hret _ _ (en1 A rfl (res_tmp rfl) ?_))))
  rw [fitT_no (by omega)]
  exact ⟨rfl, M⟩
 ·
  have hb6' := of_decide_eq_false hb6
  refine sdo (v := .bool false) A (does_bin rfl rfl (fun w => (bin_lss w).trans (by rw [hb6]))) λa A↦?_
  iterate 2 refine sdm A λa A↦?_
  rcases tf (decide (200 < dp)) with hb8 | hb8
  ·
   have hb8' := of_decide_eq_true hb8
   refine sdo (v := .bool true) A (does_bin rfl rfl (fun w => (bin_gtr w).trans (by rw [hb8]))) λa A↦?_
   refine sdk (v := .bool true) A λa A↦?_
   refine seq_end (hK5 _ _ (wp_cond_true (A.ev rfl) ?_))
   refine wsk fun K9 hK9 => wrl (sda A λa A↦?_)
   refine seq_end (hK9 _ _ (wp_ret (hret _ _ (en1 A rfl (res_tmp rfl) ?_))))
   rw [fitT_no (by omega)]
   exact ⟨rfl, M⟩
  ·
   have hb8' := of_decide_eq_false hb8
   refine sdo (v := .bool false) A (does_bin rfl rfl (fun w => (bin_gtr w).trans (by rw [hb8]))) λa A↦?_
   refine sdk (v := .bool false) A λa A↦?_
   refine seq_end (hK5 _ _ (wp_cond_false (A.ev rfl) ?_))
   refine wp_skip (hK4 _ _ (wsk fun K10 hK10 => wsk fun K11 hK11 => wrl (sdm A λa A↦?_)))
   refine sdo A (does_nilp rfl) λa A↦?_
   refine sdo (v := .pointer (some ⟨b, o + 10, none⟩)) A (does_field TrA_fld_30_5 rfl rfl) λa A↦?_
   refine sdo A (m_loadH (j := 10) M hH TrA_is1_28 rfl rfl rfl) λa A↦?_
   refine sdo A (does_len Tryz.underlying28 rfl) λa A↦?_
   refine sdm A λa A↦?_
   refine seq_end (hK11 _ _ (wp_block (wp_loop_n (fun m_ a w1 => ∃ (i : Nat) (m : Int), m_ = 1 + (ts.length - i) ∧ (i ≤ ts.length ∧ fitL dp (decide (d.k = 8)) 0 (left - 1) ((ts.map Dt.tr).drop 0) = fitL dp (decide (d.k = 8)) i m ((ts.map Dt.tr).drop i) ∧ 0 ≤ m ∧ m ≤ 20000) ∧ Sl a 53 [(0, .pointer (some ⟨b, o, none⟩)), (1, .int .i64 dp), (2, .pointer (some ⟨gl, 0, none⟩)), (9, .pointer (some ⟨gl, 0, none⟩)), (10, .pointer (some ⟨gl, 0, none⟩)), (11, .int .i64 left), (12, .int .i64 (left - 1)), (13, .pointer (some ⟨gl, 0, none⟩)), (14, .pointer (some ⟨gl, 0, none⟩)), (15, .pointer (some ⟨gl, 0, none⟩)), (16, .int .i64 (left - 1)), (17, .bool false), (18, .bool false), (19, .int .i64 dp), (20, .bool false), (21, .bool false), (22, .pointer (some ⟨b, o, none⟩)), (23, .pointer (some ⟨b, o, none⟩)), (24, .pointer (some ⟨b, o + 10, none⟩)), (25, .slice d.lo ts.length d.lc), (26, .int .i64 (((ts.length : Nat) : Int))), (27, .int .i64 (((i : Nat) : Int)))] ∧ Mg w0 w1 (.obj gl (.cells #[.int .i64 m] 3) :: T)) _ ⟨0, left - 1, rfl, ⟨Nat.zero_le _, rfl, by omega, by omega⟩, A.keep _ ⟨rfl, rfl, rfl, rfl, rfl, rfl, rfl, rfl, rfl, rfl, rfl, rfl, rfl, rfl, rfl, rfl, rfl, rfl, rfl, rfl, rfl, rfl, trivial⟩, M⟩ ?_)))
   clear M A
   rintro m_ a w12 ⟨i, m, rfl, hinv14, A, M⟩ K13 hK13
   obtain ⟨hi0, hin9, hm0, hm1⟩ := hinv14
   refine wsk fun K15 hK15 => wrl ?_
   rcases tf (decide (((i : Nat) : Int) < ((ts.length : Nat) : Int))) with hb16 | hb16
   ·
    have hb16' := of_decide_eq_true hb16
    refine sdo (v := .bool true) A (does_bin rfl rfl (fun w => (bin_lss w).trans (by rw [hb16]))) λa A↦?_
    refine seq_end (hK15 _ _ (wsk fun K17 hK17 => wp_cond_true (A.ev rfl) ?_))
    refine wp_skip (hK17 _ _ (wsk fun K18 hK18 => wp_block (wsk fun K19 hK19 => wrl (sdm A λa A↦?_))))
    refine sda A λa A↦?_
    refine seq_end (hK19 _ _ (wsk fun K20 hK20 => wrl (sdm A λa A↦?_)))
    refine sdo (v := .int .i64 (dp + 1)) A (does_bin rfl rfl (bin_add (i64In (by omega) (by omega)))) λa A↦?_
    refine sda A λa A↦?_
    refine seq_end (hK20 _ _ (wsk fun K21 hK21 => wsk fun K22 hK22 => wrl (sdm A λa A↦?_)))
    refine sdo A (does_nilp rfl) λa A↦?_
    refine sdo (v := .pointer (some ⟨b, o, none⟩)) A (does_field TrA_fld_30_0 rfl rfl) λa A↦?_
    refine sdo A (m_loadH (j := 0) M hH TrA_is1_3 rfl rfl rfl) λa A↦?_
    rcases tf ((d.k == 8)) with hb23 | hb23
    ·
     have hb23' := eq_of_beq hb23
     refine sdo (v := .bool true) A (does_bin rfl rfl (fun w => (bin_eql w).trans (by rw [hb23]))) λa A↦?_
     iterate 2 refine sdm A λa A↦?_
     rcases tf ((((i : Nat) : Int) == 1)) with hb24 | hb24
     ·
      have hb24' := eq_of_beq hb24
      refine sdo (v := .bool true) A (does_bin rfl rfl (fun w => (bin_eql w).trans (by rw [hb24]))) λa A↦?_
      refine sdk (v := .bool true) A λa A↦?_
      refine seq_end (hK22 _ _ (wp_cond_true (A.ev rfl) ?_))
      refine wrl (sdm A λa A↦?_)
      refine sda A λa A↦?_
      refine seq_end (hK21 _ _ (wsk fun K25 hK25 => ?_))
      obtain ⟨t1, b1, o1, hi1, hm1, hr1, hl1, hH1⟩ := kid hrd (i := i) (by omega)
      have hD : (if decide (d.k = 8) = true ∧ i = 1 then dp else dp + 1) = dp := if_pos ⟨decide_eq_true hb23', by omega⟩
      refine wrl (sdm A λa A↦?_)
      refine sdo A (does_nilp rfl) λa A↦?_
      refine sdo (v := .pointer (some ⟨b, o + 10, none⟩)) A (does_field TrA_fld_30_5 rfl rfl) λa A↦?_
      refine sdo A (m_loadH (j := 10) M hH TrA_is1_28 rfl rfl rfl) λa A↦?_
      refine sdm A λa A↦?_
      refine sdo (v := .pointer (some ⟨b1, o1 + i * 11, none⟩)) A (does_indexD (k := i) Tryz.underlying28 (by kernel_rfl) rfl rfl rfl hl1 (by omega)) λa A↦?_
      iterate 2 refine sdm A λa A↦?_
      refine seq_call A rfl rfl rfl (enters_func rfl rfl (fun w => by kernel_rfl)) (ih t1 hm1 hr1 hH1 M (by omega) (by omega) (by omega) (by omega)) ?_
      rintro _ w27 ⟨rfl, hM26⟩
      replace M : Mg w0 w27 (.obj gl (.cells #[.int .i64 ((fitT (dp) m t1.tr).2)] 3) :: T) := hM26
      refine ⟨_, rfl, ?_⟩
      intro a A
      refine sdo (v := .bool (!((fitT (dp) m t1.tr).1))) A (does_un rfl un_not) λa A↦?_
      refine seq_end (hK25 _ _ ?_)
      refine wp_cond_split (t := !((fitT (dp) m t1.tr).1)) (A.ev rfl) (fun hc28 => ?_) (fun hc28 => ?_)
      ·
       refine wsk fun K29 hK29 => wrl (sda A λa A↦?_)
       refine seq_end (hK29 _ _ (wp_ret (hret _ _ (en1 A rfl (res_tmp rfl) ?_))))
       have hr9 : (fitT (dp) m t1.tr).1 = false := by simpa using hc28
       have e9 : fitT dp left (Dt.mk d ts).tr = (false, (fitT (dp) m t1.tr).2) := by rw [fitT_in (by omega) (by omega), hin9, fitL_stop hi1 hD hr9]
       rw [e9]
       exact ⟨rfl, M⟩
      ·
       refine wp_skip (hK18 _ _ (wrl (sdo (v := .int .i64 (((i + 1 : Nat) : Int))) A (does_bin rfl rfl (fun w => (bin_add (i64In (by omega) (by omega)) w).trans (by rw [show (((i : Nat) : Int) + 1 : Int) = ((i + 1 : Nat) : Int) from by omega]))) λa A↦?_)))
       refine sdm A λa A↦?_
       refine seq_end ?_
       have hr9 : (fitT (dp) m t1.tr).1 = true := by simpa using hc28
       have hp9 := fit_pos t1.tr _ _ hr9
       have hl9 := fit_le t1.tr (dp) m
       refine hK13 _ _ _ (by omega) ⟨i + 1, (fitT (dp) m t1.tr).2, rfl, ⟨by omega, by rw [hin9, fitL_go hi1 hD hr9], by omega, by omega⟩, A.keep _ ⟨rfl, rfl, rfl, rfl, rfl, rfl, rfl, rfl, rfl, rfl, rfl, rfl, rfl, rfl, rfl, rfl, rfl, rfl, rfl, rfl, rfl, rfl, trivial⟩, M⟩
     ·
      have hb24' := ne_of_beq_false hb24
      refine sdo (v := .bool false) A (does_bin rfl rfl (fun w => (bin_eql w).trans (by rw [hb24]))) λa A↦?_
      refine sdk (v := .bool false) A λa A↦?_
      refine seq_end (hK22 _ _ (wp_cond_false (A.ev rfl) ?_))
      refine wp_skip (hK21 _ _ (wsk fun K30 hK30 => ?_))
      obtain ⟨t1, b1, o1, hi1, hm1, hr1, hl1, hH1⟩ := kid hrd (i := i) (by omega)
      have hD : (if decide (d.k = 8) = true ∧ i = 1 then dp else dp + 1) = dp + 1 := if_neg (fun e => by omega)
      refine wrl (sdm A λa A↦?_)
      refine sdo A (does_nilp rfl) λa A↦?_
      refine sdo (v := .pointer (some ⟨b, o + 10, none⟩)) A (does_field TrA_fld_30_5 rfl rfl) λa A↦?_
      refine sdo A (m_loadH (j := 10) M hH TrA_is1_28 rfl rfl rfl) λa A↦?_
      refine sdm A λa A↦?_
      refine sdo (v := .pointer (some ⟨b1, o1 + i * 11, none⟩)) A (does_indexD (k := i) Tryz.underlying28 (by kernel_rfl) rfl rfl rfl hl1 (by omega)) λa A↦?_
      iterate 2 refine sdm A λa A↦?_
      refine seq_call A rfl rfl rfl (enters_func rfl rfl (fun w => by kernel_rfl)) (ih t1 hm1 hr1 hH1 M (by omega) (by omega) (by omega) (by omega)) ?_
      rintro _ w32 ⟨rfl, hM31⟩
      replace M : Mg w0 w32 (.obj gl (.cells #[.int .i64 ((fitT (dp + 1) m t1.tr).2)] 3) :: T) := hM31
      refine ⟨_, rfl, ?_⟩
      intro a A
      refine sdo (v := .bool (!((fitT (dp + 1) m t1.tr).1))) A (does_un rfl un_not) λa A↦?_
      refine seq_end (hK30 _ _ ?_)
      refine wp_cond_split (t := !((fitT (dp + 1) m t1.tr).1)) (A.ev rfl) (fun hc33 => ?_) (fun hc33 => ?_)
      ·
       refine wsk fun K34 hK34 => wrl (sda A λa A↦?_)
       refine seq_end (hK34 _ _ (wp_ret (hret _ _ (en1 A rfl (res_tmp rfl) ?_))))
       have hr9 : (fitT (dp + 1) m t1.tr).1 = false := by simpa using hc33
       have e9 : fitT dp left (Dt.mk d ts).tr = (false, (fitT (dp + 1) m t1.tr).2) := by rw [fitT_in (by omega) (by omega), hin9, fitL_stop hi1 hD hr9]
       rw [e9]
       exact ⟨rfl, M⟩
      ·
       refine wp_skip (hK18 _ _ (wrl (sdo (v := .int .i64 (((i + 1 : Nat) : Int))) A (does_bin rfl rfl (fun w => (bin_add (i64In (by omega) (by omega)) w).trans (by rw [show (((i : Nat) : Int) + 1 : Int) = ((i + 1 : Nat) : Int) from by omega]))) λa A↦?_)))
       refine sdm A λa A↦?_
       refine seq_end ?_
       have hr9 : (fitT (dp + 1) m t1.tr).1 = true := by simpa using hc33
       have hp9 := fit_pos t1.tr _ _ hr9
       have hl9 := fit_le t1.tr (dp + 1) m
       refine hK13 _ _ _ (by omega) ⟨i + 1, (fitT (dp + 1) m t1.tr).2, rfl, ⟨by omega, by rw [hin9, fitL_go hi1 hD hr9], by omega, by omega⟩, A.keep _ ⟨rfl, rfl, rfl, rfl, rfl, rfl, rfl, rfl, rfl, rfl, rfl, rfl, rfl, rfl, rfl, rfl, rfl, rfl, rfl, rfl, rfl, rfl, trivial⟩, M⟩
    ·
     have hb23' := ne_of_beq_false hb23
     refine sdo (v := .bool false) A (does_bin rfl rfl (fun w => (bin_eql w).trans (by rw [hb23]))) λa A↦?_
     refine sdm A λa A↦?_
     iterate 2 refine seq_skip A rfl rfl rfl λa A↦?_
     refine sdk (v := .bool false) A λa A↦?_
     refine seq_end (hK22 _ _ (wp_cond_false (A.ev rfl) ?_))
     refine wp_skip (hK21 _ _ (wsk fun K35 hK35 => ?_))
     obtain ⟨t1, b1, o1, hi1, hm1, hr1, hl1, hH1⟩ := kid hrd (i := i) (by omega)
     have hD : (if decide (d.k = 8) = true ∧ i = 1 then dp else dp + 1) = dp + 1 := if_neg (fun e => hb23' (of_decide_eq_true e.1))
     refine wrl (sdm A λa A↦?_)
     refine sdo A (does_nilp rfl) λa A↦?_
     refine sdo (v := .pointer (some ⟨b, o + 10, none⟩)) A (does_field TrA_fld_30_5 rfl rfl) λa A↦?_
     refine sdo A (m_loadH (j := 10) M hH TrA_is1_28 rfl rfl rfl) λa A↦?_
     refine sdm A λa A↦?_
     refine sdo (v := .pointer (some ⟨b1, o1 + i * 11, none⟩)) A (does_indexD (k := i) Tryz.underlying28 (by kernel_rfl) rfl rfl rfl hl1 (by omega)) λa A↦?_
     iterate 2 refine sdm A λa A↦?_
     refine seq_call A rfl rfl rfl (enters_func rfl rfl (fun w => by kernel_rfl)) (ih t1 hm1 hr1 hH1 M (by omega) (by omega) (by omega) (by omega)) ?_
     rintro _ w37 ⟨rfl, hM36⟩
     replace M : Mg w0 w37 (.obj gl (.cells #[.int .i64 ((fitT (dp + 1) m t1.tr).2)] 3) :: T) := hM36
     refine ⟨_, rfl, ?_⟩
     intro a A
     refine sdo (v := .bool (!((fitT (dp + 1) m t1.tr).1))) A (does_un rfl un_not) λa A↦?_
     refine seq_end (hK35 _ _ ?_)
     refine wp_cond_split (t := !((fitT (dp + 1) m t1.tr).1)) (A.ev rfl) (fun hc38 => ?_) (fun hc38 => ?_)
     ·
      refine wsk fun K39 hK39 => wrl (sda A λa A↦?_)
      refine seq_end (hK39 _ _ (wp_ret (hret _ _ (en1 A rfl (res_tmp rfl) ?_))))
      have hr9 : (fitT (dp + 1) m t1.tr).1 = false := by simpa using hc38
      have e9 : fitT dp left (Dt.mk d ts).tr = (false, (fitT (dp + 1) m t1.tr).2) := by rw [fitT_in (by omega) (by omega), hin9, fitL_stop hi1 hD hr9]
      rw [e9]
      exact ⟨rfl, M⟩
     ·
      refine wp_skip (hK18 _ _ (wrl (sdo (v := .int .i64 (((i + 1 : Nat) : Int))) A (does_bin rfl rfl (fun w => (bin_add (i64In (by omega) (by omega)) w).trans (by rw [show (((i : Nat) : Int) + 1 : Int) = ((i + 1 : Nat) : Int) from by omega]))) λa A↦?_)))
      refine sdm A λa A↦?_
      refine seq_end ?_
      have hr9 : (fitT (dp + 1) m t1.tr).1 = true := by simpa using hc38
      have hp9 := fit_pos t1.tr _ _ hr9
      have hl9 := fit_le t1.tr (dp + 1) m
      refine hK13 _ _ _ (by omega) ⟨i + 1, (fitT (dp + 1) m t1.tr).2, rfl, ⟨by omega, by rw [hin9, fitL_go hi1 hD hr9], by omega, by omega⟩, A.keep _ ⟨rfl, rfl, rfl, rfl, rfl, rfl, rfl, rfl, rfl, rfl, rfl, rfl, rfl, rfl, rfl, rfl, rfl, rfl, rfl, rfl, rfl, rfl, trivial⟩, M⟩
   ·
    have hb16' := of_decide_eq_false hb16
    refine sdo (v := .bool false) A (does_bin rfl rfl (fun w => (bin_lss w).trans (by rw [hb16]))) λa A↦?_
    refine seq_end (hK15 _ _ (wsk fun K40 hK40 => wp_cond_false (A.ev rfl) ?_))
    refine wp_exit (hK10 _ _ (wsk fun K41 hK41 => wrl (sda A λa A↦?_)))
    refine seq_end (hK41 _ _ (wp_ret (hret _ _ (en1 A rfl (res_tmp rfl) ?_))))
    have e9 : fitT dp left (Dt.mk d ts).tr = (true, m) := by rw [fitT_in (by omega) (by omega), hin9, drop_kids (by omega), fitL]
    rw [e9]
    exact ⟨rfl, M⟩
end Go.Proofs.YtabjlejolmmeeaaGreatDoor.G
