/- Tn Tr Ts Tk Or La Lb Lc Ld Ta Jd JcA JcB Lh JcC JcD JcE TrA ShelfB -/
import Derived.Test.YtoopkbedjbnhhaaGreatDoorPimport15c
import Derived.Test.YtoopkbedjbnhhaaGreatDoorPimport15d
import Derived.Test.YtoopkbedjbnhhaaGreatDoorPimport15e
import Derived.Lib.ValidU
import Derived.Lib.Bytealg
import Derived.Test.YtoopkbedjbnhhaaGreatDoorProg
import Derived.Shelf.Small.Utf8
import Derived.Shelf.Small.Bits
import Derived.Shelf.Strconv.Itoa0
import Derived.Shelf.LaysM
import Derived.Shelf.Strconv.Clone
import Derived.Shelf.Slices.Equal
import Derived.Ground.Names2Prog
import Derived.Shelf.Slices.SearchI
import Derived.Shelf.Slices.Empties2
import Derived.Ground.SlgnProg
import Derived.Shelf.SlicesE.Clone
import Derived.Shelf.Unicode.ValidAny
set_option linter.unusedVariables false
set_option linter.unusedSimpArgs false
set_option maxHeartbeats 1000000
namespace Go.Proofs.YtoopkbedjbnhhaaGreatDoor.G
open Go.RowKit

structure Nu where
  q : Q6
  o1 : Option Addr
  c1 : Nat
  o2 : Option Addr
  c2 : Nat
  o3 : Option Addr
  c3 : Nat
  o4 : Option Addr
  c4 : Nat
def Nu.nm (w : World) (y : Nu) : Prop := Nm w y.q y.o1 y.c1 y.o2 y.c2 y.o3 y.c3 y.o4 y.c4
theorem Nu.below {w w' : World} {y : Nu} (h : y.nm w) (hb : Below w.heap.size w w') : y.nm w' := ⟨h.s1.below hb, h.s2.below hb, h.s3.below hb, h.s4.below hb⟩
def Nu.val (y : Nu) : Value := yt y.q y.o1 y.c1 y.o2 y.c2 y.o3 y.c3 y.o4 y.c4
theorem kr {P : Program} {w : World} {l : List (Nat × Value)} {dst : Option Tmp} {ty : TypeId} {pos : String} {after : Array Edge} {guard : Option (Nat × Bool)} {x : Operand} {a : Addr} (hx : ev l x = some (.pointer (some a))) : Does P l ⟨dst, .nilCheck x, ty, pos, after, guard⟩ w (.pointer (some a)) w := fun ρ h => by
  simp only [execOp, h x _ hx, Sem.run_pure]
structure Nd where
  k : Int
  n : Int
  y : Nu
  s : ByteArray
  ro : Option Addr
  rc : Nat
  rl : List UInt8
  lo : Option Addr
  lc : Nat
inductive Dt where
  | mk (d : Nd) (ts : List Dt)
def Dt.d : Dt → Nd
  | .mk d _ => d
def Dt.ts : Dt → List Dt
  | .mk _ ts => ts
def Nd.cells (d : Nd) (m : Nat) : List Value := [.int .i64 d.k, .int .i64 d.n, .bool d.y.q.b1, .slice d.y.o1 d.y.q.t1.length d.y.c1, .slice d.y.o2 d.y.q.q1.length d.y.c2, .bool d.y.q.b2, .slice d.y.o3 d.y.q.t2.length d.y.c3, .slice d.y.o4 d.y.q.q2.length d.y.c4, .string d.s, .slice d.ro d.rl.length d.rc, .slice d.lo m d.lc]
def Dt.cells (t : Dt) : List Value := t.d.cells t.ts.length
inductive Tr where
  | mk (k n : Int) (q : Q6) (s : ByteArray) (rl : List UInt8) (ts : List Tr)
def Tr.k : Tr → Int
  | .mk k _ _ _ _ _ => k
def Tr.n : Tr → Int
  | .mk _ n _ _ _ _ => n
def Tr.q : Tr → Q6
  | .mk _ _ q _ _ _ => q
def Tr.s : Tr → ByteArray
  | .mk _ _ _ s _ _ => s
def Tr.rl : Tr → List UInt8
  | .mk _ _ _ _ r _ => r
def Tr.ts : Tr → List Tr
  | .mk _ _ _ _ _ ts => ts
mutual
def Dt.tr : Dt → Tr
  | .mk d ts => .mk d.k d.n d.y.q d.s d.rl (Dt.trs ts)
def Dt.trs : List Dt → List Tr
  | [] => []
  | t :: ts => t.tr :: Dt.trs ts
end
theorem Dt.trs_map : ∀ ts : List Dt, Dt.trs ts = ts.map Dt.tr
  | [] => by simp [Dt.trs]
  | t :: ts => by simp [Dt.trs, Dt.trs_map ts]
mutual
theorem Dt.indT {P : Dt → Prop} (h : ∀ d ts, (∀ t ∈ ts, P t) → P (.mk d ts)) : ∀ t, P t
  | .mk d ts => h d ts (Dt.indL h ts)
theorem Dt.indL {P : Dt → Prop} (h : ∀ d ts, (∀ t ∈ ts, P t) → P (.mk d ts)) : ∀ ts : List Dt, ∀ t ∈ ts, P t
  | [], t, ht => by cases ht
  | u :: us, t, ht => by
    rcases List.mem_cons.1 ht with e | e
    · rw [e]; exact Dt.indT h u
    · exact Dt.indL h us t e
end
mutual
theorem Tr.indT {P : Tr → Prop} (h : ∀ k n q s rl ts, (∀ t ∈ ts, P t) → P (.mk k n q s rl ts)) : ∀ t, P t
  | .mk k n q s rl ts => h k n q s rl ts (Tr.indL h ts)
theorem Tr.indL {P : Tr → Prop} (h : ∀ k n q s rl ts, (∀ t ∈ ts, P t) → P (.mk k n q s rl ts)) : ∀ ts : List Tr, ∀ t ∈ ts, P t
  | [], t, ht => by cases ht
  | u :: us, t, ht => by
    rcases List.mem_cons.1 ht with e | e
    · rw [e]; exact Tr.indT h u
    · exact Tr.indL h us t e
end
def Here (w : World) (b o : Nat) (cs : List Value) : Prop := b < w.heap.size ∧ ∀ j v, cs[j]? = some v → w.cell? ⟨b, o + j, none⟩ = some v
theorem Here.below {w w' : World} {b o : Nat} {cs : List Value} (h : Here w b o cs) (hb : Below w.heap.size w w') : Here w' b o cs := ⟨Nat.lt_of_lt_of_le h.1 hb.size, fun j v hj => (hb.cell h.1).trans (h.2 j v hj)⟩
def Rt (w : World) (lo : Option Addr) (ts : List Dt) : Prop := ts ≠ [] → ∃ b o, lo = some ⟨b, o, none⟩ ∧ ∀ i t, ts[i]? = some t → Here w b (o + i * 11) t.cells
theorem Rt.below {w w' : World} {lo : Option Addr} {ts : List Dt} (h : Rt w lo ts) (hb : Below w.heap.size w w') : Rt w' lo ts := fun hne => by
  obtain ⟨b, o, e, h2⟩ := h hne
  exact ⟨b, o, e, fun i t hi => (h2 i t hi).below hb⟩
structure NdOk (w : World) (d : Nd) : Prop where
  num : d.y.nm w
  len : LenQ d.y.q
  raw : Rb w d.ro d.rl
  rcap : d.rl.length ≤ d.rc
  rmax : d.rc ≤ 9223372036854775807
  k0 : -9223372036854775808 ≤ d.k
  k1 : d.k ≤ 9223372036854775807
  n0 : -9223372036854775808 ≤ d.n
  n1 : d.n ≤ 9223372036854775807
  smax : d.s.size ≤ 9223372036854775807
theorem NdOk.below {w w' : World} {d : Nd} (h : NdOk w d) (hb : Below w.heap.size w w') : NdOk w' d := { h with num := Nu.below h.num hb, raw := h.raw.below hb }
mutual
def Dt.rd (w : World) : Dt → Prop
  | .mk d ts => NdOk w d ∧ ts.length ≤ d.lc ∧ d.lc ≤ 9223372036854775807 ∧ Rt w d.lo ts ∧ Dt.rds w ts
def Dt.rds (w : World) : List Dt → Prop
  | [] => True
  | t :: ts => t.rd w ∧ Dt.rds w ts
end
theorem Dt.rds_iff {w : World} : ∀ {ts : List Dt}, Dt.rds w ts ↔ ∀ t ∈ ts, t.rd w
  | [] => by simp [Dt.rds]
  | t :: ts => by simp [Dt.rds, Dt.rds_iff (ts := ts)]
theorem Dt.rd_iff {w : World} {d : Nd} {ts : List Dt} : (Dt.mk d ts).rd w ↔ NdOk w d ∧ ts.length ≤ d.lc ∧ d.lc ≤ 9223372036854775807 ∧ Rt w d.lo ts ∧ ∀ t ∈ ts, t.rd w := by
  rw [← Dt.rds_iff]; unfold Dt.rd; exact Iff.rfl
theorem Dt.keep {w w' : World} (hb : Below w.heap.size w w') : ∀ t : Dt, t.rd w → t.rd w' :=
  Dt.indT fun d ts ih h => by
    rw [Dt.rd_iff] at h ⊢
    exact ⟨h.1.below hb, h.2.1, h.2.2.1, h.2.2.2.1.below hb, fun t ht => ih t ht (h.2.2.2.2 t ht)⟩
theorem Dt.tr_mk (d : Nd) (ts : List Dt) : (Dt.mk d ts).tr = .mk d.k d.n d.y.q d.s d.rl (ts.map Dt.tr) := by rw [Dt.tr, Dt.trs_map]
mutual
def xf (dp left : Int) : Tr → Bool × Int
  | .mk k _ _ _ _ ts => if left - 1 < 0 ∨ 200 < dp then (false, left - 1) else uj dp (decide (k = 8)) 0 (left - 1) ts
def uj (dp : Int) (pr : Bool) (i : Nat) (left : Int) : List Tr → Bool × Int
  | [] => (true, left)
  | t :: ts => if (xf (if pr = true ∧ i = 1 then dp else dp + 1) left t).1 = true then uj dp pr (i + 1) (xf (if pr = true ∧ i = 1 then dp else dp + 1) left t).2 ts else (false, (xf (if pr = true ∧ i = 1 then dp else dp + 1) left t).2)
end
mutual
def xl (p : Tr → Bool) : Tr → Bool
  | .mk k n q s rl ts => p (.mk k n q s rl ts) && qdc p ts
def qdc (p : Tr → Bool) : List Tr → Bool
  | [] => true
  | t :: ts => xl p t && qdc p ts
end
mutual
def qcd (p : Tr → Bool) (dp left : Int) : Tr → Int
  | .mk k n q s rl ts => if 200 < dp ∨ left ≤ 0 ∨ p (.mk k n q s rl ts) = false then -1 else qed p dp (decide (k = 8)) 0 (left - 1) ts
def qed (p : Tr → Bool) (dp : Int) (pr : Bool) (i : Nat) (left : Int) : List Tr → Int
  | [] => left
  | t :: ts => if left < 0 then left else qed p dp pr (i + 1) (qcd p (if pr = true ∧ i = 1 then dp else dp + 1) left t) ts
end
theorem qje {p : Tr → Bool} {dp left : Int} {pr : Bool} {i : Nat} {ts : List Tr} (h : left < 0) : qed p dp pr i left ts = left := by
  cases ts with
  | nil => rfl
  | cons t ts => rw [qed, if_pos h]
def Agree (p : Tr → Bool) (t : Tr) : Prop := ∀ dp left : Int, 0 ≤ left → qcd p dp left t = if (xf dp left t).1 = true ∧ xl p t = true then (xf dp left t).2 else -1
theorem qbc : ∀ t : Tr, ∀ dp left : Int, (xf dp left t).1 = true → 0 ≤ (xf dp left t).2 := by
  refine Tr.indT fun k n q s rl ts ih dp left h => ?_
  rw [xf] at h ⊢
  by_cases hc : left - 1 < 0 ∨ 200 < dp
  · rw [if_pos hc] at h; cases h
  · rw [if_neg hc] at h ⊢
    have hl : 0 ≤ left - 1 := by omega
    generalize left - 1 = m at h hl ⊢
    generalize decide (k = 8) = pr at h ⊢
    have key : ∀ (us : List Tr), (∀ t ∈ us, ∀ dp left : Int, (xf dp left t).1 = true → 0 ≤ (xf dp left t).2) → ∀ (i : Nat) (m : Int), 0 ≤ m → (uj dp pr i m us).1 = true → 0 ≤ (uj dp pr i m us).2 := by
      intro us
      induction us with
      | nil => intro _ i m hm _; exact hm
      | cons t us ih2 =>
        intro hu i m hm h
        rw [uj] at h ⊢
        by_cases ht : (xf (if pr = true ∧ i = 1 then dp else dp + 1) m t).1 = true
        · rw [if_pos ht] at h ⊢
          exact ih2 (fun x hx => hu x (List.mem_cons_of_mem _ hx)) _ _ (hu t List.mem_cons_self _ _ ht) h
        · rw [if_neg ht] at h; cases h
    exact key ts ih 0 m hl h
theorem qog (p : Tr → Bool) : ∀ t : Tr, Agree p t := by
  refine Tr.indT fun k n q s rl ts ih dp left h0 => ?_
  rw [qcd, xf, xl]
  by_cases hd : 200 < dp
  · rw [if_pos (.inl hd), if_pos (show left - 1 < 0 ∨ 200 < dp from .inr hd), if_neg (by simp)]
  · by_cases hl : left ≤ 0
    · rw [if_pos (.inr (.inl hl)), if_pos (show left - 1 < 0 ∨ 200 < dp from .inl (by omega)), if_neg (by simp)]
    · rw [if_neg (show ¬ (left - 1 < 0 ∨ 200 < dp) by omega)]
      cases hp : p (.mk k n q s rl ts) with
      | false => rw [if_pos (.inr (.inr rfl)), if_neg (by simp)]
      | true =>
        rw [if_neg (by simp; omega), Bool.true_and]
        have hm : 0 ≤ left - 1 := by omega
        generalize left - 1 = m at hm ⊢
        generalize decide (k = 8) = pr
        have key : ∀ (us : List Tr), (∀ t ∈ us, Agree p t) → ∀ (i : Nat) (m : Int), 0 ≤ m → qed p dp pr i m us = if (uj dp pr i m us).1 = true ∧ qdc p us = true then (uj dp pr i m us).2 else -1 := by
          intro us
          induction us with
          | nil => intro _ i m hm; rw [qed, uj, qdc, if_pos ⟨rfl, rfl⟩]
          | cons t us ih2 =>
            intro hu i m hm
            rw [qed, uj, qdc, if_neg (by omega), hu t List.mem_cons_self _ _ hm]
            by_cases ht : (xf (if pr = true ∧ i = 1 then dp else dp + 1) m t).1 = true
            · cases ha : xl p t with
              | false =>
                rw [if_neg (by simp), if_neg (by simp), qje (by decide)]
              | true =>
                rw [if_pos ⟨ht, rfl⟩, if_pos ht, Bool.true_and]
                exact ih2 (fun x hx => hu x (List.mem_cons_of_mem _ hx)) _ _ (qbc t _ _ ht)
            · rw [if_neg (fun e => ht e.1), if_neg ht, if_neg (by simp), qje (by decide)]
        exact key ts ih 0 m hm
def ve (p : Tr → Bool) (t : Tr) : Bool := (xf 1 20000 t).1 && xl p t
theorem qui (p : Tr → Bool) (t : Tr) : decide (0 ≤ qcd p 1 20000 t) = ve p t := by
  rw [qog p t 1 20000 (by decide)]
  unfold ve
  by_cases h : (xf 1 20000 t).1 = true
  · cases ha : xl p t with
    | true =>
      rw [if_pos ⟨h, rfl⟩, h, Bool.and_self]
      exact decide_eq_true (qbc t _ _ h)
    | false => rw [if_neg (by simp), Bool.and_false]; rfl
  · rw [if_neg (fun e => h e.1), Bool.eq_false_iff.2 h]; rfl
section
variable {P : Program} {w0 w : World} {L : List Ck} {l : List (Nat × Value)} {dst : Option Tmp} {ty : TypeId} {pos : String} {after : Array Edge} {guard : Option (Nat × Bool)} {v : Value}
theorem vl (hM : Mg w0 w L) {b o o' j : Nat} {cs : List Value} (hH : Here w0 b o cs) {t : TypeId} (ht : Is1 P t) {x : Operand} (hx : ev l x = some (.pointer (some ⟨b, o', none⟩))) (ho : o' = o + j) (hv : cs[j]? = some v) : Does P l ⟨dst, .load t x, ty, pos, after, guard⟩ w v w := by
  subst ho
  exact jo hx (xa ht ((hM.bel.cell hH.1).trans (hH.2 j v hv)))
theorem jh (hM : Mg w0 w L) {b o n : Nat} {cs : List Value} (hH : Here w0 b o cs) {t : TypeId} (ht : IsS P t n) {x : Operand} (hx : ev l x = some (.pointer (some ⟨b, o, none⟩))) (hl : cs.length = n) : Does P l ⟨dst, .load t x, ty, pos, after, guard⟩ w (.agg cs.toArray) w :=
  jo hx (kp ht cs hl (fun j v hj => (hM.bel.cell hH.1).trans (hH.2 j v hj)))
theorem ze {t e : TypeId} {sz : Nat} (hu : P.underlying t = some (.slice e)) (he : (P.info? e).map (·.size) = some sz) {x i : Operand} {so : Option Addr} {g off n c k : Nat} {z : Int} (hx : ev l x = some (.slice so n c)) (hi : ev l i = some (.int .i64 z)) (hz : z = (k : Nat)) (hso : so = some ⟨g, off, none⟩) (hk : k < n) :
    Does P l ⟨dst, .indexAddr t x i, ty, pos, after, guard⟩ w (.pointer (some ⟨g, off + k * sz, none⟩)) w := by
  subst hz hso
  exact yj (l := l) (dst := dst) (ty := ty) (pos := pos) (after := after) (guard := guard) (w := w) hx hi (qjf hu he hk)
end
theorem kid {w : World} {d : Nd} {ts : List Dt} (h : (Dt.mk d ts).rd w) {i : Nat} (hi : i < ts.length) : ∃ t b o, ts[i]? = some t ∧ t ∈ ts ∧ t.rd w ∧ d.lo = some ⟨b, o, none⟩ ∧ Here w b (o + i * 11) t.cells := by
  rw [Dt.rd_iff] at h
  have hne : ts ≠ [] := fun e => by subst e; simp at hi
  obtain ⟨b, o, e, h2⟩ := h.2.2.2.1 hne
  have ht := List.getElem?_eq_getElem hi
  exact ⟨ts[i], b, o, ht, List.getElem_mem hi, h.2.2.2.2 _ (List.getElem_mem hi), e, h2 i _ ht⟩
theorem qee {ts : List Dt} {i : Nat} {t : Dt} (h : ts[i]? = some t) : (ts.map Dt.tr).drop i = t.tr :: (ts.map Dt.tr).drop (i + 1) := by
  obtain ⟨hi, rfl⟩ := List.getElem?_eq_some_iff.1 h
  rw [List.drop_eq_getElem_cons (by simpa using hi)]
  simp
theorem qfj {ts : List Dt} {i : Nat} (h : ¬ i < ts.length) : (ts.map Dt.tr).drop i = [] := List.drop_of_length_le (by simp; omega)
theorem qrg : ∀ t : Tr, ∀ dp left : Int, (xf dp left t).2 ≤ left := by
  refine Tr.indT fun k n q s rl ts ih dp left => ?_
  rw [xf]
  split
  · show left - 1 ≤ left; omega
  · have key : ∀ (us : List Tr), (∀ t ∈ us, ∀ dp left : Int, (xf dp left t).2 ≤ left) → ∀ (i : Nat) (m : Int), (uj dp (decide (k = 8)) i m us).2 ≤ m := by
      intro us
      induction us with
      | nil => intro _ i m; exact Int.le_refl _
      | cons t us ih2 =>
        intro hu i m
        rw [uj]
        generalize (if decide (k = 8) = true ∧ i = 1 then dp else dp + 1) = D
        have h1 := hu t List.mem_cons_self D m
        split
        · exact Int.le_trans (ih2 (fun x hx => hu x (List.mem_cons_of_mem _ hx)) _ _) h1
        · exact h1
    have := key ts ih 0 (left - 1)
    omega
theorem qrh {dp m D : Int} {pr : Bool} {i : Nat} {ts : List Dt} {t : Dt} (hi : ts[i]? = some t) (hD : (if pr = true ∧ i = 1 then dp else dp + 1) = D) (h : (xf D m t.tr).1 = true) : uj dp pr i m ((ts.map Dt.tr).drop i) = uj dp pr (i + 1) (xf D m t.tr).2 ((ts.map Dt.tr).drop (i + 1)) := by
  rw [qee hi, uj, hD, if_pos h]
theorem qga {dp m D : Int} {pr : Bool} {i : Nat} {ts : List Dt} {t : Dt} (hi : ts[i]? = some t) (hD : (if pr = true ∧ i = 1 then dp else dp + 1) = D) (h : (xf D m t.tr).1 = false) : uj dp pr i m ((ts.map Dt.tr).drop i) = (false, (xf D m t.tr).2) := by
  rw [qee hi, uj, hD, if_neg (by rw [h]; decide)]
theorem qhh {dp left : Int} {d : Nd} {ts : List Dt} (h1 : ¬ left - 1 < 0) (h2 : ¬ 200 < dp) : xf dp left (Dt.mk d ts).tr = uj dp (decide (d.k = 8)) 0 (left - 1) ((ts.map Dt.tr).drop 0) := by
  rw [Dt.tr_mk, xf, if_neg (by omega), List.drop_zero]
theorem zec {dp left : Int} {d : Nd} {ts : List Dt} (h : left - 1 < 0 ∨ 200 < dp) : xf dp left (Dt.mk d ts).tr = (false, left - 1) := by
  rw [Dt.tr_mk, xf, if_pos h]
theorem qri {p : Tr → Bool} {d : Nd} {ts : List Dt} : xl p (Dt.mk d ts).tr = (p (Dt.mk d ts).tr && qdc p ((ts.map Dt.tr).drop 0)) := by
  rw [Dt.tr_mk, xl, List.drop_zero]
theorem zed {p : Tr → Bool} {i : Nat} {ts : List Dt} {t : Dt} (hi : ts[i]? = some t) : qdc p ((ts.map Dt.tr).drop i) = (xl p t.tr && qdc p ((ts.map Dt.tr).drop (i + 1))) := by
  rw [qee hi, qdc]
theorem zee {p : Tr → Bool} {dp left : Int} {d : Nd} {ts : List Dt} (h1 : ¬ 200 < dp) (h2 : ¬ left ≤ 0) (h3 : p (Dt.mk d ts).tr = true) : qcd p dp left (Dt.mk d ts).tr = qed p dp (decide (d.k = 8)) 0 (left - 1) ((ts.map Dt.tr).drop 0) := by
  rw [Dt.tr_mk] at h3 ⊢
  rw [qcd, if_neg (by rw [h3]; simp; omega), List.drop_zero]
theorem qrj {p : Tr → Bool} {dp left : Int} {d : Nd} {ts : List Dt} (h : 200 < dp ∨ left ≤ 0 ∨ p (Dt.mk d ts).tr = false) : qcd p dp left (Dt.mk d ts).tr = -1 := by
  rw [Dt.tr_mk] at h ⊢
  rw [qcd, if_pos h]
theorem qsa {p : Tr → Bool} {dp m D : Int} {pr : Bool} {i : Nat} {ts : List Dt} {t : Dt} (hi : ts[i]? = some t) (hm : ¬ m < 0) (hD : (if pr = true ∧ i = 1 then dp else dp + 1) = D) : qed p dp pr i m ((ts.map Dt.tr).drop i) = qed p dp pr (i + 1) (qcd p D m t.tr) ((ts.map Dt.tr).drop (i + 1)) := by
  rw [qee hi, qed, if_neg hm, hD]
theorem zaf (p : Tr → Bool) (t : Tr) (dp left : Int) (h : 0 ≤ left) : -1 ≤ qcd p dp left t ∧ qcd p dp left t ≤ left := by
  rw [qog p t dp left h]
  split
  · rename_i hc
    exact ⟨by have := qbc t _ _ hc.1; omega, qrg t _ _⟩
  · exact ⟨by omega, by omega⟩
def ku (b : Bool) (m m' : Nat) : Bool := !b && (decide (m = 0) && decide (m' = 0))
def vw (n : Int) (b1 : Bool) (m1 m2 : Nat) (b2 : Bool) (m3 m4 : Nat) (s : ByteArray) (mr ml : Nat) : Bool := decide (n = 0) && (ku b1 m1 m2 && (ku b2 m3 m4 && (decide (s = ⟨#[]⟩) && (decide (mr = 0) && decide (ml = 0)))))
def yn (n : Int) : Bool := decide (0 ≤ n ∧ n ≤ 1114111 ∧ (n < 55296 ∨ 57343 < n))
def okS (s : ByteArray) : Bool := Lib.validD s.data.toList
def jw (k n : Int) (q : Q6) (s : ByteArray) (mr ml : Nat) : Bool :=
  if k = 1 ∨ k = 10 then vw n q.b1 q.t1.length q.q1.length q.b2 q.t2.length q.q2.length s mr ml
  else if k = 2 then decide (n = 0 ∨ n = 1) && vw 0 q.b1 q.t1.length q.q1.length q.b2 q.t2.length q.q2.length s mr ml
  else if k = 3 then jp q && vw n false 0 0 false 0 0 s mr ml
  else if k = 4 then yn n && vw 0 q.b1 q.t1.length q.q1.length q.b2 q.t2.length q.q2.length s mr ml
  else if k = 5 ∨ k = 6 ∨ k = 11 then okS s && vw n q.b1 q.t1.length q.q1.length q.b2 q.t2.length q.q2.length ⟨#[]⟩ mr ml
  else if k = 7 then vw n q.b1 q.t1.length q.q1.length q.b2 q.t2.length q.q2.length s 0 ml
  else if k = 8 then decide (ml = 2) && vw n q.b1 q.t1.length q.q1.length q.b2 q.t2.length q.q2.length s mr 0
  else if k = 9 then vw n q.b1 q.t1.length q.q1.length q.b2 q.t2.length q.q2.length s mr 0
  else false
def zl : Tr → Bool
  | .mk k n q s rl ts => jw k n q s rl.length ts.length
theorem ya {d : Nd} {ts : List Dt} : zl (Dt.mk d ts).tr = jw d.k d.n d.y.q d.s d.rl.length ts.length := by
  rw [Dt.tr_mk, zl, List.length_map]
mutual
def Tr.bulk : Tr → Nat
  | .mk _ _ q s rl ts => s.size + rl.length + (q.t1.length + q.q1.length + (q.t2.length + q.q2.length)) + 1 + Tr.bulks ts
def Tr.bulks : List Tr → Nat
  | [] => 0
  | t :: ts => t.bulk + Tr.bulks ts
end
theorem qbe {k n : Int} {q : Q6} {s : ByteArray} {rl : List UInt8} {ts : List Tr} : (Tr.mk k n q s rl ts).bulk = s.size + rl.length + (q.t1.length + q.q1.length + (q.t2.length + q.q2.length)) + 1 + Tr.bulks ts := by rw [Tr.bulk]
theorem qoi : ∀ {ts : List Tr} {t : Tr}, t ∈ ts → t.bulk ≤ Tr.bulks ts
  | u :: us, t, h => by
    rw [Tr.bulks]
    rcases List.mem_cons.1 h with e | e
    · subst e; omega
    · have := qoi e; omega
theorem qef {d : Nd} {ts : List Dt} {t : Dt} (h : t ∈ ts) : t.tr.bulk + d.s.size + 1 ≤ (Dt.mk d ts).tr.bulk := by
  rw [Dt.tr_mk, qbe]
  have := qoi (List.mem_map_of_mem (f := Dt.tr) h)
  omega
theorem qoj {d : Nd} {ts : List Dt} : d.s.size ≤ (Dt.mk d ts).tr.bulk := by
  rw [Dt.tr_mk, qbe]
  omega
open Go.RowKit Go.Lib
def Q6.none : Q6 := ⟨false, [], [], false, [], []⟩
theorem qve {b : Bool} {t u : List Nat} (h : ku b t.length u.length = true) : b = false ∧ t = [] ∧ u = [] := by
  unfold ku at h
  cases b <;> simp at h
  exact ⟨rfl, h.1, h.2⟩
theorem ks {n : Int} {q : Q6} {s : ByteArray} {mr ml : Nat} (h : vw n q.b1 q.t1.length q.q1.length q.b2 q.t2.length q.q2.length s mr ml = true) : n = 0 ∧ q = Q6.none ∧ s = ⟨#[]⟩ ∧ mr = 0 ∧ ml = 0 := by
  unfold vw at h
  simp only [Bool.and_eq_true, decide_eq_true_eq] at h
  obtain ⟨h1, h2, h3, h4, h5, h6⟩ := h
  obtain ⟨a1, a2, a3⟩ := qve h2
  obtain ⟨b1, b2, b3⟩ := qve h3
  refine ⟨h1, ?_, h4, h5, h6⟩
  cases q
  simp only at a1 a2 a3 b1 b2 b3
  subst a1 a2 a3 b1 b2 b3
  rfl
structure Bare (k n : Int) (q : Q6) (s : ByteArray) (mr ml : Nat) : Prop where
  hn : k ≠ 2 → k ≠ 4 → n = 0
  hq : k ≠ 3 → q = Q6.none
  hs : k ≠ 5 → k ≠ 6 → k ≠ 11 → s = ⟨#[]⟩
  hr : k ≠ 7 → mr = 0
  hl : k ≠ 8 → k ≠ 9 → ml = 0
  h8 : k = 8 → ml = 2
  h3 : k = 3 → jp q = true
  h0 : 1 ≤ k
  h1 : k ≤ 11
  h2 : k = 2 → n = 0 ∨ n = 1
  h4 : k = 4 → yn n = true
  h5 : k = 5 ∨ k = 6 ∨ k = 11 → okS s = true
theorem zag {k n : Int} {q : Q6} {s : ByteArray} {mr ml : Nat} (h : jw k n q s mr ml = true) : Bare k n q s mr ml := by
  unfold jw at h
  split at h
  · rename_i hk
    obtain ⟨a, b, c, d, e⟩ := ks h
    exact ⟨fun _ _ => a, fun _ => b, fun _ _ _ => c, fun _ => d, fun _ _ => e, fun _ => by omega, fun _ => by omega, by omega, by omega, fun _ => by omega, fun _ => by omega, fun _ => by omega⟩
  · split at h
    · rename_i hk
      simp only [Bool.and_eq_true, decide_eq_true_eq] at h
      obtain ⟨a, b, c, d, e⟩ := ks h.2
      exact ⟨fun _ _ => by omega, fun _ => b, fun _ _ _ => c, fun _ => d, fun _ _ => e, fun _ => by omega, fun _ => by omega, by omega, by omega, fun _ => h.1, fun _ => by omega, fun _ => by omega⟩
    · split at h
      · rename_i hk
        simp only [Bool.and_eq_true] at h
        obtain ⟨a, b, c, d, e⟩ := ks (q := Q6.none) h.2
        exact ⟨fun _ _ => a, fun _ => by omega, fun _ _ _ => c, fun _ => d, fun _ _ => e, fun _ => by omega, fun _ => h.1, by omega, by omega, fun _ => by omega, fun _ => by omega, fun _ => by omega⟩
      · split at h
        · rename_i hk
          simp only [Bool.and_eq_true] at h
          obtain ⟨a, b, c, d, e⟩ := ks h.2
          exact ⟨fun _ _ => by omega, fun _ => b, fun _ _ _ => c, fun _ => d, fun _ _ => e, fun _ => by omega, fun _ => by omega, by omega, by omega, fun _ => by omega, fun _ => h.1, fun _ => by omega⟩
        · split at h
          · rename_i hk
            simp only [Bool.and_eq_true] at h
            obtain ⟨a, b, c, d, e⟩ := ks h.2
            exact ⟨fun _ _ => a, fun _ => b, fun _ _ _ => by omega, fun _ => d, fun _ _ => e, fun _ => by omega, fun _ => by omega, by omega, by omega, fun _ => by omega, fun _ => by omega, fun _ => h.1⟩
          · split at h
            · rename_i hk
              obtain ⟨a, b, c, d, e⟩ := ks h
              exact ⟨fun _ _ => a, fun _ => b, fun _ _ _ => c, fun _ => by omega, fun _ _ => e, fun _ => by omega, fun _ => by omega, by omega, by omega, fun _ => by omega, fun _ => by omega, fun _ => by omega⟩
            · split at h
              · rename_i hk
                simp only [Bool.and_eq_true, decide_eq_true_eq] at h
                obtain ⟨a, b, c, d, e⟩ := ks h.2
                exact ⟨fun _ _ => a, fun _ => b, fun _ _ _ => c, fun _ => d, fun _ _ => by omega, fun _ => h.1, fun _ => by omega, by omega, by omega, fun _ => by omega, fun _ => by omega, fun _ => by omega⟩
              · split at h
                · rename_i hk
                  obtain ⟨a, b, c, d, e⟩ := ks h
                  exact ⟨fun _ _ => a, fun _ => b, fun _ _ _ => c, fun _ => d, fun _ _ => by omega, fun _ => by omega, fun _ => by omega, by omega, by omega, fun _ => by omega, fun _ => by omega, fun _ => by omega⟩
                · cases h
theorem Dt.eta (t : Dt) : Dt.mk t.d t.ts = t := by cases t; rfl
theorem zna {w : World} {t : Dt} (h : t.rd w) {i : Nat} (hi : i < t.ts.length) : ∃ t1 b o, t.ts[i]? = some t1 ∧ t1 ∈ t.ts ∧ t1.rd w ∧ t.d.lo = some ⟨b, o, none⟩ ∧ Here w b (o + i * 11) (t1.d.cells t1.ts.length) := kid (d := t.d) (by rw [Dt.eta]; exact h) hi
theorem qpa {t c : Dt} (h : c ∈ t.ts) : c.tr.bulk + t.d.s.size + 1 ≤ t.tr.bulk := by
  have := qef (d := t.d) h
  rwa [Dt.eta] at this
def hw (h n : Int) : Int := bits .xor .u64 (IntKind.u64.wrap (bits .xor .u64 h n * 1099511628211)) (IntKind.u64.wrap (bits .xor .u64 h n * 1099511628211) / 2 ^ 32)
def In {α : Type} (p : Nat → Prop) (so : Option Addr) (l : List α) : Prop := l ≠ [] → ∀ b o, so = some ⟨b, o, none⟩ → p b
theorem In.mono {α : Type} {p q : Nat → Prop} {so : Option Addr} {l : List α} (h : In p so l) (hp : ∀ b, p b → q b) : In q so l := fun hne b o e => hp b (h hne b o e)
structure Nd.at_ (p : Nat → Prop) (d : Nd) : Prop where
 i1 : In p d.y.o1 d.y.q.t1
 i2 : In p d.y.o2 d.y.q.q1
 i3 : In p d.y.o3 d.y.q.t2
 i4 : In p d.y.o4 d.y.q.q2
 i5 : In p d.ro d.rl
mutual
def Dt.at_ (p : Nat → Prop) : Dt → Prop
 | .mk d ts => d.at_ p ∧ In p d.lo ts ∧ Dt.ats p ts
def Dt.ats (p : Nat → Prop) : List Dt → Prop
 | [] => True
 | t :: ts => t.at_ p ∧ Dt.ats p ts
end
theorem Dt.ats_iff {p : Nat → Prop} : ∀ {ts : List Dt}, Dt.ats p ts ↔ ∀ t ∈ ts, t.at_ p
 | [] => by simp [Dt.ats]
 | t :: ts => by simp [Dt.ats, Dt.ats_iff (ts := ts)]
theorem Dt.at_iff {p : Nat → Prop} {d : Nd} {ts : List Dt} : (Dt.mk d ts).at_ p ↔ d.at_ p ∧ In p d.lo ts ∧ ∀ t ∈ ts, t.at_ p := by
 rw [← Dt.ats_iff]; unfold Dt.at_; exact Iff.rfl
theorem Nd.at_mono {p q : Nat → Prop} {d : Nd} (h : d.at_ p) (hp : ∀ b, p b → q b) : d.at_ q := ⟨h.i1.mono hp, h.i2.mono hp, h.i3.mono hp, h.i4.mono hp, h.i5.mono hp⟩
theorem Dt.at_mono {p q : Nat → Prop} (hp : ∀ b, p b → q b) : ∀ t : Dt, t.at_ p → t.at_ q :=
 Dt.indT fun d ts ih h => by
  rw [Dt.at_iff] at h ⊢
  exact ⟨Nd.at_mono h.1 hp, h.2.1.mono hp, fun t ht => ih t ht (h.2.2 t ht)⟩
def Kept (p : Nat → Prop) (w w' : World) : Prop := w.heap.size ≤ w'.heap.size ∧ ∀ b i v, p b → w.cell? ⟨b, i, none⟩ = some v → w'.cell? ⟨b, i, none⟩ = some v
theorem znb {p : Nat → Prop} {w w' : World} {so : Option Addr} {l : List Nat} (h : Rd w so l) (hi : In p so l) (hk : Kept p w w') : Rd w' so l := by
 refine ⟨h.dig, fun hne => ?_⟩
 obtain ⟨b, off, h1, h2, h3⟩ := h.pos hne
 exact ⟨b, off, h1, Nat.lt_of_lt_of_le h2 hk.1, fun j hj => hk.2 _ _ _ (hi hne _ _ h1) (h3 j hj)⟩
theorem znc {p : Nat → Prop} {w w' : World} {so : Option Addr} {l : List UInt8} (h : Rb w so l) (hi : In p so l) (hk : Kept p w w') : Rb w' so l := by
 refine ⟨fun hne => ?_⟩
 obtain ⟨b, off, h1, h2, h3⟩ := h.pos hne
 exact ⟨b, off, h1, Nat.lt_of_lt_of_le h2 hk.1, fun j hj => hk.2 _ _ _ (hi hne _ _ h1) (h3 j hj)⟩
theorem qhi {p : Nat → Prop} {w w' : World} {so : Option Addr} {c : Nat} {l : List Nat} (h : Sc w so c l) (hi : In p so l) (hk : Kept p w w') : Sc w' so c l := ⟨znb h.rd hi hk, h.nil, h.cap⟩
theorem NdOk.kept {p : Nat → Prop} {w w' : World} {d : Nd} (h : NdOk w d) (hi : d.at_ p) (hk : Kept p w w') : NdOk w' d := { h with num := ⟨qhi h.num.s1 hi.i1 hk, qhi h.num.s2 hi.i2 hk, qhi h.num.s3 hi.i3 hk, qhi h.num.s4 hi.i4 hk⟩, raw := znc h.raw hi.i5 hk }
theorem Rt.kept {p : Nat → Prop} {w w' : World} {lo : Option Addr} {ts : List Dt} (h : Rt w lo ts) (hi : In p lo ts) (hk : Kept p w w') : Rt w' lo ts := fun hne => by
 obtain ⟨b, o, e, h2⟩ := h hne
 exact ⟨b, o, e, fun i t hi' => ⟨Nat.lt_of_lt_of_le (h2 i t hi').1 hk.1, fun j v hj => hk.2 _ _ _ (hi hne _ _ e) ((h2 i t hi').2 j v hj)⟩⟩
theorem Dt.kept {p : Nat → Prop} {w w' : World} (hk : Kept p w w') : ∀ t : Dt, t.rd w → t.at_ p → t.rd w' :=
 Dt.indT fun d ts ih h hi => by
  rw [Dt.rd_iff] at h ⊢
  rw [Dt.at_iff] at hi
  exact ⟨h.1.kept hi.1 hk, h.2.1, h.2.2.1, h.2.2.2.1.kept hi.2.1 hk, fun t ht => ih t ht (h.2.2.2.2 t ht) (hi.2.2 t ht)⟩
theorem qbf {w : World} {so : Option Addr} {l : List Nat} (h : Rd w so l) : In (· < w.heap.size) so l := fun hne b o e => by
 obtain ⟨b', off, h1, h2, _⟩ := h.pos hne
 rw [h1] at e; cases e; exact h2
theorem zah {w : World} {so : Option Addr} {l : List UInt8} (h : Rb w so l) : In (· < w.heap.size) so l := fun hne b o e => by
 obtain ⟨b', off, h1, h2, _⟩ := h.pos hne
 rw [h1] at e; cases e; exact h2
theorem zfj {w : World} {lo : Option Addr} {ts : List Dt} (h : Rt w lo ts) : In (· < w.heap.size) lo ts := fun hne b o e => by
 obtain ⟨b', o', h1, h2⟩ := h hne
 rw [h1] at e; cases e
 cases ts with
 | nil => exact absurd rfl hne
 | cons t ts => exact (h2 0 t rfl).1
theorem Dt.at_lt {w : World} : ∀ t : Dt, t.rd w → t.at_ (· < w.heap.size) :=
 Dt.indT fun d ts ih h => by
  rw [Dt.rd_iff] at h
  rw [Dt.at_iff]
  exact ⟨⟨qbf h.1.num.s1.rd, qbf h.1.num.s2.rd, qbf h.1.num.s3.rd, qbf h.1.num.s4.rd, zah h.1.raw⟩, zfj h.2.2.2.1, fun t ht => ih t ht (h.2.2.2.2 t ht)⟩
theorem Kept.trans {p : Nat → Prop} {w w' w'' : World} (h : Kept p w w') (k : Kept p w' w'') : Kept p w w'' := ⟨Nat.le_trans h.1 k.1, fun b i v hb hc => k.2 b i v hb (h.2 b i v hb hc)⟩
theorem Kept.mono {p q : Nat → Prop} {w w' : World} (h : Kept p w w') (hq : ∀ b, q b → p b) : Kept q w w' := ⟨h.1, fun b i v hb hc => h.2 b i v (hq b hb) hc⟩
theorem qvf (w : World) (g o : Nat) (cs : List Value) : Kept (· ≠ g) w (w.setCells g o cs) := by
 induction cs generalizing w o with
 | nil => exact ⟨Nat.le_refl _, fun _ _ _ _ h => h⟩
 | cons c cs ih =>
  refine Kept.trans ⟨by simp, fun b i v hb hc => ?_⟩ (ih (w.setCell ⟨g, o, none⟩ c) (o + 1))
  have : (w.setCell ⟨g, o, none⟩ c).cell? ⟨b, i, none⟩ = w.cell? ⟨b, i, none⟩ := by
   unfold World.cell?
   rw [Below.heap_setCell w ⟨g, o, none⟩ c b hb]
  rw [this]; exact hc
def cellsOf (ts : List Dt) : List Value := ts.flatMap Dt.cells
theorem qbg (t : Dt) : t.cells.length = 11 := rfl
theorem qgi : ∀ ts : List Dt, (cellsOf ts).length = ts.length * 11
 | [] => rfl
 | t :: ts => by
  have := qgi ts
  unfold cellsOf at this ⊢
  rw [List.flatMap_cons, List.length_append, qbg, this, List.length_cons]; omega
theorem qag (a b : List Dt) : cellsOf (a ++ b) = cellsOf a ++ cellsOf b := List.flatMap_append
theorem qeg : ∀ (ts : List Dt) (i : Nat), (cellsOf ts).drop (i * 11) = cellsOf (ts.drop i)
 | ts, 0 => by rw [Nat.zero_mul]; rfl
 | [], i + 1 => by simp [cellsOf]
 | t :: ts, i + 1 => by
  have := qeg ts i
  rw [List.drop_succ_cons, ← this]
  unfold cellsOf
  rw [List.flatMap_cons, show (i + 1) * 11 = t.cells.length + i * 11 by rw [qbg]; omega, List.drop_append, List.drop_of_length_le (by omega), Nat.add_sub_cancel_left, List.nil_append]
theorem zai {ts : List Dt} {i : Nat} {t : Dt} (h : ts[i]? = some t) : ((cellsOf ts).drop (i * 11)).take 11 = t.cells := by
 obtain ⟨hi, rfl⟩ := List.getElem?_eq_some_iff.1 h
 rw [qeg, List.drop_eq_getElem_cons hi]
 unfold cellsOf
 rw [List.flatMap_cons, show 11 = (ts[i]).cells.length from rfl, List.take_left]
theorem qsb {ts : List Dt} {i j : Nat} {t : Dt} {v : Value} (h : ts[i]? = some t) (hj : t.cells[j]? = some v) : (cellsOf ts)[i * 11 + j]? = some v := by
 have hlt : j < 11 := by have := (List.getElem?_eq_some_iff.1 hj).1; rwa [qbg] at this
 rw [← zai h, List.getElem?_take, if_pos hlt, List.getElem?_drop] at hj
 exact hj
theorem jr {w : World} {B : Nat} {e : TypeId} {so : Option Addr} {n cap : Nat} {ts : List Dt} (h : w.ownsRow B e 11 (.slice so n cap) n (cellsOf ts)) : Rt w so ts ∧ n = ts.length ∧ n ≤ cap ∧ cap ≤ 9223372036854775807 := by
 have hn : n = ts.length := by have := h.1; rw [qgi] at this; omega
 refine ⟨fun hne => ?_, hn, ?_⟩
 ·
  rcases h.2 with ⟨e1, e2⟩ | ⟨g, cap', cur, e1, hg, hc, h1, h2, h3, h4⟩
  ·
   subst e2; exact absurd (List.length_eq_zero_iff.1 hn.symm) hne
  ·
   cases e1
   refine ⟨g, 0, rfl, fun i t hi => ⟨(Array.getElem?_eq_some_iff.1 hc).1, fun j v hj => ?_⟩⟩
   have hlt : j < 11 := by have := (List.getElem?_eq_some_iff.1 hj).1; rwa [qbg] at this
   have hil := (List.getElem?_eq_some_iff.1 hi).1
   have h5 := qsb hi hj
   rw [← h4, List.getElem?_take, if_pos (by omega)] at h5
   rw [show (⟨g, 0 + i * 11 + j, none⟩ : Addr) = ⟨g, i * 11 + j, none⟩ by rw [Nat.zero_add], cell_of_row w g _ cur e (0, 0) hc]
   simpa using h5
 ·
  rcases h.2 with ⟨e1, e2⟩ | ⟨g, cap', cur, e1, hg, hc, h1, h2, h3, h4⟩
  ·
   cases e1; exact ⟨Nat.le_refl _, by omega⟩
  ·
   cases e1; refine ⟨h1, Nat.le_trans h2 ?_⟩; decide
section
variable {P : Program} {w0 w : World} {L : List Ck} {l : List (Nat × Value)} {dst : Option Tmp} {ty : TypeId} {pos : String} {after : Array Edge} {guard : Option (Nat × Bool)} {v : Value}
def Rc (w : World) (so : Option Addr) (cs : List Value) : Prop := cs ≠ [] → ∃ b off, so = some ⟨b, off, none⟩ ∧ ∀ p u, cs[p]? = some u → w.cell? ⟨b, off + p, none⟩ = some u
theorem Rc.below {w w' : World} {so : Option Addr} {cs : List Value} (h : Rc w so cs) (hb : Below w.heap.size w w') : Rc w' so cs := fun hne => by
  obtain ⟨b, off, e, h2⟩ := h hne
  exact ⟨b, off, e, fun p u hp => (hb.cell (cell_lt (h2 p u hp))).trans (h2 p u hp)⟩
theorem yb {w : World} {B : Nat} {e : TypeId} {sz n cap : Nat} {so : Option Addr} {xs : List Value} (h : w.ownsRow B e sz (.slice so n cap) n xs) : Rc w so xs := fun hne => by
  rcases h.2 with ⟨e1, e2⟩ | ⟨g, cap', cur, e1, hg, hc, h1, h2, h3, h4⟩
  · subst e2; exact absurd (List.length_eq_zero_iff.1 (by rw [h.1]; simp)) hne
  · cases e1
    exact ⟨g, 0, rfl, fun p u hp => by rw [Nat.zero_add, World.ownsRow.cellAt h p (by have := (List.getElem?_eq_some_iff.1 hp).1; rw [h.1] at this; exact this)]; exact hp⟩
theorem qdd {e t : TypeId} {sz by_ : Nat} {z : Value} {x y : Operand} (ht : P.underlying t = some (.slice e)) (hinfo : (P.info? e).map (fun i => (i.zero, i.size, i.bytes)) = some (some z, sz, by_)) (hzc : z.cells.size = sz) (hsz : Nat.ble 1 sz = true) (hby : Nat.ble by_ 1000 = true) (hM : Mg w0 w L) (k : Nat) {q : Nat} {xs : List Value} (hk : L[k]? = some (.row e sz v q xs)) (hx : ev l x = some v) {so : Option Addr} {m c2 : Nat} {news : List Value} (hy : ev l y = some (.slice so m c2)) (hnl : news.length = m * sz) (hr : Rc w so news) (h1 : ∀ u ∈ news, u.oneCell' = true) (hlen : q + m ≤ 1000000000) :
    ∃ v' w', Does P l ⟨dst, .call ⟨.builtin .append, #[x, y], #[t, t]⟩, ty, pos, after, guard⟩ w v' w' ∧ Mg w0 w' (L.set k (.row e sz v' (q + m) (xs ++ news))) := by
  obtain ⟨i, hi, hzz⟩ := Option.map_eq_some_iff.1 hinfo
  simp only [Prod.mk.injEq] at hzz
  obtain ⟨hz, hs, hb⟩ := hzz
  have hrow := hM.has k hk
  by_cases hm : m = 0
  · subst hm
    have h0 : news = [] := List.length_eq_zero_iff.1 (by rw [hnl]; simp)
    subst h0
    obtain ⟨so1, cap, hle, rfl⟩ : ∃ so1 cap, q ≤ cap ∧ v = .slice so1 q cap := by
      rcases hrow.2 with ⟨rfl, rfl⟩ | ⟨g, cap, cur, rfl, _, _, h, _⟩
      · exact ⟨none, 0, Nat.le_refl _, rfl⟩
      · exact ⟨_, cap, h, rfl⟩
    have h2 : (sizeOf e).run P w = .ok sz w := by simp [sizeOf, typeInfo, hi, hs]
    refine ⟨.slice so1 q cap, w, ?_, ?_⟩
    · intro ρ h
      cases so <;> cases so1 <;> simp [execOp, resolve, invoke, builtin, h x _ hx, h y _ hy, Builtin.append_, run_underlying ht, h2, Builtin.lenOf, Builtin.firstCells, loadCells, loadCellsFrom, storeCells, hle]
    · rw [show L.set k (.row e sz (.slice so1 q cap) (q + 0) (xs ++ [])) = L from by rw [List.append_nil]; exact qva hk]
      exact hM
  · have hne : news ≠ [] := fun e0 => by
      rw [e0] at hnl
      have h5 := Nat.le_of_ble_eq_true hsz
      have : 0 < m * sz := Nat.mul_pos (by omega) h5
      simp at hnl; omega
    obtain ⟨b, off, rfl, hcell⟩ := hr hne
    have hbig : (q + m) * by_ ≤ 140737488355328 := Nat.le_trans (Nat.mul_le_mul hlen (Nat.le_of_ble_eq_true hby)) (by decide)
    obtain ⟨g, cap, w', hr, hown, hgr, hat, hlt⟩ := run_append_lies (P := P) w t ty w0.heap.size e i z sz by_ ht hi hz hs hb hzc (Nat.le_of_ble_eq_true hsz) v q xs hrow ⟨b, off, none⟩ m c2 news hnl (fun p u hp => by
        rw [vq]
        exact hcell p u hp) h1 (by omega) (by unfold maxLen; omega) hbig hM.bel.size w.heap.size rfl
    refine ⟨.slice (some ⟨g, 0, none⟩) (q + m) cap, w', fun ρ h => ?_, hM.turn k hk (by simp) hgr hown (fun d hd ha => ?_)⟩
    · simp [execOp, resolve, invoke, builtin, h x _ hx, h y _ hy, hr]
    · have hl := Ck.lt (hM.all d hd)
      have key : ∀ z, d.at_ = some z → v.ownBlock ≠ some z → g ≠ z := fun z hz hne e => by
        subst e
        rcases hat with h | h
        · exact hne h
        · have := (hl g hz).2; omega
      cases d with
      | obj g' o' => exact fun e => key g' rfl ha (by simpa [Value.ownBlock] using e)
      | row e' sz' v' n' xs' =>
        right
        intro e
        have e2 : v'.ownBlock = some g := e.symm
        rcases ha with ha | ha
        · exact key g e2 (by rw [ha]; simp) rfl
        · exact key g e2 (fun h => ha (h.trans e2.symm)) rfl
      | bld b' bs' => exact ⟨ha.1, fun e => key b' rfl ha.2 (by simpa [Value.ownBlock] using e)⟩
theorem Mg.nilRow (h : Mg w0 w L) (hb : kh L) (e : TypeId) (sz : Nat) : Mg w0 w (.row e sz (.slice none 0 0) 0 [] :: L) := by
  refine h.add (Below.refl _ _) ⟨by simp, .inl ⟨rfl, rfl⟩⟩ (fun k hk => by cases hk) (.inr (.inl ⟨_, _, _, _, _, rfl, .inr hb⟩))
theorem zga (t : Dt) : ∀ u ∈ t.cells, u.oneCell' = true := by
  intro u hu
  unfold Dt.cells Nd.cells at hu
  simp only [List.mem_cons, List.not_mem_nil, or_false] at hu
  rcases hu with h | h | h | h | h | h | h | h | h | h | h <;> subst h <;> rfl
theorem qeh (ts : List Dt) : ∀ u ∈ cellsOf ts, u.oneCell' = true := by
  intro u hu
  unfold cellsOf at hu
  obtain ⟨t, _, ht⟩ := List.mem_flatMap.1 hu
  exact zga t u ht
section
variable {ops : List Oper} {Q : Exit → Act → World → Prop} {a : Act} {n : Nat} {o : Oper} {rest : List Oper} {d : Nat}
end
section
variable {ops : List Oper} {Q : Exit → Act → World → Prop} {a : Act} {n : Nat} {o : Oper} {S : World → Prop} {md : Region.Mode} {fuel : Nat} {listed : Array Bool}
end
end
theorem qhj {w : World} {B : Nat} {e : TypeId} {sz n cap : Nat} {so : Option Addr} {xs : List Value} (h : w.ownsRow B e sz (.slice so n cap) n xs) : n ≤ cap := by
  rcases h.2 with ⟨e1, e2⟩ | ⟨g, cap', cur, e1, hg, hc, h1, _⟩
  · cases e1; exact Nat.le_refl _
  · cases e1; exact h1
theorem qah {w : World} {B : Nat} {e : TypeId} {sz : Nat} {v : Value} {n : Nat} {xs : List Value} (h : w.ownsRow B e sz v n xs) : ∃ so cap, v = .slice so n cap := by
  rcases h.2 with ⟨rfl, rfl⟩ | ⟨g, cap, cur, rfl, _⟩
  · exact ⟨none, 0, rfl⟩
  · exact ⟨_, cap, rfl⟩
theorem qvg {w : World} {B : Nat} {e : TypeId} {sz : Nat} {v : Value} {n : Nat} {xs : List Value} (h : w.ownsRow B e sz v n xs) (hn : n ≠ 0) : ∃ g cap, v = .slice (some ⟨g, 0, none⟩) n cap := by
  rcases h.2 with ⟨rfl, rfl⟩ | ⟨g, cap, cur, rfl, _⟩
  · exact absurd rfl hn
  · exact ⟨g, cap, rfl⟩
def CsOk (B : Nat) (g : Nat) (w : World) (cs : List Dt) : Prop := ∀ t ∈ cs, t.rd w ∧ t.at_ (fun b => B ≤ b ∧ b ≠ g)
theorem CsOk.below {B g : Nat} {w w' : World} {cs : List Dt} (h : CsOk B g w cs) (hb : Below w.heap.size w w') : CsOk B g w' cs := fun t ht => ⟨Dt.keep hb _ (h t ht).1, (h t ht).2⟩
theorem CsOk.new {B g g' : Nat} {w w' w'' : World} {cs : List Dt} (h : CsOk B g w cs) (hg : w.heap.size ≤ g') (hb : Below w.heap.size w w') (hk : Kept (· ≠ g') w' w'') : CsOk B g w'' cs := fun t ht => ⟨Dt.kept hk _ (Dt.keep hb _ (h t ht).1) (Dt.at_mono (fun b hb' => by intro e; omega) _ (Dt.at_lt _ (h t ht).1)), (h t ht).2⟩
theorem CsOk.snoc {B g : Nat} {w w' : World} {cs : List Dt} {t : Dt} (h : CsOk B g w cs) (hr : t.rd w) (ha : t.at_ (fun b => B ≤ b ∧ b ≠ g)) (hk : Kept (· ≠ g) w w') : CsOk B g w' (cs ++ [t]) := fun u hu => by
  rcases List.mem_append.1 hu with h1 | h1
  · exact ⟨Dt.kept hk _ (h u h1).1 (Dt.at_mono (fun b hb => hb.2) _ (h u h1).2), (h u h1).2⟩
  · rw [List.mem_singleton.1 h1]
    exact ⟨Dt.kept hk _ hr (Dt.at_mono (fun b hb => hb.2) _ ha), ha⟩
def xk : Dt := .mk ⟨0, 0, ⟨Q6.zero, none, 0, none, 0, none, 0, none, 0⟩, ⟨#[]⟩, none, 0, [], none, 0⟩ []
def nilT : Tr := .mk 1 0 Q6.zero ⟨#[]⟩ [] []
def vj : List Tr → Tr → Tr
  | [], z => z
  | t :: ts, z => .mk 8 0 Q6.zero ⟨#[]⟩ [] [t, vj ts z]
theorem qgj : ∀ (a b : List Tr) (z : Tr), vj (a ++ b) z = vj a (vj b z)
  | [], _, _ => rfl
  | t :: a, b, z => by rw [List.cons_append, vj, vj, qgj a b z]
theorem qjg : ∀ {a b : List Tr} {y z : Tr}, y.k ≠ 8 → z.k ≠ 8 → vj a y = vj b z → a = b ∧ y = z
  | [], [], y, z, _, _, h => ⟨rfl, h⟩
  | [], t :: b, y, z, hy, _, h => absurd (by rw [vj, vj] at h; rw [h]; rfl) hy
  | t :: a, [], y, z, _, hz, h => absurd (by rw [vj, vj] at h; rw [← h]; rfl) hz
  | t :: a, u :: b, y, z, hy, hz, h => by
    rw [vj, vj] at h
    injection h with _ _ _ _ _ h
    injection h with h1 h2
    injection h2 with h2 _
    obtain ⟨h3, h4⟩ := qjg hy hz h2
    exact ⟨by rw [h1, h3], h4⟩
open Classical in
noncomputable def zw (t : Tr) : Option (List Tr) := if h : ∃ xs, t = vj xs nilT then some (Classical.choose h) else none
theorem qvh (xs : List Tr) : zw (vj xs nilT) = some xs := by
  have h : ∃ ys, vj xs nilT = vj ys nilT := ⟨xs, rfl⟩
  unfold zw
  rw [dif_pos h]
  have := Classical.choose_spec h
  rw [← (qjg (by decide) (by decide) this).1]
theorem zgb {xs : List Tr} {z : Tr} (h8 : z.k ≠ 8) (h1 : z.k ≠ 1) : zw (vj xs z) = none := by
  unfold zw
  rw [dif_neg]
  rintro ⟨ys, h⟩
  obtain ⟨_, h2⟩ := qjg h8 (by decide) h
  exact h1 (by rw [h2]; rfl)
theorem qpb {b : Bool} {t q : List Nat} (h : ku b t.length q.length = true) : b = false ∧ t = [] ∧ q = [] := by
  unfold ku at h
  simp only [Bool.and_eq_true, Bool.not_eq_true', decide_eq_true_eq] at h
  exact ⟨h.1, List.length_eq_zero_iff.1 h.2.1, List.length_eq_zero_iff.1 h.2.2⟩
theorem qjh {n : Int} {q : Q6} {s : ByteArray} {mr ml : Nat} (h : vw n q.b1 q.t1.length q.q1.length q.b2 q.t2.length q.q2.length s mr ml = true) : n = 0 ∧ q = Q6.zero ∧ s = ⟨#[]⟩ ∧ mr = 0 ∧ ml = 0 := by
  unfold vw at h
  simp only [Bool.and_eq_true, decide_eq_true_eq] at h
  obtain ⟨h1, h2, h3, h4, h5, h6⟩ := h
  obtain ⟨a1, a2, a3⟩ := qpb h2
  obtain ⟨b1, b2, b3⟩ := qpb h3
  refine ⟨h1, ?_, h4, h5, h6⟩
  cases q
  simp only at a1 a2 a3 b1 b2 b3
  subst a1 a2 a3 b1 b2 b3
  rfl
theorem zaj {n : Int} {q : Q6} {s : ByteArray} {rl : List UInt8} {ts : List Tr} (h : zl (.mk 8 n q s rl ts) = true) : n = 0 ∧ q = Q6.zero ∧ s = ⟨#[]⟩ ∧ rl = [] ∧ ts.length = 2 := by
  unfold zl jw at h
  simp at h
  obtain ⟨h1, h2⟩ := h
  obtain ⟨a, b, c, d, _⟩ := qjh h2
  exact ⟨a, b, c, List.length_eq_zero_iff.1 d, h1⟩
theorem zgc {n : Int} {q : Q6} {s : ByteArray} {rl : List UInt8} {ts : List Tr} (h : zl (.mk 1 n q s rl ts) = true) : Tr.mk 1 n q s rl ts = nilT := by
  unfold zl jw at h
  simp at h
  obtain ⟨a, b, c, d, e⟩ := qjh h
  rw [a, b, c, List.length_eq_zero_iff.1 d, List.length_eq_zero_iff.1 e]
  rfl
theorem zij {p : Tr → Bool} {ts : List Tr} : qdc p ts = true ↔ ∀ t ∈ ts, xl p t = true := by
  induction ts with
  | nil => simp [qdc]
  | cons t ts ih => simp [qdc, ih]
theorem qde {p : Tr → Bool} {t : Dt} (h : xl p t.tr = true) : p t.tr = true ∧ ∀ u ∈ t.ts, xl p u.tr = true := by
  cases t with
  | mk d ts =>
    rw [Dt.tr_mk, xl, Bool.and_eq_true, zij] at h
    refine ⟨by rw [Dt.tr_mk]; exact h.1, fun u hu => h.2 _ (List.mem_map_of_mem hu)⟩
theorem qsc {t : Dt} (h : xl zl t.tr = true) (hk : t.d.k = 8) : t.ts.length = 2 ∧ ∀ a b, t.ts[0]? = some a → t.ts[1]? = some b → t.tr = .mk 8 0 Q6.zero ⟨#[]⟩ [] [a.tr, b.tr] := by
  have h1 := (qde h).1
  cases t with
  | mk d ts =>
    rw [Dt.tr_mk] at h1 ⊢
    simp only [Dt.d] at hk
    rw [hk] at h1 ⊢
    obtain ⟨a1, a2, a3, a4, a5⟩ := zaj h1
    rw [List.length_map] at a5
    refine ⟨a5, fun a b ha hb => ?_⟩
    rw [a1, a2, a3, a4]
    simp only [Dt.ts] at ha hb a5
    match ts, a5 with
    | [x, y], _ =>
      simp at ha hb
      rw [ha, hb]
      rfl
theorem zrh {t : Dt} (h : xl zl t.tr = true) (hk : t.d.k = 1) : t.tr = nilT := by
  have h1 := (qde h).1
  cases t with
  | mk d ts =>
    rw [Dt.tr_mk] at h1 ⊢
    simp only [Dt.d] at hk
    rw [hk] at h1 ⊢
    exact zgc h1
theorem qvi (t : Dt) : t.tr.k = t.d.k := by cases t; rw [Dt.tr_mk]; rfl
theorem zgd {w : World} {so : Option Addr} {ts : List Dt} (hR : Rt w so ts) (hD : ∀ t ∈ ts, t.rd w) {i : Nat} (hi : i < ts.length) : ∃ t b o, ts[i]? = some t ∧ t ∈ ts ∧ t.rd w ∧ so = some ⟨b, o, none⟩ ∧ Here w b (o + i * 11) (t.d.cells t.ts.length) := by
  obtain ⟨b, o, e, h2⟩ := hR (fun k => by subst k; simp at hi)
  have ht := List.getElem?_eq_getElem hi
  exact ⟨ts[i], b, o, ht, List.getElem_mem hi, hD _ (List.getElem_mem hi), e, h2 i _ ht⟩
theorem qji {t : Dt} {xs : List Tr} {p : Dt} (h : t.tr = vj xs p.tr) (hs : xl zl p.tr = true) (hk : p.d.k = 1) : zw t.tr = some xs := by
  rw [h, zrh hs hk, qvh]
theorem qjj {t : Dt} {xs : List Tr} {p : Dt} (h : t.tr = vj xs p.tr) (h8 : p.d.k ≠ 8) (h1 : p.d.k ≠ 1) : zw t.tr = none := by
  rw [h, zgb (by rw [qvi]; exact h8) (by rw [qvi]; exact h1)]
theorem qpc {t : Dt} {xs : List Dt} {p a b : Dt} (h : t.tr = vj (xs.map Dt.tr) p.tr) (hs : xl zl p.tr = true) (hk : p.d.k = 8) (ha : p.ts[0]? = some a) (hb : p.ts[1]? = some b) : t.tr = vj ((xs ++ [a]).map Dt.tr) b.tr := by
  rw [h, (qsc hs hk).2 a b ha hb, List.map_append, qgj]
  rfl
theorem ul {p : Dt → Prop} {xs : List Dt} {a : Dt} (h : ∀ x ∈ xs, p x) (ha : p a) : ∀ x ∈ xs ++ [a], p x := fun x hx => by
  rcases List.mem_append.1 hx with k | k
  · exact h x k
  · rw [List.mem_singleton.1 k]; exact ha
theorem um {t : Tr} (h : ve zl t = true) : xl zl t = true := by unfold ve at h; rw [Bool.and_eq_true] at h; exact h.2
theorem yp (t : Dt) : 1 ≤ t.tr.bulk := by cases t; rw [Dt.tr_mk, qbe]; omega
def Lives (T : List Ck) (t : Dt) : Prop := ∀ w0 w, Mg w0 w T → t.rd w
theorem Lives.sub {T T' : List Ck} {t : Dt} (h : Lives T t) (hs : T.Sublist T') : Lives T' t := fun w0 w hM => h w0 w (hM.sub hs)
theorem Lives.cons {T : List Ck} {t : Dt} (h : Lives T t) (c : Ck) : Lives (c :: T) t := h.sub (List.sublist_cons_self _ _)
def froz (w : World) : Nat → Nat → List Ck
  | _, 0 => []
  | k, n + 1 => match w.heap[k]? with
    | some o => .obj k o :: froz w (k + 1) n
    | none => froz w (k + 1) n
theorem ue {w : World} : ∀ {n k : Nat} {c : Ck}, c ∈ froz w k n → ∃ b o, c = .obj b o ∧ k ≤ b ∧ w.heap[b]? = some o
  | 0, k, c, h => by cases h
  | n + 1, k, c, h => by
    rw [froz] at h
    cases e : w.heap[k]? with
    | none =>
      rw [e] at h
      obtain ⟨b, o, h1, h2, h3⟩ := ue (n := n) h
      exact ⟨b, o, h1, by omega, h3⟩
    | some o =>
      rw [e] at h
      rcases List.mem_cons.1 h with h | h
      · exact ⟨k, o, h, Nat.le_refl _, e⟩
      · obtain ⟨b, o, h1, h2, h3⟩ := ue (n := n) h
        exact ⟨b, o, h1, by omega, h3⟩
theorem qei {w : World} : ∀ {n k b : Nat} {o : Obj}, k ≤ b → b < k + n → w.heap[b]? = some o → Ck.obj b o ∈ froz w k n
  | 0, k, b, o, h1, h2, _ => by omega
  | n + 1, k, b, o, h1, h2, h => by
    rw [froz]
    by_cases e : k = b
    · subst e; rw [h]; exact List.mem_cons_self
    · have ih := qei (n := n) (k := k + 1) (b := b) (o := o) (by omega) (by omega) h
      cases w.heap[k]? with
      | none => exact ih
      | some o' => exact List.mem_cons_of_mem _ ih
theorem qgb {w : World} : ∀ (n k : Nat), (froz w k n).Pairwise Ap
  | 0, k => .nil
  | n + 1, k => by
    rw [froz]
    cases w.heap[k]? with
    | none => exact qgb n (k + 1)
    | some o =>
      refine List.pairwise_cons.2 ⟨fun c hc => ?_, qgb n (k + 1)⟩
      obtain ⟨b, o', rfl, h2, _⟩ := ue hc
      show k ≠ b
      omega
theorem zja {w : World} {n k : Nat} : kh (froz w k n) := fun c hc b bs e => by
  obtain ⟨b', o', h, _⟩ := ue hc
  rw [h] at e; cases e
def made (w w' : World) : List Ck := froz w' w.heap.size (w'.heap.size - w.heap.size)
theorem Mg.freeze {w0 w w' : World} {L : List Ck} (hM : Mg w0 w L) (hnb : kh L) (hb : Below w.heap.size w w') : Mg w0 w' (made w w' ++ L) := by
  have h2 := hM.call hb
  refine ⟨h2.bel, fun c hc => ?_, List.pairwise_append.2 ⟨qgb _ _, h2.dis, fun c hc d hd => ?_⟩⟩
  · rcases List.mem_append.1 hc with h | h
    · obtain ⟨b, o, rfl, h3, h4⟩ := ue h
      exact ⟨Nat.le_trans hM.bel.size h3, h4⟩
    · exact h2.all c h
  · obtain ⟨b, o, rfl, h3, h4⟩ := ue hc
    have hl := Ck.lt (hM.all d hd)
    cases d with
    | obj g' o' => intro e; subst e; have := (hl b rfl).2; omega
    | row e' sz' v' n' xs' => intro e; have := (hl b e).2; omega
    | bld b' bs' => exact absurd rfl (hnb _ hd b' bs')
theorem qvj {w w' : World} : kh (made w w') := zja
theorem qpd {L M : List Ck} (h : kh L) (k : kh M) : kh (L ++ M) := fun c hc => (List.mem_append.1 hc).elim (h c) (k c)
theorem Mg.freezeAt {w0 w w' : World} {L : List Ck} (hM : Mg w0 w L) (n : Nat) (hnb : kh L) (hb : Below w.heap.size w w') : Mg w0 w' (L.take n ++ (made w w' ++ L.drop n)) := by
  refine (hM.freeze hnb hb).perm ?_
  rw [← List.append_assoc]
  refine List.Perm.trans ?_ (List.Perm.append_right _ List.perm_append_comm)
  rw [List.append_assoc, List.take_append_drop]
section
variable {α : Type} (f : α → List Value) (m : Nat)
variable {f m} (hf : ∀ x, (f x).length = m)
end
def Ob (T : List Ck) (w : World) : Prop := ∀ b o, Ck.obj b o ∈ T → w.heap[b]? = some o
theorem Ob.below {T : List Ck} {w w' : World} (h : Ob T w) (hb : Below w.heap.size w w') : Ob T w' := fun b o hm => (hb.block b (Array.getElem?_eq_some_iff.1 (h b o hm)).1).trans (h b o hm)
theorem Ob.sub {T T' : List Ck} {w : World} (h : Ob T w) (hs : T' ⊆ T) : Ob T' w := fun b o hm => h b o (hs hm)
theorem Mg.ob {w0 w : World} {L T : List Ck} (hM : Mg w0 w L) (hT : T ⊆ L) : Ob T w := fun b o h => (hM.all _ (hT h)).2
theorem yg {w w' w1 : World} {L : List Ck} (hM : Mg w w' L) (hO : Ob (made w w') w1) : Ob L w1 := fun b o h => by
  have h2 := hM.all _ h
  have h3 : w'.heap[b]? = some o := h2.2
  have h4 : w.heap.size ≤ b := h2.1
  have hlt := (Array.getElem?_eq_some_iff.1 h3).1
  exact hO b o (qei h4 (by omega) h3)
theorem xw {w w' w1 : World} {L : List Ck} (hM : Mg w w' L) (hO : Ob L w1) (k : Nat) {g : Nat} {vs : List Value} {t : TypeId} (hk : L[k]? = some (.obj g (.cells vs.toArray t))) (j : Nat) {v : Value} (hj : vs[j]? = some v) : w1.cell? ⟨g, j, none⟩ = some v := by
  have h1 := hO g _ (List.mem_of_getElem? hk)
  rw [cell_of_row _ _ _ _ _ _ h1]
  simpa using hj
theorem yv {w w' w1 : World} {L : List Ck} (hM : Mg w w' L) (hO : Ob (made w w') w1) (k : Nat) {e : TypeId} {sz n ca : Nat} {so : Option Addr} {xs : List Value} (hk : L[k]? = some (.row e sz (.slice so n ca) n xs)) : Rc w1 so xs := by
  have h := hM.has k hk
  have h' : w'.ownsRow w.heap.size e sz (.slice so n ca) n xs := h
  rcases h'.2 with ⟨e1, e2⟩ | ⟨g, cap, cur, e1, hB, hc, h3⟩
  · intro hne; subst e2; exact absurd (List.length_eq_zero_iff.1 (by rw [h'.1]; simp)) hne
  · have hlt := (Array.getElem?_eq_some_iff.1 hc).1
    have h4 := hO g _ (qei (w := w') (k := w.heap.size) (n := w'.heap.size - w.heap.size) hB (by omega) hc)
    exact yb (w := w1) (B := w.heap.size) (e := e) (sz := sz) (n := n) (cap := ca) ⟨h'.1, .inr ⟨g, cap, cur, e1, hB, h4, h3⟩⟩
theorem Rc.at1 {w : World} {so : Option Addr} {cs : List Value} (h : Rc w so cs) {i : Nat} (hi : i < cs.length) : ∃ b off u, so = some ⟨b, off, none⟩ ∧ w.cell? ⟨b, off + i, none⟩ = some u ∧ cs[i]? = some u := by
  obtain ⟨b, off, e, h2⟩ := h (fun k => by rw [k] at hi; exact absurd hi (Nat.not_lt_zero _))
  exact ⟨b, off, cs[i], e, h2 i _ (List.getElem?_eq_getElem hi), List.getElem?_eq_getElem hi⟩
theorem vz {w : World} {b o : Nat} {v : Value} (h : w.cell? ⟨b, o, none⟩ = some v) : b < w.heap.size := by
  apply Classical.byContradiction
  intro k
  simp [World.cell?, Array.getElem?_eq_none (Nat.le_of_not_lt k)] at h
theorem jt {P : Program} {w0 w : World} {L : List Ck} {l : List (Nat × Value)} {dst : Option Tmp} {ty : TypeId} {pos : String} {after : Array Edge} {guard : Option (Nat × Bool)} {v : Value} (hM : Mg w0 w L) {b o : Nat} (hc : w0.cell? ⟨b, o, none⟩ = some v) {t : TypeId} (ht : Is1 P t) {x : Operand} (hx : ev l x = some (.pointer (some ⟨b, o, none⟩))) : Does P l ⟨dst, .load t x, ty, pos, after, guard⟩ w v w :=
  jo hx (xa ht ((hM.bel.cell (vz hc)).trans hc))
def izC (xs : List Int) : List Value := xs.map (.int .i64 ·)
theorem zne (a b : List Int) : izC a ++ izC b = izC (a ++ b) := by simp [izC]
theorem ztb (a : List Int) : (izC a).length = a.length * 1 := by simp [izC]
theorem uz (a : List Int) : (izC a).length = a.length := by simp [izC]
theorem znf (l : List Int) : ∀ u ∈ izC l, u.oneCell' = true := by
  intro u hu
  obtain ⟨x, _, rfl⟩ := List.mem_map.1 hu
  rfl
theorem qse {l : List Int} {i : Nat} {u : Value} (h : (izC l)[i]? = some u) : ∃ z, l[i]? = some z ∧ u = .int .i64 z := by
  simp only [izC, List.getElem?_map, Option.map_eq_some_iff] at h
  obtain ⟨z, h1, h2⟩ := h
  exact ⟨z, h1, h2.symm⟩
def RN (_ : World) (z : Int) (v : Value) : Prop := v = .int .i64 z
def RV (w : World) (l : List Int) (v : Value) : Prop := ∃ so ca, v = .slice so l.length ca ∧ Rc w so (izC l) ∧ l.length ≤ 2000000
def TV {α : Type} (R : World → α → Value → Prop) (w0 : World) (T : List Ck) (fv : Value) (p : α → Bool) : Prop :=
  ∃ (f : FuncId) (cs : List Value), fv = .func (.func f) #[] cs.toArray ∧ (∀ (us : Array Value) (w : World), (callFunc f us).run Tryz.prog w = .ok (.enter f us) w) ∧ ∀ (w1 : World) (a : α) (v : Value), Below w0.heap.size w0 w1 → Ob T w1 → R w1 a v → Calls Tryz.prog f ([v] ++ cs).toArray w1 fun e w' => e = .returned (.bool (p a)) ∧ Below w1.heap.size w1 w'
theorem TV.sub {α : Type} {R : World → α → Value → Prop} {w0 : World} {T T' : List Ck} {fv : Value} {p : α → Bool} (h : TV R w0 T fv p) (hs : T ⊆ T') : TV R w0 T' fv p := by
  obtain ⟨f, cs, e, hi, hr⟩ := h
  exact ⟨f, cs, e, hi, fun w1 a v hb hO hR => hr w1 a v hb (hO.sub hs) hR⟩
def TVs {α : Type} (R : World → α → Value → Prop) (w0 : World) (T : List Ck) (fvs : List Value) (ps : List (α → Bool)) : Prop := fvs.length = ps.length ∧ ∀ (i : Nat) fv p, fvs[i]? = some fv → ps[i]? = some p → TV R w0 T fv p
theorem TVs.nil {α : Type} {R : World → α → Value → Prop} {w0 : World} {T : List Ck} : TVs R w0 T [] [] := ⟨rfl, fun i fv p h => by simp at h⟩
theorem TVs.snoc {α : Type} {R : World → α → Value → Prop} {w0 : World} {T T' : List Ck} {fvs : List Value} {ps : List (α → Bool)} {fv : Value} {p : α → Bool} (h : TVs R w0 T fvs ps) (hs : T ⊆ T') (hn : TV R w0 T' fv p) : TVs R w0 T' (fvs ++ [fv]) (ps ++ [p]) := by
  refine ⟨by simp [h.1], fun i u q h1 h2 => ?_⟩
  rw [List.getElem?_append] at h1 h2
  rw [← h.1] at h2
  split at h1
  · rename_i hlt
    rw [if_pos hlt] at h2
    exact (h.2 i u q h1 h2).sub hs
  · rename_i hlt
    rw [if_neg hlt] at h2
    have : i - fvs.length = 0 := by
      have := (List.getElem?_eq_some_iff.1 h1).1
      simp at this
      exact this
    rw [this] at h1 h2
    cases h1; cases h2
    exact hn
theorem TVs.get {α : Type} {R : World → α → Value → Prop} {w0 : World} {T : List Ck} {fvs : List Value} {ps : List (α → Bool)} (h : TVs R w0 T fvs ps) {i : Nat} {fv : Value} (hf : fvs[i]? = some fv) : ∃ p, ps[i]? = some p ∧ TV R w0 T fv p := by
  have hi := (List.getElem?_eq_some_iff.1 hf).1
  rw [h.1] at hi
  exact ⟨ps[i], List.getElem?_eq_getElem hi, h.2 i _ _ hf (List.getElem?_eq_getElem hi)⟩
def jz {β : Type} : List (Option β) → Option (List β)
  | [] => some []
  | none :: _ => none
  | some b :: l => (jz l).map (b :: ·)
theorem qpg {β : Type} : ∀ {l : List (Option β)} {bs : List β} (b : β), jz l = some bs → jz (l ++ [some b]) = some (bs ++ [b])
  | [], bs, b, h => by cases h; rfl
  | none :: l, bs, b, h => by cases h
  | some a :: l, bs, b, h => by
    simp only [jz, List.cons_append] at h ⊢
    obtain ⟨cs, h1, rfl⟩ := Option.map_eq_some_iff.1 h
    rw [qpg b h1]
    rfl
theorem qwb {β : Type} : ∀ {l : List (Option β)} {i : Nat}, l[i]? = some none → jz l = none
  | [], i, h => by simp at h
  | none :: l, i, h => rfl
  | some a :: l, 0, h => by simp at h
  | some a :: l, i + 1, h => by
    simp only [List.getElem?_cons_succ] at h
    simp only [jz, qwb h, Option.map_none]
theorem ka {β : Type} : ∀ {l : List (Option β)} {bs : List β}, jz l = some bs → bs.length = l.length
  | [], bs, h => by cases h; rfl
  | none :: l, bs, h => by cases h
  | some a :: l, bs, h => by
    simp only [jz] at h
    obtain ⟨cs, h1, rfl⟩ := Option.map_eq_some_iff.1 h
    simp [ka h1]
def qdg (qs : List Bool) : Int := match qs.findIdx? id with | some i => ((i : Nat) : Int) | none => -1
theorem qkc {qs : List Bool} {i : Nat} (hb : ∀ (j : Nat) b, j < i → qs[j]? = some b → b = false) (h : qs[i]? = some true) : qdg qs = ((i : Nat) : Int) := by
  obtain ⟨h1, h2⟩ := List.getElem?_eq_some_iff.1 h
  have : qs.findIdx? id = some i := List.findIdx?_eq_some_iff_getElem.2 ⟨h1, by rw [h2]; rfl, fun j hj => by rw [hb j _ hj (List.getElem?_eq_getElem (by omega))]; decide⟩
  unfold qdg
  rw [this]
theorem qgd {qs : List Bool} (hb : ∀ (j : Nat) b, j < qs.length → qs[j]? = some b → b = false) : qdg qs = -1 := by
  have : qs.findIdx? id = none := by
    rw [List.findIdx?_eq_none_iff]
    intro x hx
    obtain ⟨i, hi, rfl⟩ := List.getElem_of_mem hx
    exact hb i _ hi (List.getElem?_eq_getElem hi)
  unfold qdg
  rw [this]
theorem qkd (qs : List Bool) : decide (0 ≤ qdg qs) = qs.any id := by
  unfold qdg
  cases h : qs.findIdx? id with
  | none =>
    rw [List.findIdx?_eq_none_iff] at h
    have : qs.any id = false := by rw [List.any_eq_false]; intro x hx; rw [h x hx]; decide
    rw [this]; rfl
  | some i =>
    obtain ⟨h1, h2, _⟩ := List.findIdx?_eq_some_iff_getElem.1 h
    have : qs.any id = true := List.any_eq_true.2 ⟨_, List.getElem_mem h1, h2⟩
    rw [this]
    simp
def vf (z : Int) : Bool := decide (z < 0) || decide (2147483647 < z)
def jb (t : Tr) : Option Int := if (zu t.q).2 = 0 ∧ vf (zu t.q).1 = false then some (zu t.q).1 else none
def vv : ByteArray := ⟨#[97, 110, 100]⟩
def wOr : ByteArray := ⟨#[111, 114]⟩
def kk : ByteArray := ⟨#[110, 111, 116]⟩
def wGe : ByteArray := ⟨#[62, 61]⟩
def wLe : ByteArray := ⟨#[60, 61]⟩
open Classical in
noncomputable def jg {α : Type} (w : ByteArray) (l : List (Option (α → Bool))) : Option (α → Bool) :=
  match jz l with
  | none => none
  | some ps => if w = vv then some (fun a => !(ps.map fun p => !(p a)).any id) else if w = wOr then some (fun a => (ps.map fun p => p a).any id) else if w = kk ∧ ps.length = 1 then some (fun a => !((ps.headD fun _ => false) a)) else none
def uf : List (Int → Bool) → List Int → Bool
  | [], _ => true
  | _ :: _, [] => false
  | p :: ps, z :: zs => p z && uf ps zs
theorem qdh : ∀ {ps : List (Int → Bool)} {v : List Int}, v.length < ps.length → uf ps v = false
  | [], v, h => by simp at h
  | p :: ps, [], h => rfl
  | p :: ps, z :: zs, h => by
    simp only [uf]
    rw [qdh (by simpa using h), Bool.and_false]
theorem qph : ∀ {ps : List (Int → Bool)} {v : List Int} {i : Nat} {p : Int → Bool} {z : Int}, ps[i]? = some p → v[i]? = some z → uf (ps.drop i) (v.drop i) = (p z && uf (ps.drop (i + 1)) (v.drop (i + 1)))
  | ps, v, i, p, z, h1, h2 => by
    obtain ⟨a1, a2⟩ := List.getElem?_eq_some_iff.1 h1
    obtain ⟨b1, b2⟩ := List.getElem?_eq_some_iff.1 h2
    rw [List.drop_eq_getElem_cons a1, List.drop_eq_getElem_cons b1, a2, b2, uf]
def jv (l : List (Option Int)) : Option Int := match jz l with | some [z] => some z | _ => none
open Classical in
noncomputable def zx : Nat → Tr → Option (Int → Bool)
  | 0, _ => none
  | n + 1, t => match jb t with
    | some b => some fun z => z == b
    | none => match zw t with
      | some (h :: r) => if h.k = 6 then (if h.s = wGe then (jv (r.map jb)).map fun b => fun z => decide (b ≤ z) else if h.s = wLe then (jv (r.map jb)).map fun b => fun z => decide (z ≤ b) else jg h.s (r.map (zx n))) else none
      | _ => none
open Classical in
noncomputable def jk : Nat → Tr → Option (List Int → Bool)
  | 0, _ => none
  | n + 1, t => match zw t with
    | none => none
    | some [] => some (uf [])
    | some (h :: r) => if h.k = 6 then jg h.s (r.map (jk n)) else (jz ((h :: r).map (zx n))).map uf
set_option maxRecDepth 100000
theorem JcA_is1_175 : Is1 Tryz.prog 175 := ⟨⟨_, Tryz.underlying175, rfl⟩, by kernel_rfl⟩
theorem JcA_is1_3 : Is1 Tryz.prog 3 := ⟨⟨_, Tryz.underlying3, rfl⟩, by kernel_rfl⟩
theorem JcA_is1_88 : Is1 Tryz.prog 88 := ⟨⟨_, Tryz.underlying88, rfl⟩, by kernel_rfl⟩
theorem zbb {w : World} {so : Option Addr} {ca : Nat} {us : List Value} (hR : Rc w so us) (hl : us.length ≤ 4000000) {f : FuncId} {cs : List Value} {qs : List Bool} (hql : us.length = qs.length) (hinv : ∀ (us : Array Value) (w : World), (callFunc f us).run Tryz.prog w = .ok (.enter f us) w) (hF : ∀ (i : Nat) (u : Value) (b : Bool) (w1 : World), us[i]? = some u → qs[i]? = some b → Below w.heap.size w w1 → Calls Tryz.prog f ([u] ++ cs).toArray w1 fun e w' => e = .returned (.bool b) ∧ Below w1.heap.size w1 w') : Calls Tryz.prog 69 #[.slice so us.length ca, .func (.func f) #[] cs.toArray] w fun e w' => e = .returned (.int .i64 (qdg qs)) ∧ Below w.heap.size w w' := by
 have hM : Mg w w ([]) := Mg.start w
 refine qx (l := [(0, .slice so us.length ca), (1, .func (.func f) #[] cs.toArray)]) Tryz.func69 rfl Tryz.ntmps69 rfl rfl ?_
 intro Q hret hnorm hP a hA
 refine wp_seq_k (fun K1 hK1 => ?_)
 refine wp_region_lit ?_
 refine qb hA rfl rfl rfl (qe rfl) ?_
 intro a hA
 refine qa ?_
 refine hK1 _ _ ?_
 refine wp_seq_k (fun K2 hK2 => ?_)
 refine wp_seq_k (fun K3 hK3 => ?_)
 refine wp_region_lit ?_
 refine qb hA rfl rfl rfl (qg rfl) ?_
 intro a hA
 refine qb (v := .int .i64 (((us.length : Nat) : Int))) hA rfl rfl rfl (qy Tryz.underlying38 rfl) ?_
 intro a hA
 refine qb hA rfl rfl rfl (qg rfl) ?_
 intro a hA
 refine qa ?_
 refine hK3 _ _ ?_
 refine wp_block ?_
 refine jc (fun m_ a w1 => ∃ (i : Nat), m_ = 1 + (us.length - i) ∧ (i ≤ us.length ∧ ∀ (j : Nat) b, j < i → qs[j]? = some b → b = false) ∧ Sl a 19 [(0, .slice so us.length ca), (1, .func (.func f) #[] cs.toArray), (6, .slice so us.length ca), (7, .int .i64 (((us.length : Nat) : Int))), (8, .int .i64 (((i : Nat) : Int)))] ∧ Mg w w1 ([])) _ ⟨0, rfl, ⟨Nat.zero_le _, fun j b h => absurd h (Nat.not_lt_zero _)⟩, hA.keep _ ⟨rfl, rfl, rfl, rfl, rfl, trivial⟩, hM⟩ ?_
 clear hM hA
 rintro m_ a w4 ⟨i, rfl, hinv6, hA, hM⟩ K5 hK5
 obtain ⟨hi0, hin9⟩ := hinv6
 refine wp_seq_k (fun K7 hK7 => ?_)
 refine wp_region_lit ?_
 rcases Bool.eq_false_or_eq_true (decide (((i : Nat) : Int) < ((us.length : Nat) : Int))) with hb8 | hb8
 · have hb8' := of_decide_eq_true hb8
   refine qb (v := .bool true) hA rfl rfl rfl (qh rfl rfl (fun w => (zh w).trans (by rw [hb8]))) ?_
   intro a hA
   refine qa ?_
   refine hK7 _ _ ?_
   refine wp_seq_k (fun K9 hK9 => ?_)
   refine wp_cond_true (hA.ev rfl) ?_
   refine wp_skip ?_
   refine hK9 _ _ ?_
   refine wp_seq_k (fun K10 hK10 => ?_)
   refine wp_block ?_
   refine wp_seq_k (fun K11 hK11 => ?_)
   refine wp_region_lit ?_
   refine qb hA rfl rfl rfl (qg rfl) ?_
   intro a hA
   refine qb hA rfl rfl rfl (qe rfl) ?_
   intro a hA
   refine qa ?_
   refine hK11 _ _ ?_
   refine wp_seq_k (fun K12 hK12 => ?_)
   refine wp_region_lit ?_
   refine qb hA rfl rfl rfl (qg rfl) ?_
   intro a hA
   refine qb hA rfl rfl rfl (qg rfl) ?_
   intro a hA
   refine qb hA rfl rfl rfl (qg rfl) ?_
   intro a hA
   obtain ⟨bx13, ox14, ux15, hs16, hc17, hi18⟩ := hR.at1 (i := i) (by  omega)
   obtain ⟨qb19, hq20⟩ : ∃ b, qs[i]? = some b := ⟨_, List.getElem?_eq_getElem (by omega)⟩
   refine qb (v := .pointer (some ⟨bx13, ox14 + i, none⟩)) hA rfl rfl rfl (zf (k := i) Tryz.underlying38 (by kernel_rfl) rfl rfl (by first | rfl | omega) hs16 (by omega)) ?_
   intro a hA
   refine qb hA rfl rfl rfl (jt hM hc17 JcA_is1_3 rfl) ?_
   intro a hA
   rcases Bool.eq_false_or_eq_true (qb19) with hb21 | hb21
   · refine qz hA rfl rfl rfl (xg rfl rfl hinv) (hF _ _ true _ hi18 (by rw [hq20, hb21]) hM.bel) ?_
     rintro _ w23 ⟨rfl, hb22⟩
     replace hM := hM.call hb22
     refine ⟨_, rfl, ?_⟩
     intro a hA
     refine qa ?_
     refine hK12 _ _ ?_
     refine wp_cond_true (hA.ev rfl) ?_
     refine wp_seq_k (fun K24 hK24 => ?_)
     refine wp_region_lit ?_
     refine qb hA rfl rfl rfl (qg rfl) ?_
     intro a hA
     refine qb hA rfl rfl rfl (qe rfl) ?_
     intro a hA
     refine qa ?_
     refine hK24 _ _ ?_
     refine wp_ret ?_
     refine hret _ _ ?_
     refine je (v := .int .i64 (((i : Nat) : Int))) hA rfl (.cons (qj rfl) .nil) rfl ?_
     exact ⟨by rw [qkc hin9 (by rw [hq20, hb21])], hM.bel⟩
   · refine qz hA rfl rfl rfl (xg rfl rfl hinv) (hF _ _ false _ hi18 (by rw [hq20, hb21]) hM.bel) ?_
     rintro _ w26 ⟨rfl, hb25⟩
     replace hM := hM.call hb25
     refine ⟨_, rfl, ?_⟩
     intro a hA
     refine qa ?_
     refine hK12 _ _ ?_
     refine wp_cond_false (hA.ev rfl) ?_
     refine wp_skip ?_
     refine hK10 _ _ ?_
     refine wp_region_lit ?_
     refine qb (v := .int .i64 (((i + 1 : Nat) : Int))) hA rfl rfl rfl (qh rfl rfl (ar_add ((in_i64 (by omega) (by omega)).trans (by omega)))) ?_
     intro a hA
     refine qb hA rfl rfl rfl (qg rfl) ?_
     intro a hA
     refine qa ?_
     refine hK5 _ _ _ (by omega) ⟨i + 1, rfl, ⟨by omega, fun j b hj hu => if h9 : j < i then hin9 j b h9 hu else by have h8 : j = i := (by omega); subst h8; rw [hq20] at hu; rw [← Option.some.inj hu]; exact hb21⟩, hA.keep _ ⟨rfl, rfl, rfl, rfl, rfl, trivial⟩, hM⟩
 · have hb8' := of_decide_eq_false hb8
   refine qb (v := .bool false) hA rfl rfl rfl (qh rfl rfl (fun w => (zh w).trans (by rw [hb8]))) ?_
   intro a hA
   refine qa ?_
   refine hK7 _ _ ?_
   refine wp_seq_k (fun K27 hK27 => ?_)
   refine wp_cond_false (hA.ev rfl) ?_
   refine wp_exit ?_
   refine hK2 _ _ ?_
   refine wp_seq_k (fun K28 hK28 => ?_)
   refine wp_region_lit ?_
   refine qb hA rfl rfl rfl (qe rfl) ?_
   intro a hA
   refine qa ?_
   refine hK28 _ _ ?_
   refine wp_ret ?_
   refine hret _ _ ?_
   refine je (v := .int .i64 (-1)) hA rfl (.cons (qj rfl) .nil) rfl ?_
   exact ⟨by rw [qgd (fun j b hj => hin9 j b (by omega))], hM.bel⟩
theorem qne {w : World} {so : Option Addr} {ca : Nat} {us : List Value} (hR : Rc w so us) (hl : us.length ≤ 4000000) {f : FuncId} {cs : List Value} {qs : List Bool} (hql : us.length = qs.length) (hinv : ∀ (us : Array Value) (w : World), (callFunc f us).run Tryz.prog w = .ok (.enter f us) w) (hF : ∀ (i : Nat) (u : Value) (b : Bool) (w1 : World), us[i]? = some u → qs[i]? = some b → Below w.heap.size w w1 → Calls Tryz.prog f ([u] ++ cs).toArray w1 fun e w' => e = .returned (.bool b) ∧ Below w1.heap.size w1 w') : Calls Tryz.prog 37 #[.slice so us.length ca, .func (.func f) #[] cs.toArray] w fun e w' => e = .returned (.bool (qs.any id)) ∧ Below w.heap.size w w' := by
 have hM : Mg w w ([]) := Mg.start w
 refine qx (l := [(0, .slice so us.length ca), (1, .func (.func f) #[] cs.toArray)]) Tryz.func37 rfl Tryz.ntmps37 rfl rfl ?_
 intro Q hret hnorm hP a hA
 refine wp_seq_k (fun K1 hK1 => ?_)
 refine wp_region_lit ?_
 refine qb hA rfl rfl rfl (qe rfl) ?_
 intro a hA
 refine qa ?_
 refine hK1 _ _ ?_
 refine wp_seq_k (fun K2 hK2 => ?_)
 refine wp_region_lit ?_
 refine qb hA rfl rfl rfl (qg rfl) ?_
 intro a hA
 refine qb hA rfl rfl rfl (qg rfl) ?_
 intro a hA
 refine qz hA rfl rfl rfl (qk rfl rfl (fun w => by kernel_rfl)) (zbb (hR.below hM.bel) hl hql hinv (fun i u b w1 h1 h2 h3 => hF i u b w1 h1 h2 (hM.bel.trans (h3.mono hM.bel.size)))) ?_
 rintro _ w4 ⟨rfl, hb3⟩
 replace hM := hM.call hb3
 refine ⟨_, rfl, ?_⟩
 intro a hA
 refine qb (v := .bool (decide (0 ≤ qdg qs))) hA rfl rfl rfl (qh rfl rfl ju) ?_
 intro a hA
 refine qb hA rfl rfl rfl (qe rfl) ?_
 intro a hA
 refine qa ?_
 refine hK2 _ _ ?_
 refine wp_ret ?_
 refine hret _ _ ?_
 refine je (v := .bool (decide (0 ≤ qdg qs))) hA rfl (.cons (qj rfl) .nil) rfl ?_
 exact ⟨by rw [← qkd qs], hM.bel⟩
theorem zbc {w : World} {so : Option Addr} {ca : Nat} {us : List Value} (hR : Rc w so us) (hl : us.length ≤ 4000000) {f : FuncId} {cs : List Value} {qs : List Bool} (hql : us.length = qs.length) (hinv : ∀ (us : Array Value) (w : World), (callFunc f us).run Tryz.prog w = .ok (.enter f us) w) (hF : ∀ (i : Nat) (u : Value) (b : Bool) (w1 : World), us[i]? = some u → qs[i]? = some b → Below w.heap.size w w1 → Calls Tryz.prog f ([u] ++ cs).toArray w1 fun e w' => e = .returned (.bool b) ∧ Below w1.heap.size w1 w') : Calls Tryz.prog 203 #[.slice so us.length ca, .func (.func f) #[] cs.toArray] w fun e w' => e = .returned (.int .i64 (qdg qs)) ∧ Below w.heap.size w w' := by
 have hM : Mg w w ([]) := Mg.start w
 refine qx (l := [(0, .slice so us.length ca), (1, .func (.func f) #[] cs.toArray)]) Tryz.func203 rfl Tryz.ntmps203 rfl rfl ?_
 intro Q hret hnorm hP a hA
 refine wp_seq_k (fun K1 hK1 => ?_)
 refine wp_region_lit ?_
 refine qb hA rfl rfl rfl (qe rfl) ?_
 intro a hA
 refine qa ?_
 refine hK1 _ _ ?_
 refine wp_seq_k (fun K2 hK2 => ?_)
 refine wp_seq_k (fun K3 hK3 => ?_)
 refine wp_region_lit ?_
 refine qb hA rfl rfl rfl (qg rfl) ?_
 intro a hA
 refine qb (v := .int .i64 (((us.length : Nat) : Int))) hA rfl rfl rfl (qy Tryz.underlying172 rfl) ?_
 intro a hA
 refine qb hA rfl rfl rfl (qg rfl) ?_
 intro a hA
 refine qa ?_
 refine hK3 _ _ ?_
 refine wp_block ?_
 refine jc (fun m_ a w1 => ∃ (i : Nat), m_ = 1 + (us.length - i) ∧ (i ≤ us.length ∧ ∀ (j : Nat) b, j < i → qs[j]? = some b → b = false) ∧ Sl a 19 [(0, .slice so us.length ca), (1, .func (.func f) #[] cs.toArray), (6, .slice so us.length ca), (7, .int .i64 (((us.length : Nat) : Int))), (8, .int .i64 (((i : Nat) : Int)))] ∧ Mg w w1 ([])) _ ⟨0, rfl, ⟨Nat.zero_le _, fun j b h => absurd h (Nat.not_lt_zero _)⟩, hA.keep _ ⟨rfl, rfl, rfl, rfl, rfl, trivial⟩, hM⟩ ?_
 clear hM hA
 rintro m_ a w4 ⟨i, rfl, hinv6, hA, hM⟩ K5 hK5
 obtain ⟨hi0, hin9⟩ := hinv6
 refine wp_seq_k (fun K7 hK7 => ?_)
 refine wp_region_lit ?_
 rcases Bool.eq_false_or_eq_true (decide (((i : Nat) : Int) < ((us.length : Nat) : Int))) with hb8 | hb8
 · have hb8' := of_decide_eq_true hb8
   refine qb (v := .bool true) hA rfl rfl rfl (qh rfl rfl (fun w => (zh w).trans (by rw [hb8]))) ?_
   intro a hA
   refine qa ?_
   refine hK7 _ _ ?_
   refine wp_seq_k (fun K9 hK9 => ?_)
   refine wp_cond_true (hA.ev rfl) ?_
   refine wp_skip ?_
   refine hK9 _ _ ?_
   refine wp_seq_k (fun K10 hK10 => ?_)
   refine wp_block ?_
   refine wp_seq_k (fun K11 hK11 => ?_)
   refine wp_region_lit ?_
   refine qb hA rfl rfl rfl (qg rfl) ?_
   intro a hA
   refine qb hA rfl rfl rfl (qe rfl) ?_
   intro a hA
   refine qa ?_
   refine hK11 _ _ ?_
   refine wp_seq_k (fun K12 hK12 => ?_)
   refine wp_region_lit ?_
   refine qb hA rfl rfl rfl (qg rfl) ?_
   intro a hA
   refine qb hA rfl rfl rfl (qg rfl) ?_
   intro a hA
   refine qb hA rfl rfl rfl (qg rfl) ?_
   intro a hA
   obtain ⟨bx13, ox14, ux15, hs16, hc17, hi18⟩ := hR.at1 (i := i) (by  omega)
   obtain ⟨qb19, hq20⟩ : ∃ b, qs[i]? = some b := ⟨_, List.getElem?_eq_getElem (by omega)⟩
   refine qb (v := .pointer (some ⟨bx13, ox14 + i, none⟩)) hA rfl rfl rfl (zf (k := i) Tryz.underlying172 (by kernel_rfl) rfl rfl (by first | rfl | omega) hs16 (by omega)) ?_
   intro a hA
   refine qb hA rfl rfl rfl (jt hM hc17 JcA_is1_175 rfl) ?_
   intro a hA
   rcases Bool.eq_false_or_eq_true (qb19) with hb21 | hb21
   · refine qz hA rfl rfl rfl (xg rfl rfl hinv) (hF _ _ true _ hi18 (by rw [hq20, hb21]) hM.bel) ?_
     rintro _ w23 ⟨rfl, hb22⟩
     replace hM := hM.call hb22
     refine ⟨_, rfl, ?_⟩
     intro a hA
     refine qa ?_
     refine hK12 _ _ ?_
     refine wp_cond_true (hA.ev rfl) ?_
     refine wp_seq_k (fun K24 hK24 => ?_)
     refine wp_region_lit ?_
     refine qb hA rfl rfl rfl (qg rfl) ?_
     intro a hA
     refine qb hA rfl rfl rfl (qe rfl) ?_
     intro a hA
     refine qa ?_
     refine hK24 _ _ ?_
     refine wp_ret ?_
     refine hret _ _ ?_
     refine je (v := .int .i64 (((i : Nat) : Int))) hA rfl (.cons (qj rfl) .nil) rfl ?_
     exact ⟨by rw [qkc hin9 (by rw [hq20, hb21])], hM.bel⟩
   · refine qz hA rfl rfl rfl (xg rfl rfl hinv) (hF _ _ false _ hi18 (by rw [hq20, hb21]) hM.bel) ?_
     rintro _ w26 ⟨rfl, hb25⟩
     replace hM := hM.call hb25
     refine ⟨_, rfl, ?_⟩
     intro a hA
     refine qa ?_
     refine hK12 _ _ ?_
     refine wp_cond_false (hA.ev rfl) ?_
     refine wp_skip ?_
     refine hK10 _ _ ?_
     refine wp_region_lit ?_
     refine qb (v := .int .i64 (((i + 1 : Nat) : Int))) hA rfl rfl rfl (qh rfl rfl (ar_add ((in_i64 (by omega) (by omega)).trans (by omega)))) ?_
     intro a hA
     refine qb hA rfl rfl rfl (qg rfl) ?_
     intro a hA
     refine qa ?_
     refine hK5 _ _ _ (by omega) ⟨i + 1, rfl, ⟨by omega, fun j b hj hu => if h9 : j < i then hin9 j b h9 hu else by have h8 : j = i := (by omega); subst h8; rw [hq20] at hu; rw [← Option.some.inj hu]; exact hb21⟩, hA.keep _ ⟨rfl, rfl, rfl, rfl, rfl, trivial⟩, hM⟩
 · have hb8' := of_decide_eq_false hb8
   refine qb (v := .bool false) hA rfl rfl rfl (qh rfl rfl (fun w => (zh w).trans (by rw [hb8]))) ?_
   intro a hA
   refine qa ?_
   refine hK7 _ _ ?_
   refine wp_seq_k (fun K27 hK27 => ?_)
   refine wp_cond_false (hA.ev rfl) ?_
   refine wp_exit ?_
   refine hK2 _ _ ?_
   refine wp_seq_k (fun K28 hK28 => ?_)
   refine wp_region_lit ?_
   refine qb hA rfl rfl rfl (qe rfl) ?_
   intro a hA
   refine qa ?_
   refine hK28 _ _ ?_
   refine wp_ret ?_
   refine hret _ _ ?_
   refine je (v := .int .i64 (-1)) hA rfl (.cons (qj rfl) .nil) rfl ?_
   exact ⟨by rw [qgd (fun j b hj => hin9 j b (by omega))], hM.bel⟩
theorem qcf {w : World} {so : Option Addr} {ca : Nat} {us : List Value} (hR : Rc w so us) (hl : us.length ≤ 4000000) {f : FuncId} {cs : List Value} {qs : List Bool} (hql : us.length = qs.length) (hinv : ∀ (us : Array Value) (w : World), (callFunc f us).run Tryz.prog w = .ok (.enter f us) w) (hF : ∀ (i : Nat) (u : Value) (b : Bool) (w1 : World), us[i]? = some u → qs[i]? = some b → Below w.heap.size w w1 → Calls Tryz.prog f ([u] ++ cs).toArray w1 fun e w' => e = .returned (.bool b) ∧ Below w1.heap.size w1 w') : Calls Tryz.prog 182 #[.slice so us.length ca, .func (.func f) #[] cs.toArray] w fun e w' => e = .returned (.bool (qs.any id)) ∧ Below w.heap.size w w' := by
 have hM : Mg w w ([]) := Mg.start w
 refine qx (l := [(0, .slice so us.length ca), (1, .func (.func f) #[] cs.toArray)]) Tryz.func182 rfl Tryz.ntmps182 rfl rfl ?_
 intro Q hret hnorm hP a hA
 refine wp_seq_k (fun K1 hK1 => ?_)
 refine wp_region_lit ?_
 refine qb hA rfl rfl rfl (qe rfl) ?_
 intro a hA
 refine qa ?_
 refine hK1 _ _ ?_
 refine wp_seq_k (fun K2 hK2 => ?_)
 refine wp_region_lit ?_
 refine qb hA rfl rfl rfl (qg rfl) ?_
 intro a hA
 refine qb hA rfl rfl rfl (qg rfl) ?_
 intro a hA
 refine qz hA rfl rfl rfl (qk rfl rfl (fun w => by kernel_rfl)) (zbc (hR.below hM.bel) hl hql hinv (fun i u b w1 h1 h2 h3 => hF i u b w1 h1 h2 (hM.bel.trans (h3.mono hM.bel.size)))) ?_
 rintro _ w4 ⟨rfl, hb3⟩
 replace hM := hM.call hb3
 refine ⟨_, rfl, ?_⟩
 intro a hA
 refine qb (v := .bool (decide (0 ≤ qdg qs))) hA rfl rfl rfl (qh rfl rfl ju) ?_
 intro a hA
 refine qb hA rfl rfl rfl (qe rfl) ?_
 intro a hA
 refine qa ?_
 refine hK2 _ _ ?_
 refine wp_ret ?_
 refine hret _ _ ?_
 refine je (v := .bool (decide (0 ≤ qdg qs))) hA rfl (.cons (qj rfl) .nil) rfl ?_
 exact ⟨by rw [← qkd qs], hM.bel⟩
theorem zbd {w : World} {so : Option Addr} {ca : Nat} {us : List Value} (hR : Rc w so us) (hl : us.length ≤ 4000000) {f : FuncId} {cs : List Value} {qs : List Bool} (hql : us.length = qs.length) (hinv : ∀ (us : Array Value) (w : World), (callFunc f us).run Tryz.prog w = .ok (.enter f us) w) (hF : ∀ (i : Nat) (u : Value) (b : Bool) (w1 : World), us[i]? = some u → qs[i]? = some b → Below w.heap.size w w1 → Calls Tryz.prog f ([u] ++ cs).toArray w1 fun e w' => e = .returned (.bool b) ∧ Below w1.heap.size w1 w') : Calls Tryz.prog 147 #[.slice so us.length ca, .func (.func f) #[] cs.toArray] w fun e w' => e = .returned (.int .i64 (qdg qs)) ∧ Below w.heap.size w w' := by
 have hM : Mg w w ([]) := Mg.start w
 refine qx (l := [(0, .slice so us.length ca), (1, .func (.func f) #[] cs.toArray)]) Tryz.func147 rfl Tryz.ntmps147 rfl rfl ?_
 intro Q hret hnorm hP a hA
 refine wp_seq_k (fun K1 hK1 => ?_)
 refine wp_region_lit ?_
 refine qb hA rfl rfl rfl (qe rfl) ?_
 intro a hA
 refine qa ?_
 refine hK1 _ _ ?_
 refine wp_seq_k (fun K2 hK2 => ?_)
 refine wp_seq_k (fun K3 hK3 => ?_)
 refine wp_region_lit ?_
 refine qb hA rfl rfl rfl (qg rfl) ?_
 intro a hA
 refine qb (v := .int .i64 (((us.length : Nat) : Int))) hA rfl rfl rfl (qy Tryz.underlying167 rfl) ?_
 intro a hA
 refine qb hA rfl rfl rfl (qg rfl) ?_
 intro a hA
 refine qa ?_
 refine hK3 _ _ ?_
 refine wp_block ?_
 refine jc (fun m_ a w1 => ∃ (i : Nat), m_ = 1 + (us.length - i) ∧ (i ≤ us.length ∧ ∀ (j : Nat) b, j < i → qs[j]? = some b → b = false) ∧ Sl a 19 [(0, .slice so us.length ca), (1, .func (.func f) #[] cs.toArray), (6, .slice so us.length ca), (7, .int .i64 (((us.length : Nat) : Int))), (8, .int .i64 (((i : Nat) : Int)))] ∧ Mg w w1 ([])) _ ⟨0, rfl, ⟨Nat.zero_le _, fun j b h => absurd h (Nat.not_lt_zero _)⟩, hA.keep _ ⟨rfl, rfl, rfl, rfl, rfl, trivial⟩, hM⟩ ?_
 clear hM hA
 rintro m_ a w4 ⟨i, rfl, hinv6, hA, hM⟩ K5 hK5
 obtain ⟨hi0, hin9⟩ := hinv6
 refine wp_seq_k (fun K7 hK7 => ?_)
 refine wp_region_lit ?_
 rcases Bool.eq_false_or_eq_true (decide (((i : Nat) : Int) < ((us.length : Nat) : Int))) with hb8 | hb8
 · have hb8' := of_decide_eq_true hb8
   refine qb (v := .bool true) hA rfl rfl rfl (qh rfl rfl (fun w => (zh w).trans (by rw [hb8]))) ?_
   intro a hA
   refine qa ?_
   refine hK7 _ _ ?_
   refine wp_seq_k (fun K9 hK9 => ?_)
   refine wp_cond_true (hA.ev rfl) ?_
   refine wp_skip ?_
   refine hK9 _ _ ?_
   refine wp_seq_k (fun K10 hK10 => ?_)
   refine wp_block ?_
   refine wp_seq_k (fun K11 hK11 => ?_)
   refine wp_region_lit ?_
   refine qb hA rfl rfl rfl (qg rfl) ?_
   intro a hA
   refine qb hA rfl rfl rfl (qe rfl) ?_
   intro a hA
   refine qa ?_
   refine hK11 _ _ ?_
   refine wp_seq_k (fun K12 hK12 => ?_)
   refine wp_region_lit ?_
   refine qb hA rfl rfl rfl (qg rfl) ?_
   intro a hA
   refine qb hA rfl rfl rfl (qg rfl) ?_
   intro a hA
   refine qb hA rfl rfl rfl (qg rfl) ?_
   intro a hA
   obtain ⟨bx13, ox14, ux15, hs16, hc17, hi18⟩ := hR.at1 (i := i) (by  omega)
   obtain ⟨qb19, hq20⟩ : ∃ b, qs[i]? = some b := ⟨_, List.getElem?_eq_getElem (by omega)⟩
   refine qb (v := .pointer (some ⟨bx13, ox14 + i, none⟩)) hA rfl rfl rfl (zf (k := i) Tryz.underlying167 (by kernel_rfl) rfl rfl (by first | rfl | omega) hs16 (by omega)) ?_
   intro a hA
   refine qb hA rfl rfl rfl (jt hM hc17 JcA_is1_88 rfl) ?_
   intro a hA
   rcases Bool.eq_false_or_eq_true (qb19) with hb21 | hb21
   · refine qz hA rfl rfl rfl (xg rfl rfl hinv) (hF _ _ true _ hi18 (by rw [hq20, hb21]) hM.bel) ?_
     rintro _ w23 ⟨rfl, hb22⟩
     replace hM := hM.call hb22
     refine ⟨_, rfl, ?_⟩
     intro a hA
     refine qa ?_
     refine hK12 _ _ ?_
     refine wp_cond_true (hA.ev rfl) ?_
     refine wp_seq_k (fun K24 hK24 => ?_)
     refine wp_region_lit ?_
     refine qb hA rfl rfl rfl (qg rfl) ?_
     intro a hA
     refine qb hA rfl rfl rfl (qe rfl) ?_
     intro a hA
     refine qa ?_
     refine hK24 _ _ ?_
     refine wp_ret ?_
     refine hret _ _ ?_
     refine je (v := .int .i64 (((i : Nat) : Int))) hA rfl (.cons (qj rfl) .nil) rfl ?_
     exact ⟨by rw [qkc hin9 (by rw [hq20, hb21])], hM.bel⟩
   · refine qz hA rfl rfl rfl (xg rfl rfl hinv) (hF _ _ false _ hi18 (by rw [hq20, hb21]) hM.bel) ?_
     rintro _ w26 ⟨rfl, hb25⟩
     replace hM := hM.call hb25
     refine ⟨_, rfl, ?_⟩
     intro a hA
     refine qa ?_
     refine hK12 _ _ ?_
     refine wp_cond_false (hA.ev rfl) ?_
     refine wp_skip ?_
     refine hK10 _ _ ?_
     refine wp_region_lit ?_
     refine qb (v := .int .i64 (((i + 1 : Nat) : Int))) hA rfl rfl rfl (qh rfl rfl (ar_add ((in_i64 (by omega) (by omega)).trans (by omega)))) ?_
     intro a hA
     refine qb hA rfl rfl rfl (qg rfl) ?_
     intro a hA
     refine qa ?_
     refine hK5 _ _ _ (by omega) ⟨i + 1, rfl, ⟨by omega, fun j b hj hu => if h9 : j < i then hin9 j b h9 hu else by have h8 : j = i := (by omega); subst h8; rw [hq20] at hu; rw [← Option.some.inj hu]; exact hb21⟩, hA.keep _ ⟨rfl, rfl, rfl, rfl, rfl, trivial⟩, hM⟩
 · have hb8' := of_decide_eq_false hb8
   refine qb (v := .bool false) hA rfl rfl rfl (qh rfl rfl (fun w => (zh w).trans (by rw [hb8]))) ?_
   intro a hA
   refine qa ?_
   refine hK7 _ _ ?_
   refine wp_seq_k (fun K27 hK27 => ?_)
   refine wp_cond_false (hA.ev rfl) ?_
   refine wp_exit ?_
   refine hK2 _ _ ?_
   refine wp_seq_k (fun K28 hK28 => ?_)
   refine wp_region_lit ?_
   refine qb hA rfl rfl rfl (qe rfl) ?_
   intro a hA
   refine qa ?_
   refine hK28 _ _ ?_
   refine wp_ret ?_
   refine hret _ _ ?_
   refine je (v := .int .i64 (-1)) hA rfl (.cons (qj rfl) .nil) rfl ?_
   exact ⟨by rw [qgd (fun j b hj => hin9 j b (by omega))], hM.bel⟩
theorem qcg {w : World} {so : Option Addr} {ca : Nat} {us : List Value} (hR : Rc w so us) (hl : us.length ≤ 4000000) {f : FuncId} {cs : List Value} {qs : List Bool} (hql : us.length = qs.length) (hinv : ∀ (us : Array Value) (w : World), (callFunc f us).run Tryz.prog w = .ok (.enter f us) w) (hF : ∀ (i : Nat) (u : Value) (b : Bool) (w1 : World), us[i]? = some u → qs[i]? = some b → Below w.heap.size w w1 → Calls Tryz.prog f ([u] ++ cs).toArray w1 fun e w' => e = .returned (.bool b) ∧ Below w1.heap.size w1 w') : Calls Tryz.prog 113 #[.slice so us.length ca, .func (.func f) #[] cs.toArray] w fun e w' => e = .returned (.bool (qs.any id)) ∧ Below w.heap.size w w' := by
 have hM : Mg w w ([]) := Mg.start w
 refine qx (l := [(0, .slice so us.length ca), (1, .func (.func f) #[] cs.toArray)]) Tryz.func113 rfl Tryz.ntmps113 rfl rfl ?_
 intro Q hret hnorm hP a hA
 refine wp_seq_k (fun K1 hK1 => ?_)
 refine wp_region_lit ?_
 refine qb hA rfl rfl rfl (qe rfl) ?_
 intro a hA
 refine qa ?_
 refine hK1 _ _ ?_
 refine wp_seq_k (fun K2 hK2 => ?_)
 refine wp_region_lit ?_
 refine qb hA rfl rfl rfl (qg rfl) ?_
 intro a hA
 refine qb hA rfl rfl rfl (qg rfl) ?_
 intro a hA
 refine qz hA rfl rfl rfl (qk rfl rfl (fun w => by kernel_rfl)) (zbd (hR.below hM.bel) hl hql hinv (fun i u b w1 h1 h2 h3 => hF i u b w1 h1 h2 (hM.bel.trans (h3.mono hM.bel.size)))) ?_
 rintro _ w4 ⟨rfl, hb3⟩
 replace hM := hM.call hb3
 refine ⟨_, rfl, ?_⟩
 intro a hA
 refine qb (v := .bool (decide (0 ≤ qdg qs))) hA rfl rfl rfl (qh rfl rfl ju) ?_
 intro a hA
 refine qb hA rfl rfl rfl (qe rfl) ?_
 intro a hA
 refine qa ?_
 refine hK2 _ _ ?_
 refine wp_ret ?_
 refine hret _ _ ?_
 refine je (v := .bool (decide (0 ≤ qdg qs))) hA rfl (.cons (qj rfl) .nil) rfl ?_
 exact ⟨by rw [← qkd qs], hM.bel⟩
theorem qai {w : World} {z : Int} : Calls Tryz.prog 38 #[.int .i64 z] w fun e w' => e = .returned (.bool (vf z)) ∧ Below w.heap.size w w' := by
 have hM : Mg w w ([]) := Mg.start w
 refine qx (l := [(0, .int .i64 z)]) Tryz.func38 rfl Tryz.ntmps38 rfl rfl ?_
 intro Q hret hnorm hP a hA
 refine wp_seq_k (fun K1 hK1 => ?_)
 refine wp_region_lit ?_
 refine qb hA rfl rfl rfl (qe rfl) ?_
 intro a hA
 refine qa ?_
 refine hK1 _ _ ?_
 refine wp_seq_k (fun K2 hK2 => ?_)
 refine wp_region_lit ?_
 refine qb hA rfl rfl rfl (qg rfl) ?_
 intro a hA
 rcases Bool.eq_false_or_eq_true (decide (z < 0)) with hb3 | hb3
 · have hb3' := of_decide_eq_true hb3
   refine qb (v := .bool true) hA rfl rfl rfl (qh rfl rfl (fun w => (zh w).trans (by rw [hb3]))) ?_
   intro a hA
   refine qb hA rfl rfl rfl (qg rfl) ?_
   intro a hA
   refine qm hA rfl rfl rfl ?_
   intro a hA
   refine qm hA rfl rfl rfl ?_
   intro a hA
   refine qb (v := .bool true) hA rfl rfl rfl (zm rfl rfl rfl rfl) ?_
   intro a hA
   refine qb hA rfl rfl rfl (qe rfl) ?_
   intro a hA
   refine qa ?_
   refine hK2 _ _ ?_
   refine wp_ret ?_
   refine hret _ _ ?_
   refine je (v := .bool true) hA rfl (.cons (qj rfl) .nil) rfl ?_
   exact ⟨by unfold vf; simp_all, hM.bel⟩
 · have hb3' := of_decide_eq_false hb3
   refine qb (v := .bool false) hA rfl rfl rfl (qh rfl rfl (fun w => (zh w).trans (by rw [hb3]))) ?_
   intro a hA
   refine qb hA rfl rfl rfl (qg rfl) ?_
   intro a hA
   refine qb hA rfl rfl rfl (qg rfl) ?_
   intro a hA
   rcases Bool.eq_false_or_eq_true (decide (2147483647 < z)) with hb4 | hb4
   · have hb4' := of_decide_eq_true hb4
     refine qb (v := .bool true) hA rfl rfl rfl (qh rfl rfl (fun w => (ji w).trans (by rw [hb4]))) ?_
     intro a hA
     refine qb (v := .bool true) hA rfl rfl rfl (zm rfl rfl rfl rfl) ?_
     intro a hA
     refine qb hA rfl rfl rfl (qe rfl) ?_
     intro a hA
     refine qa ?_
     refine hK2 _ _ ?_
     refine wp_ret ?_
     refine hret _ _ ?_
     refine je (v := .bool true) hA rfl (.cons (qj rfl) .nil) rfl ?_
     exact ⟨by unfold vf; simp_all, hM.bel⟩
   · have hb4' := of_decide_eq_false hb4
     refine qb (v := .bool false) hA rfl rfl rfl (qh rfl rfl (fun w => (ji w).trans (by rw [hb4]))) ?_
     intro a hA
     refine qb (v := .bool false) hA rfl rfl rfl (zm rfl rfl rfl rfl) ?_
     intro a hA
     refine qb hA rfl rfl rfl (qe rfl) ?_
     intro a hA
     refine qa ?_
     refine hK2 _ _ ?_
     refine wp_ret ?_
     refine hret _ _ ?_
     refine je (v := .bool false) hA rfl (.cons (qj rfl) .nil) rfl ?_
     exact ⟨by unfold vf; simp_all, hM.bel⟩
theorem qwc {w : World} {so : Option Addr} {ca : Nat} {l : List Int} (hI : Rc w so (izC l)) (hl : l.length ≤ 4000000) {b : Bool} (h : l.any vf = b) : Calls Tryz.prog 37 #[.slice so l.length ca, .func (.func 38) #[] #[]] w fun e w' => e = .returned (.bool b) ∧ Below w.heap.size w w' := by
  have := qne (ca := ca) (f := 38) (cs := []) (qs := l.map vf) hI (by rw [uz]; exact hl) (by rw [uz, List.length_map]) (fun us w => by kernel_rfl) (fun i u b w1 h1 h2 h3 => by
    obtain ⟨z, h4, rfl⟩ := qse h1
    rw [List.getElem?_map, h4, Option.map_some] at h2
    cases h2
    exact qai)
  rw [uz, show (l.map vf).any id = b from by rw [List.any_map, ← h]; rfl] at this
  exact this
theorem JcB_is1_131 : Is1 Tryz.prog 131 := ⟨⟨_, Tryz.underlying131, rfl⟩, by kernel_rfl⟩
theorem JcB_is1_167 : Is1 Tryz.prog 167 := ⟨⟨_, Tryz.underlying167, rfl⟩, by kernel_rfl⟩
theorem JcB_is1_172 : Is1 Tryz.prog 172 := ⟨⟨_, Tryz.underlying172, rfl⟩, by kernel_rfl⟩
theorem JcB_is1_175 : Is1 Tryz.prog 175 := ⟨⟨_, Tryz.underlying175, rfl⟩, by kernel_rfl⟩
theorem JcB_is1_3 : Is1 Tryz.prog 3 := ⟨⟨_, Tryz.underlying3, rfl⟩, by kernel_rfl⟩
theorem JcB_is1_38 : Is1 Tryz.prog 38 := ⟨⟨_, Tryz.underlying38, rfl⟩, by kernel_rfl⟩
theorem JcB_is1_88 : Is1 Tryz.prog 88 := ⟨⟨_, Tryz.underlying88, rfl⟩, by kernel_rfl⟩
theorem RN.below {w w' : World} {z : Int} {v : Value} (h : RN w z v) (hb : Below w.heap.size w w') : RN w' z v := h
theorem RV.below {w w' : World} {l : List Int} {v : Value} (h : RV w l v) (hb : Below w.heap.size w w') : RV w' l v := by
  obtain ⟨so, ca, h1, h2, h3⟩ := h
  exact ⟨so, ca, h1, h2.below hb, h3⟩
theorem qsf {α β : Type} {ts : List α} {g : α → Option β} {i : Nat} {t : α} {ps : List β} {p : β} (h : jz ((ts.take i).map g) = some ps) (hi : ts[i]? = some t) (hp : g t = some p) : jz ((ts.take (i + 1)).map g) = some (ps ++ [p]) := by
  rw [List.take_add_one, hi, Option.toList_some, List.map_append, List.map_singleton, hp]
  exact qpg p h
theorem qsg {α β : Type} {ts : List α} {g : α → Option β} {i : Nat} {t : α} (hi : ts[i]? = some t) (hp : g t = none) : jz (ts.map g) = none := qwb (i := i) (by rw [List.getElem?_map, hi, Option.map_some, hp])
theorem qke {α β : Type} {ts : List α} {g : α → Option β} {i : Nat} {ps : List β} (h : jz ((ts.take i).map g) = some ps) (hi : ts.length ≤ i) : jz (ts.map g) = some ps := by rw [List.take_of_length_le hi] at h; exact h
theorem zng {w : World} {x9 : Int} {g : Nat} (hg : w.cell? ⟨g, 0, none⟩ = some (.int .i64 x9)) {f9 : FuncId} {cs9 : List Value} {b : Bool} (hi9 : ∀ (us : Array Value) (w : World), (callFunc f9 us).run Tryz.prog w = .ok (.enter f9 us) w) (hr9 : ∀ w1 : World, Below w.heap.size w w1 → Calls Tryz.prog f9 ([Value.int .i64 x9] ++ cs9).toArray w1 fun e w' => e = .returned (.bool b) ∧ Below w1.heap.size w1 w') : Calls Tryz.prog 183 #[.func (.func f9) #[] cs9.toArray, .pointer (some ⟨g, 0, none⟩)] w fun e w' => e = .returned (.bool (!b)) ∧ Below w.heap.size w w' := by
 have hM : Mg w w ([]) := Mg.start w
 refine qx (l := [(0, .func (.func f9) #[] cs9.toArray), (1, .pointer (some ⟨g, 0, none⟩))]) Tryz.func183 rfl Tryz.ntmps183 rfl rfl ?_
 intro Q hret hnorm hP a hA
 refine wp_seq_k (fun K1 hK1 => ?_)
 refine wp_region_lit ?_
 refine qb hA rfl rfl rfl (qe rfl) ?_
 intro a hA
 refine qa ?_
 refine hK1 _ _ ?_
 refine wp_seq_k (fun K2 hK2 => ?_)
 refine wp_region_lit ?_
 refine qb hA rfl rfl rfl (qg rfl) ?_
 intro a hA
 refine qb hA rfl rfl rfl (jt hM hg JcB_is1_3 rfl) ?_
 intro a hA
 refine qz hA rfl rfl rfl (xg rfl rfl hi9) (hr9 _ hM.bel) ?_
 rintro _ w4 ⟨rfl, hb3⟩
 replace hM := hM.call hb3
 refine ⟨_, rfl, ?_⟩
 intro a hA
 refine qb (v := .bool (!b)) hA rfl rfl rfl (ql rfl qp) ?_
 intro a hA
 refine qb hA rfl rfl rfl (qe rfl) ?_
 intro a hA
 refine qa ?_
 refine hK2 _ _ ?_
 refine wp_ret ?_
 refine hret _ _ ?_
 refine je (v := .bool (!b)) hA rfl (.cons (qj rfl) .nil) rfl ?_
 exact ⟨rfl, hM.bel⟩
theorem ztc {w0 w : World} {T : List Ck} {fvs : List Value} {ps : List (Int → Bool)} (hTV : TVs RN w0 T fvs ps) {x9 : Int} (h0 : Below w0.heap.size w0 w) (hO : Ob T w) (hV : RN w x9 (.int .i64 x9)) {g : Nat} (hg : w.cell? ⟨g, 0, none⟩ = some (.int .i64 x9)) : ∀ (i : Nat) (u : Value) (b : Bool) (w1 : World), fvs[i]? = some u → (ps.map fun p => !(p x9))[i]? = some b → Below w.heap.size w w1 → Calls Tryz.prog 183 ([u] ++ [Value.pointer (some ⟨g, 0, none⟩)]).toArray w1 fun e w' => e = .returned (.bool b) ∧ Below w1.heap.size w1 w' := by
  intro i u b w1 h1 h2 hb
  obtain ⟨p, hp, f9, cs9, rfl, hi9, hr9⟩ := hTV.get h1
  rw [List.getElem?_map, hp, Option.map_some] at h2
  cases h2
  exact zng ((hb.cell (vz hg)).trans hg) hi9 (fun w2 hb2 => hr9 w2 x9 _ ((h0.trans (hb.mono h0.size)).trans (hb2.mono (Nat.le_trans h0.size hb.size))) ((hO.below hb).below hb2) ((hV.below hb).below hb2))
theorem znh {w : World} {x9 : Int} {g : Nat} (hg : w.cell? ⟨g, 0, none⟩ = some (.int .i64 x9)) {f9 : FuncId} {cs9 : List Value} {b : Bool} (hi9 : ∀ (us : Array Value) (w : World), (callFunc f9 us).run Tryz.prog w = .ok (.enter f9 us) w) (hr9 : ∀ w1 : World, Below w.heap.size w w1 → Calls Tryz.prog f9 ([Value.int .i64 x9] ++ cs9).toArray w1 fun e w' => e = .returned (.bool b) ∧ Below w1.heap.size w1 w') : Calls Tryz.prog 185 #[.func (.func f9) #[] cs9.toArray, .pointer (some ⟨g, 0, none⟩)] w fun e w' => e = .returned (.bool (b)) ∧ Below w.heap.size w w' := by
 have hM : Mg w w ([]) := Mg.start w
 refine qx (l := [(0, .func (.func f9) #[] cs9.toArray), (1, .pointer (some ⟨g, 0, none⟩))]) Tryz.func185 rfl Tryz.ntmps185 rfl rfl ?_
 intro Q hret hnorm hP a hA
 refine wp_seq_k (fun K1 hK1 => ?_)
 refine wp_region_lit ?_
 refine qb hA rfl rfl rfl (qe rfl) ?_
 intro a hA
 refine qa ?_
 refine hK1 _ _ ?_
 refine wp_seq_k (fun K2 hK2 => ?_)
 refine wp_region_lit ?_
 refine qb hA rfl rfl rfl (qg rfl) ?_
 intro a hA
 refine qb hA rfl rfl rfl (jt hM hg JcB_is1_3 rfl) ?_
 intro a hA
 refine qz hA rfl rfl rfl (xg rfl rfl hi9) (hr9 _ hM.bel) ?_
 rintro _ w4 ⟨rfl, hb3⟩
 replace hM := hM.call hb3
 refine ⟨_, rfl, ?_⟩
 intro a hA
 refine qb hA rfl rfl rfl (qe rfl) ?_
 intro a hA
 refine qa ?_
 refine hK2 _ _ ?_
 refine wp_ret ?_
 refine hret _ _ ?_
 refine je (v := .bool b) hA rfl (.cons (qj rfl) .nil) rfl ?_
 exact ⟨rfl, hM.bel⟩
theorem ztd {w0 w : World} {T : List Ck} {fvs : List Value} {ps : List (Int → Bool)} (hTV : TVs RN w0 T fvs ps) {x9 : Int} (h0 : Below w0.heap.size w0 w) (hO : Ob T w) (hV : RN w x9 (.int .i64 x9)) {g : Nat} (hg : w.cell? ⟨g, 0, none⟩ = some (.int .i64 x9)) : ∀ (i : Nat) (u : Value) (b : Bool) (w1 : World), fvs[i]? = some u → (ps.map fun p => p x9)[i]? = some b → Below w.heap.size w w1 → Calls Tryz.prog 185 ([u] ++ [Value.pointer (some ⟨g, 0, none⟩)]).toArray w1 fun e w' => e = .returned (.bool b) ∧ Below w1.heap.size w1 w' := by
  intro i u b w1 h1 h2 hb
  obtain ⟨p, hp, f9, cs9, rfl, hi9, hr9⟩ := hTV.get h1
  rw [List.getElem?_map, hp, Option.map_some] at h2
  cases h2
  exact znh ((hb.cell (vz hg)).trans hg) hi9 (fun w2 hb2 => hr9 w2 x9 _ ((h0.trans (hb.mono h0.size)).trans (hb2.mono (Nat.le_trans h0.size hb.size))) ((hO.below hb).below hb2) ((hV.below hb).below hb2))
theorem zni {w0 w : World} {T : List Ck} {fvs : List Value} {ps : List (Int → Bool)} (hTV : TVs RN w0 T fvs ps) {x9 : Int} (h0 : Below w0.heap.size w0 w) (hO : Ob T w) (hV : RN w x9 (.int .i64 x9)) {gp : Nat} {so : Option Addr} {ca : Nat} (hgp : w.cell? ⟨gp, 0, none⟩ = some (.slice so fvs.length ca)) (hR : Rc w so fvs) (hl : fvs.length ≤ 4000000) : Calls Tryz.prog 181 #[.int .i64 x9, .pointer (some ⟨gp, 0, none⟩)] w fun e w' => e = .returned (.bool (!(ps.map fun p => !(p x9)).any id)) ∧ Below w.heap.size w w' := by
 have hM : Mg w w ([]) := Mg.start w
 refine qx (l := [(0, .int .i64 x9), (1, .pointer (some ⟨gp, 0, none⟩))]) Tryz.func181 rfl Tryz.ntmps181 rfl rfl ?_
 intro Q hret hnorm hP a hA
 refine wp_seq_k (fun K1 hK1 => ?_)
 refine wp_region_lit ?_
 refine jl (vs := [.int .i64 x9]) (t := 3) hA hM rfl rfl rfl (fun g => .pointer (some ⟨g, 0, none⟩)) (zd rfl rfl) (by decide) ?_
 intro g2 w3 hM a hA
 refine qb hA rfl rfl rfl (qe rfl) ?_
 intro a hA
 refine qa ?_
 refine hK1 _ _ ?_
 refine wp_seq_k (fun K4 hK4 => ?_)
 refine wp_region_lit ?_
 refine qb hA rfl rfl rfl (jt hM hgp JcB_is1_172 rfl) ?_
 intro a hA
 refine qb (v := .func (.func 183) #[] [.pointer (some ⟨g2, 0, none⟩)].toArray) hA rfl rfl rfl (jj rfl) ?_
 intro a hA
 refine qz hA rfl rfl rfl (qk rfl rfl (fun w => by kernel_rfl)) (qcf (qs := ps.map fun p => !(p x9)) (hR.below hM.bel) hl (by rw [List.length_map]; exact hTV.1) (fun us w => by kernel_rfl) (ztc hTV (h0.trans (hM.bel.mono h0.size)) (hO.below hM.bel) (hV.below hM.bel) (hM.cell 0 rfl 0 rfl))) ?_
 rintro _ w6 ⟨rfl, hb5⟩
 replace hM := hM.call hb5
 refine ⟨_, rfl, ?_⟩
 intro a hA
 refine qb (v := .bool (!((ps.map fun p => !(p x9)).any id))) hA rfl rfl rfl (ql rfl qp) ?_
 intro a hA
 refine qb hA rfl rfl rfl (qe rfl) ?_
 intro a hA
 refine qa ?_
 refine hK4 _ _ ?_
 refine wp_ret ?_
 refine hret _ _ ?_
 refine je (v := .bool (!((ps.map fun p => !(p x9)).any id))) hA rfl (.cons (qj rfl) .nil) rfl ?_
 exact ⟨rfl, hM.bel⟩
theorem znj {w0 w : World} {T : List Ck} {fvs : List Value} {ps : List (Int → Bool)} (hTV : TVs RN w0 T fvs ps) {x9 : Int} (h0 : Below w0.heap.size w0 w) (hO : Ob T w) (hV : RN w x9 (.int .i64 x9)) {gp : Nat} {so : Option Addr} {ca : Nat} (hgp : w.cell? ⟨gp, 0, none⟩ = some (.slice so fvs.length ca)) (hR : Rc w so fvs) (hl : fvs.length ≤ 4000000) : Calls Tryz.prog 184 #[.int .i64 x9, .pointer (some ⟨gp, 0, none⟩)] w fun e w' => e = .returned (.bool ((ps.map fun p => p x9).any id)) ∧ Below w.heap.size w w' := by
 have hM : Mg w w ([]) := Mg.start w
 refine qx (l := [(0, .int .i64 x9), (1, .pointer (some ⟨gp, 0, none⟩))]) Tryz.func184 rfl Tryz.ntmps184 rfl rfl ?_
 intro Q hret hnorm hP a hA
 refine wp_seq_k (fun K1 hK1 => ?_)
 refine wp_region_lit ?_
 refine jl (vs := [.int .i64 x9]) (t := 3) hA hM rfl rfl rfl (fun g => .pointer (some ⟨g, 0, none⟩)) (zd rfl rfl) (by decide) ?_
 intro g2 w3 hM a hA
 refine qb hA rfl rfl rfl (qe rfl) ?_
 intro a hA
 refine qa ?_
 refine hK1 _ _ ?_
 refine wp_seq_k (fun K4 hK4 => ?_)
 refine wp_region_lit ?_
 refine qb hA rfl rfl rfl (jt hM hgp JcB_is1_172 rfl) ?_
 intro a hA
 refine qb (v := .func (.func 185) #[] [.pointer (some ⟨g2, 0, none⟩)].toArray) hA rfl rfl rfl (jj rfl) ?_
 intro a hA
 refine qz hA rfl rfl rfl (qk rfl rfl (fun w => by kernel_rfl)) (qcf (qs := ps.map fun p => p x9) (hR.below hM.bel) hl (by rw [List.length_map]; exact hTV.1) (fun us w => by kernel_rfl) (ztd hTV (h0.trans (hM.bel.mono h0.size)) (hO.below hM.bel) (hV.below hM.bel) (hM.cell 0 rfl 0 rfl))) ?_
 rintro _ w6 ⟨rfl, hb5⟩
 replace hM := hM.call hb5
 refine ⟨_, rfl, ?_⟩
 intro a hA
 refine qb hA rfl rfl rfl (qe rfl) ?_
 intro a hA
 refine qa ?_
 refine hK4 _ _ ?_
 refine wp_ret ?_
 refine hret _ _ ?_
 refine je (v := .bool ((ps.map fun p => p x9).any id)) hA rfl (.cons (qj rfl) .nil) rfl ?_
 exact ⟨rfl, hM.bel⟩
theorem zoa {w0 w : World} {T : List Ck} {fvs : List Value} {ps : List (Int → Bool)} (hTV : TVs RN w0 T fvs ps) {x9 : Int} (h0 : Below w0.heap.size w0 w) (hO : Ob T w) (hV : RN w x9 (.int .i64 x9)) {gp : Nat} {so : Option Addr} {ca : Nat} (hgp : w.cell? ⟨gp, 0, none⟩ = some (.slice so fvs.length ca)) (hR : Rc w so fvs) (hl : fvs.length ≤ 4000000) (hn : ps.length = 1) : Calls Tryz.prog 186 #[.int .i64 x9, .pointer (some ⟨gp, 0, none⟩)] w fun e w' => e = .returned (.bool (!((ps.headD fun _ => false) x9))) ∧ Below w.heap.size w w' := by
 have hn1 : fvs.length = 1 := hTV.1.trans hn
 have hM : Mg w w ([]) := Mg.start w
 refine qx (l := [(0, .int .i64 x9), (1, .pointer (some ⟨gp, 0, none⟩))]) Tryz.func186 rfl Tryz.ntmps186 rfl rfl ?_
 intro Q hret hnorm hP a hA
 refine wp_seq_k (fun K1 hK1 => ?_)
 refine wp_region_lit ?_
 refine qb hA rfl rfl rfl (qe rfl) ?_
 intro a hA
 refine qa ?_
 refine hK1 _ _ ?_
 refine wp_seq_k (fun K2 hK2 => ?_)
 refine wp_region_lit ?_
 refine qb hA rfl rfl rfl (jt hM hgp JcB_is1_172 rfl) ?_
 intro a hA
 obtain ⟨bx3, ox4, ux5, hs6, hc7, hi8⟩ := hR.at1 (i := 0) (by  omega)
 obtain ⟨p9, hp9, f9, cs9, rfl, hi9, hr9⟩ := hTV.get hi8
 refine qb (v := .pointer (some ⟨bx3, ox4 + 0, none⟩)) hA rfl rfl rfl (zf (k := 0) Tryz.underlying172 (by kernel_rfl) rfl rfl (by first | rfl | omega) hs6 (by omega)) ?_
 intro a hA
 refine qb hA rfl rfl rfl (jt hM hc7 JcB_is1_175 rfl) ?_
 intro a hA
 refine qb hA rfl rfl rfl (qg rfl) ?_
 intro a hA
 refine qz hA rfl rfl rfl (xg rfl rfl hi9) (hr9 _ x9 _ (h0.trans (hM.bel.mono h0.size)) (hO.below hM.bel) (hV.below hM.bel)) ?_
 rintro _ w10 ⟨rfl, hb9⟩
 replace hM := hM.call hb9
 refine ⟨_, rfl, ?_⟩
 intro a hA
 refine qb (v := .bool (!(p9 x9))) hA rfl rfl rfl (ql rfl qp) ?_
 intro a hA
 refine qb hA rfl rfl rfl (qe rfl) ?_
 intro a hA
 refine qa ?_
 refine hK2 _ _ ?_
 refine wp_ret ?_
 refine hret _ _ ?_
 refine je (v := .bool (!(p9 x9))) hA rfl (.cons (qj rfl) .nil) rfl ?_
 refine ⟨?_, hM.bel⟩
 match ps, hn, hp9 with
 | [p], _, h => cases h; rfl
theorem zob {w : World} {x9 : List Int} {sv : Option Addr} {cv : Nat} {g : Nat} (hg : w.cell? ⟨g, 0, none⟩ = some (.slice sv x9.length cv)) {f9 : FuncId} {cs9 : List Value} {b : Bool} (hi9 : ∀ (us : Array Value) (w : World), (callFunc f9 us).run Tryz.prog w = .ok (.enter f9 us) w) (hr9 : ∀ w1 : World, Below w.heap.size w w1 → Calls Tryz.prog f9 ([Value.slice sv x9.length cv] ++ cs9).toArray w1 fun e w' => e = .returned (.bool b) ∧ Below w1.heap.size w1 w') : Calls Tryz.prog 114 #[.func (.func f9) #[] cs9.toArray, .pointer (some ⟨g, 0, none⟩)] w fun e w' => e = .returned (.bool (!b)) ∧ Below w.heap.size w w' := by
 have hM : Mg w w ([]) := Mg.start w
 refine qx (l := [(0, .func (.func f9) #[] cs9.toArray), (1, .pointer (some ⟨g, 0, none⟩))]) Tryz.func114 rfl Tryz.ntmps114 rfl rfl ?_
 intro Q hret hnorm hP a hA
 refine wp_seq_k (fun K1 hK1 => ?_)
 refine wp_region_lit ?_
 refine qb hA rfl rfl rfl (qe rfl) ?_
 intro a hA
 refine qa ?_
 refine hK1 _ _ ?_
 refine wp_seq_k (fun K2 hK2 => ?_)
 refine wp_region_lit ?_
 refine qb hA rfl rfl rfl (qg rfl) ?_
 intro a hA
 refine qb hA rfl rfl rfl (jt hM hg JcB_is1_38 rfl) ?_
 intro a hA
 refine qz hA rfl rfl rfl (xg rfl rfl hi9) (hr9 _ hM.bel) ?_
 rintro _ w4 ⟨rfl, hb3⟩
 replace hM := hM.call hb3
 refine ⟨_, rfl, ?_⟩
 intro a hA
 refine qb (v := .bool (!b)) hA rfl rfl rfl (ql rfl qp) ?_
 intro a hA
 refine qb hA rfl rfl rfl (qe rfl) ?_
 intro a hA
 refine qa ?_
 refine hK2 _ _ ?_
 refine wp_ret ?_
 refine hret _ _ ?_
 refine je (v := .bool (!b)) hA rfl (.cons (qj rfl) .nil) rfl ?_
 exact ⟨rfl, hM.bel⟩
theorem zte {w0 w : World} {T : List Ck} {fvs : List Value} {ps : List (List Int → Bool)} (hTV : TVs RV w0 T fvs ps) {x9 : List Int} {sv : Option Addr} {cv : Nat} (h0 : Below w0.heap.size w0 w) (hO : Ob T w) (hV : RV w x9 (.slice sv x9.length cv)) {g : Nat} (hg : w.cell? ⟨g, 0, none⟩ = some (.slice sv x9.length cv)) : ∀ (i : Nat) (u : Value) (b : Bool) (w1 : World), fvs[i]? = some u → (ps.map fun p => !(p x9))[i]? = some b → Below w.heap.size w w1 → Calls Tryz.prog 114 ([u] ++ [Value.pointer (some ⟨g, 0, none⟩)]).toArray w1 fun e w' => e = .returned (.bool b) ∧ Below w1.heap.size w1 w' := by
  intro i u b w1 h1 h2 hb
  obtain ⟨p, hp, f9, cs9, rfl, hi9, hr9⟩ := hTV.get h1
  rw [List.getElem?_map, hp, Option.map_some] at h2
  cases h2
  exact zob ((hb.cell (vz hg)).trans hg) hi9 (fun w2 hb2 => hr9 w2 x9 _ ((h0.trans (hb.mono h0.size)).trans (hb2.mono (Nat.le_trans h0.size hb.size))) ((hO.below hb).below hb2) ((hV.below hb).below hb2))
theorem zoc {w : World} {x9 : List Int} {sv : Option Addr} {cv : Nat} {g : Nat} (hg : w.cell? ⟨g, 0, none⟩ = some (.slice sv x9.length cv)) {f9 : FuncId} {cs9 : List Value} {b : Bool} (hi9 : ∀ (us : Array Value) (w : World), (callFunc f9 us).run Tryz.prog w = .ok (.enter f9 us) w) (hr9 : ∀ w1 : World, Below w.heap.size w w1 → Calls Tryz.prog f9 ([Value.slice sv x9.length cv] ++ cs9).toArray w1 fun e w' => e = .returned (.bool b) ∧ Below w1.heap.size w1 w') : Calls Tryz.prog 116 #[.func (.func f9) #[] cs9.toArray, .pointer (some ⟨g, 0, none⟩)] w fun e w' => e = .returned (.bool (b)) ∧ Below w.heap.size w w' := by
 have hM : Mg w w ([]) := Mg.start w
 refine qx (l := [(0, .func (.func f9) #[] cs9.toArray), (1, .pointer (some ⟨g, 0, none⟩))]) Tryz.func116 rfl Tryz.ntmps116 rfl rfl ?_
 intro Q hret hnorm hP a hA
 refine wp_seq_k (fun K1 hK1 => ?_)
 refine wp_region_lit ?_
 refine qb hA rfl rfl rfl (qe rfl) ?_
 intro a hA
 refine qa ?_
 refine hK1 _ _ ?_
 refine wp_seq_k (fun K2 hK2 => ?_)
 refine wp_region_lit ?_
 refine qb hA rfl rfl rfl (qg rfl) ?_
 intro a hA
 refine qb hA rfl rfl rfl (jt hM hg JcB_is1_38 rfl) ?_
 intro a hA
 refine qz hA rfl rfl rfl (xg rfl rfl hi9) (hr9 _ hM.bel) ?_
 rintro _ w4 ⟨rfl, hb3⟩
 replace hM := hM.call hb3
 refine ⟨_, rfl, ?_⟩
 intro a hA
 refine qb hA rfl rfl rfl (qe rfl) ?_
 intro a hA
 refine qa ?_
 refine hK2 _ _ ?_
 refine wp_ret ?_
 refine hret _ _ ?_
 refine je (v := .bool b) hA rfl (.cons (qj rfl) .nil) rfl ?_
 exact ⟨rfl, hM.bel⟩
theorem ztf {w0 w : World} {T : List Ck} {fvs : List Value} {ps : List (List Int → Bool)} (hTV : TVs RV w0 T fvs ps) {x9 : List Int} {sv : Option Addr} {cv : Nat} (h0 : Below w0.heap.size w0 w) (hO : Ob T w) (hV : RV w x9 (.slice sv x9.length cv)) {g : Nat} (hg : w.cell? ⟨g, 0, none⟩ = some (.slice sv x9.length cv)) : ∀ (i : Nat) (u : Value) (b : Bool) (w1 : World), fvs[i]? = some u → (ps.map fun p => p x9)[i]? = some b → Below w.heap.size w w1 → Calls Tryz.prog 116 ([u] ++ [Value.pointer (some ⟨g, 0, none⟩)]).toArray w1 fun e w' => e = .returned (.bool b) ∧ Below w1.heap.size w1 w' := by
  intro i u b w1 h1 h2 hb
  obtain ⟨p, hp, f9, cs9, rfl, hi9, hr9⟩ := hTV.get h1
  rw [List.getElem?_map, hp, Option.map_some] at h2
  cases h2
  exact zoc ((hb.cell (vz hg)).trans hg) hi9 (fun w2 hb2 => hr9 w2 x9 _ ((h0.trans (hb.mono h0.size)).trans (hb2.mono (Nat.le_trans h0.size hb.size))) ((hO.below hb).below hb2) ((hV.below hb).below hb2))
theorem zod {w0 w : World} {T : List Ck} {fvs : List Value} {ps : List (List Int → Bool)} (hTV : TVs RV w0 T fvs ps) {x9 : List Int} {sv : Option Addr} {cv : Nat} (h0 : Below w0.heap.size w0 w) (hO : Ob T w) (hV : RV w x9 (.slice sv x9.length cv)) {gp : Nat} {so : Option Addr} {ca : Nat} (hgp : w.cell? ⟨gp, 0, none⟩ = some (.slice so fvs.length ca)) (hR : Rc w so fvs) (hl : fvs.length ≤ 4000000) : Calls Tryz.prog 112 #[.slice sv x9.length cv, .pointer (some ⟨gp, 0, none⟩)] w fun e w' => e = .returned (.bool (!(ps.map fun p => !(p x9)).any id)) ∧ Below w.heap.size w w' := by
 have hM : Mg w w ([]) := Mg.start w
 refine qx (l := [(0, .slice sv x9.length cv), (1, .pointer (some ⟨gp, 0, none⟩))]) Tryz.func112 rfl Tryz.ntmps112 rfl rfl ?_
 intro Q hret hnorm hP a hA
 refine wp_seq_k (fun K1 hK1 => ?_)
 refine wp_region_lit ?_
 refine jl (vs := [.slice sv x9.length cv]) (t := 38) hA hM rfl rfl rfl (fun g => .pointer (some ⟨g, 0, none⟩)) (zd rfl rfl) (by decide) ?_
 intro g2 w3 hM a hA
 refine qb hA rfl rfl rfl (qe rfl) ?_
 intro a hA
 refine qa ?_
 refine hK1 _ _ ?_
 refine wp_seq_k (fun K4 hK4 => ?_)
 refine wp_region_lit ?_
 refine qb hA rfl rfl rfl (jt hM hgp JcB_is1_167 rfl) ?_
 intro a hA
 refine qb (v := .func (.func 114) #[] [.pointer (some ⟨g2, 0, none⟩)].toArray) hA rfl rfl rfl (jj rfl) ?_
 intro a hA
 refine qz hA rfl rfl rfl (qk rfl rfl (fun w => by kernel_rfl)) (qcg (qs := ps.map fun p => !(p x9)) (hR.below hM.bel) hl (by rw [List.length_map]; exact hTV.1) (fun us w => by kernel_rfl) (zte hTV (h0.trans (hM.bel.mono h0.size)) (hO.below hM.bel) (hV.below hM.bel) (hM.cell 0 rfl 0 rfl))) ?_
 rintro _ w6 ⟨rfl, hb5⟩
 replace hM := hM.call hb5
 refine ⟨_, rfl, ?_⟩
 intro a hA
 refine qb (v := .bool (!((ps.map fun p => !(p x9)).any id))) hA rfl rfl rfl (ql rfl qp) ?_
 intro a hA
 refine qb hA rfl rfl rfl (qe rfl) ?_
 intro a hA
 refine qa ?_
 refine hK4 _ _ ?_
 refine wp_ret ?_
 refine hret _ _ ?_
 refine je (v := .bool (!((ps.map fun p => !(p x9)).any id))) hA rfl (.cons (qj rfl) .nil) rfl ?_
 exact ⟨rfl, hM.bel⟩
theorem zoe {w0 w : World} {T : List Ck} {fvs : List Value} {ps : List (List Int → Bool)} (hTV : TVs RV w0 T fvs ps) {x9 : List Int} {sv : Option Addr} {cv : Nat} (h0 : Below w0.heap.size w0 w) (hO : Ob T w) (hV : RV w x9 (.slice sv x9.length cv)) {gp : Nat} {so : Option Addr} {ca : Nat} (hgp : w.cell? ⟨gp, 0, none⟩ = some (.slice so fvs.length ca)) (hR : Rc w so fvs) (hl : fvs.length ≤ 4000000) : Calls Tryz.prog 115 #[.slice sv x9.length cv, .pointer (some ⟨gp, 0, none⟩)] w fun e w' => e = .returned (.bool ((ps.map fun p => p x9).any id)) ∧ Below w.heap.size w w' := by
 have hM : Mg w w ([]) := Mg.start w
 refine qx (l := [(0, .slice sv x9.length cv), (1, .pointer (some ⟨gp, 0, none⟩))]) Tryz.func115 rfl Tryz.ntmps115 rfl rfl ?_
 intro Q hret hnorm hP a hA
 refine wp_seq_k (fun K1 hK1 => ?_)
 refine wp_region_lit ?_
 refine jl (vs := [.slice sv x9.length cv]) (t := 38) hA hM rfl rfl rfl (fun g => .pointer (some ⟨g, 0, none⟩)) (zd rfl rfl) (by decide) ?_
 intro g2 w3 hM a hA
 refine qb hA rfl rfl rfl (qe rfl) ?_
 intro a hA
 refine qa ?_
 refine hK1 _ _ ?_
 refine wp_seq_k (fun K4 hK4 => ?_)
 refine wp_region_lit ?_
 refine qb hA rfl rfl rfl (jt hM hgp JcB_is1_167 rfl) ?_
 intro a hA
 refine qb (v := .func (.func 116) #[] [.pointer (some ⟨g2, 0, none⟩)].toArray) hA rfl rfl rfl (jj rfl) ?_
 intro a hA
 refine qz hA rfl rfl rfl (qk rfl rfl (fun w => by kernel_rfl)) (qcg (qs := ps.map fun p => p x9) (hR.below hM.bel) hl (by rw [List.length_map]; exact hTV.1) (fun us w => by kernel_rfl) (ztf hTV (h0.trans (hM.bel.mono h0.size)) (hO.below hM.bel) (hV.below hM.bel) (hM.cell 0 rfl 0 rfl))) ?_
 rintro _ w6 ⟨rfl, hb5⟩
 replace hM := hM.call hb5
 refine ⟨_, rfl, ?_⟩
 intro a hA
 refine qb hA rfl rfl rfl (qe rfl) ?_
 intro a hA
 refine qa ?_
 refine hK4 _ _ ?_
 refine wp_ret ?_
 refine hret _ _ ?_
 refine je (v := .bool ((ps.map fun p => p x9).any id)) hA rfl (.cons (qj rfl) .nil) rfl ?_
 exact ⟨rfl, hM.bel⟩
theorem zof {w0 w : World} {T : List Ck} {fvs : List Value} {ps : List (List Int → Bool)} (hTV : TVs RV w0 T fvs ps) {x9 : List Int} {sv : Option Addr} {cv : Nat} (h0 : Below w0.heap.size w0 w) (hO : Ob T w) (hV : RV w x9 (.slice sv x9.length cv)) {gp : Nat} {so : Option Addr} {ca : Nat} (hgp : w.cell? ⟨gp, 0, none⟩ = some (.slice so fvs.length ca)) (hR : Rc w so fvs) (hl : fvs.length ≤ 4000000) (hn : ps.length = 1) : Calls Tryz.prog 117 #[.slice sv x9.length cv, .pointer (some ⟨gp, 0, none⟩)] w fun e w' => e = .returned (.bool (!((ps.headD fun _ => false) x9))) ∧ Below w.heap.size w w' := by
 have hn1 : fvs.length = 1 := hTV.1.trans hn
 have hM : Mg w w ([]) := Mg.start w
 refine qx (l := [(0, .slice sv x9.length cv), (1, .pointer (some ⟨gp, 0, none⟩))]) Tryz.func117 rfl Tryz.ntmps117 rfl rfl ?_
 intro Q hret hnorm hP a hA
 refine wp_seq_k (fun K1 hK1 => ?_)
 refine wp_region_lit ?_
 refine qb hA rfl rfl rfl (qe rfl) ?_
 intro a hA
 refine qa ?_
 refine hK1 _ _ ?_
 refine wp_seq_k (fun K2 hK2 => ?_)
 refine wp_region_lit ?_
 refine qb hA rfl rfl rfl (jt hM hgp JcB_is1_167 rfl) ?_
 intro a hA
 obtain ⟨bx3, ox4, ux5, hs6, hc7, hi8⟩ := hR.at1 (i := 0) (by  omega)
 obtain ⟨p9, hp9, f9, cs9, rfl, hi9, hr9⟩ := hTV.get hi8
 refine qb (v := .pointer (some ⟨bx3, ox4 + 0, none⟩)) hA rfl rfl rfl (zf (k := 0) Tryz.underlying167 (by kernel_rfl) rfl rfl (by first | rfl | omega) hs6 (by omega)) ?_
 intro a hA
 refine qb hA rfl rfl rfl (jt hM hc7 JcB_is1_88 rfl) ?_
 intro a hA
 refine qb hA rfl rfl rfl (qg rfl) ?_
 intro a hA
 refine qz hA rfl rfl rfl (xg rfl rfl hi9) (hr9 _ x9 _ (h0.trans (hM.bel.mono h0.size)) (hO.below hM.bel) (hV.below hM.bel)) ?_
 rintro _ w10 ⟨rfl, hb9⟩
 replace hM := hM.call hb9
 refine ⟨_, rfl, ?_⟩
 intro a hA
 refine qb (v := .bool (!(p9 x9))) hA rfl rfl rfl (ql rfl qp) ?_
 intro a hA
 refine qb hA rfl rfl rfl (qe rfl) ?_
 intro a hA
 refine qa ?_
 refine hK2 _ _ ?_
 refine wp_ret ?_
 refine hret _ _ ?_
 refine je (v := .bool (!(p9 x9))) hA rfl (.cons (qj rfl) .nil) rfl ?_
 refine ⟨?_, hM.bel⟩
 match ps, hn, hp9 with
 | [p], _, h => cases h; rfl
theorem zjg {w0 w : World} {T : List Ck} {fvs : List Value} {ps : List (Int → Bool)} (hTV : TVs RN w0 T fvs ps) {x9 : List Int} {sv : Option Addr} {cv : Nat} (h0 : Below w0.heap.size w0 w) (hO : Ob T w) (hv : Rc w sv (izC x9)) (hla : x9.length ≤ 2000000) {gp : Nat} {so : Option Addr} {ca : Nat} (hgp : w.cell? ⟨gp, 0, none⟩ = some (.slice so fvs.length ca)) (hR : Rc w so fvs) (hl : fvs.length ≤ 4000000) : Calls Tryz.prog 120 #[.slice sv x9.length cv, .pointer (some ⟨gp, 0, none⟩)] w fun e w' => e = .returned (.bool (uf ps x9)) ∧ Below w.heap.size w w' := by
 have hM : Mg w w ([]) := Mg.start w
 refine qx (l := [(0, .slice sv x9.length cv), (1, .pointer (some ⟨gp, 0, none⟩))]) Tryz.func120 rfl Tryz.ntmps120 rfl rfl ?_
 intro Q hret hnorm hP a hA
 refine wp_seq_k (fun K1 hK1 => ?_)
 refine wp_region_lit ?_
 refine qb hA rfl rfl rfl (qe rfl) ?_
 intro a hA
 refine qa ?_
 refine hK1 _ _ ?_
 refine wp_seq_k (fun K2 hK2 => ?_)
 refine wp_seq_k (fun K3 hK3 => ?_)
 refine wp_region_lit ?_
 refine qb hA rfl rfl rfl (qg rfl) ?_
 intro a hA
 refine qb (v := .int .i64 (((x9.length : Nat) : Int))) hA rfl rfl rfl (qy Tryz.underlying38 rfl) ?_
 intro a hA
 refine qb hA rfl rfl rfl (jt hM hgp JcB_is1_172 rfl) ?_
 intro a hA
 refine qb (v := .int .i64 (((fvs.length : Nat) : Int))) hA rfl rfl rfl (qy Tryz.underlying172 rfl) ?_
 intro a hA
 rcases Bool.eq_false_or_eq_true (decide (((x9.length : Nat) : Int) < ((fvs.length : Nat) : Int))) with hb4 | hb4
 · have hb4' := of_decide_eq_true hb4
   refine qb (v := .bool true) hA rfl rfl rfl (qh rfl rfl (fun w => (zh w).trans (by rw [hb4]))) ?_
   intro a hA
   refine qa ?_
   refine hK3 _ _ ?_
   refine wp_cond_true (hA.ev rfl) ?_
   refine wp_seq_k (fun K5 hK5 => ?_)
   refine wp_region_lit ?_
   refine qb hA rfl rfl rfl (qe rfl) ?_
   intro a hA
   refine qa ?_
   refine hK5 _ _ ?_
   refine wp_ret ?_
   refine hret _ _ ?_
   refine je (v := .bool false) hA rfl (.cons (qj rfl) .nil) rfl ?_
   exact ⟨by rw [qdh (show x9.length < ps.length by have := hTV.1; omega)], hM.bel⟩
 · have hb4' := of_decide_eq_false hb4
   refine qb (v := .bool false) hA rfl rfl rfl (qh rfl rfl (fun w => (zh w).trans (by rw [hb4]))) ?_
   intro a hA
   refine qa ?_
   refine hK3 _ _ ?_
   refine wp_cond_false (hA.ev rfl) ?_
   refine wp_skip ?_
   refine hK2 _ _ ?_
   refine wp_seq_k (fun K6 hK6 => ?_)
   refine wp_seq_k (fun K7 hK7 => ?_)
   refine wp_region_lit ?_
   refine qb hA rfl rfl rfl (jt hM hgp JcB_is1_172 rfl) ?_
   intro a hA
   refine qb (v := .int .i64 (((fvs.length : Nat) : Int))) hA rfl rfl rfl (qy Tryz.underlying172 rfl) ?_
   intro a hA
   refine qb hA rfl rfl rfl (qg rfl) ?_
   intro a hA
   refine qa ?_
   refine hK7 _ _ ?_
   refine wp_block ?_
   refine jc (fun m_ a w1 => ∃ (i : Nat), m_ = 1 + (fvs.length - i) ∧ (i ≤ fvs.length ∧ uf ps x9 = uf (ps.drop i) (x9.drop i)) ∧ Sl a 26 [(0, .slice sv x9.length cv), (1, .pointer (some ⟨gp, 0, none⟩)), (6, .slice sv x9.length cv), (7, .int .i64 (((x9.length : Nat) : Int))), (8, .slice so fvs.length ca), (9, .int .i64 (((fvs.length : Nat) : Int))), (10, .bool false), (11, .slice so fvs.length ca), (12, .int .i64 (((fvs.length : Nat) : Int))), (13, .int .i64 (((i : Nat) : Int)))] ∧ Mg w w1 ([])) _ ⟨0, rfl, ⟨Nat.zero_le _, rfl⟩, hA.keep _ (by repeat' constructor), hM⟩ ?_
   clear hM hA
   rintro m_ a w8 ⟨i, rfl, hinv10, hA, hM⟩ K9 hK9
   obtain ⟨hi0, hin9⟩ := hinv10
   refine wp_seq_k (fun K11 hK11 => ?_)
   refine wp_region_lit ?_
   rcases Bool.eq_false_or_eq_true (decide (((i : Nat) : Int) < ((fvs.length : Nat) : Int))) with hb12 | hb12
   · have hb12' := of_decide_eq_true hb12
     refine qb (v := .bool true) hA rfl rfl rfl (qh rfl rfl (fun w => (zh w).trans (by rw [hb12]))) ?_
     intro a hA
     refine qa ?_
     refine hK11 _ _ ?_
     refine wp_seq_k (fun K13 hK13 => ?_)
     refine wp_cond_true (hA.ev rfl) ?_
     refine wp_skip ?_
     refine hK13 _ _ ?_
     refine wp_seq_k (fun K14 hK14 => ?_)
     refine wp_block ?_
     refine wp_seq_k (fun K15 hK15 => ?_)
     refine wp_region_lit ?_
     refine qb hA rfl rfl rfl (qg rfl) ?_
     intro a hA
     obtain ⟨bx16, ox17, ux18, hs19, hc20, hi21⟩ := hR.at1 (i := i) (by (try rw [uz]); omega)
     obtain ⟨p9, hp9, f9, cs9, rfl, hi9, hr9⟩ := hTV.get hi21
     refine qb (v := .pointer (some ⟨bx16, ox17 + i, none⟩)) hA rfl rfl rfl (zf (k := i) Tryz.underlying172 (by kernel_rfl) rfl rfl (by first | rfl | omega) hs19 (by omega)) ?_
     intro a hA
     refine qb hA rfl rfl rfl (jt hM hc20 JcB_is1_175 rfl) ?_
     intro a hA
     refine qb hA rfl rfl rfl (qe rfl) ?_
     intro a hA
     refine qb hA rfl rfl rfl (qe rfl) ?_
     intro a hA
     refine qa ?_
     refine hK15 _ _ ?_
     refine wp_seq_k (fun K22 hK22 => ?_)
     refine wp_region_lit ?_
     refine qb hA rfl rfl rfl (qg rfl) ?_
     intro a hA
     refine qb hA rfl rfl rfl (qg rfl) ?_
     intro a hA
     refine qb hA rfl rfl rfl (qg rfl) ?_
     intro a hA
     obtain ⟨bx23, ox24, ux25, hs26, hc27, hi28⟩ := hv.at1 (i := i) (by (try rw [uz]); omega)
     obtain ⟨z9, hz9, rfl⟩ := qse hi28
     refine qb (v := .pointer (some ⟨bx23, ox24 + i, none⟩)) hA rfl rfl rfl (zf (k := i) Tryz.underlying38 (by kernel_rfl) rfl rfl (by first | rfl | omega) hs26 (by omega)) ?_
     intro a hA
     refine qb hA rfl rfl rfl (jt hM hc27 JcB_is1_3 rfl) ?_
     intro a hA
     rcases Bool.eq_false_or_eq_true (p9 z9) with hb29 | hb29
     · refine qz hA rfl rfl rfl (xg rfl rfl hi9) ((hb29 ▸ hr9 _ z9 _ (h0.trans (hM.bel.mono h0.size)) (hO.below hM.bel) rfl)) ?_
       rintro _ w31 ⟨rfl, hb30⟩
       replace hM := hM.call hb30
       refine ⟨_, rfl, ?_⟩
       intro a hA
       refine qb (v := .bool false) hA rfl rfl rfl (ql rfl qp) ?_
       intro a hA
       refine qa ?_
       refine hK22 _ _ ?_
       refine wp_cond_false (hA.ev rfl) ?_
       refine wp_skip ?_
       refine hK14 _ _ ?_
       refine wp_region_lit ?_
       refine qb (v := .int .i64 (((i + 1 : Nat) : Int))) hA rfl rfl rfl (qh rfl rfl (ar_add ((in_i64 (by omega) (by omega)).trans (by omega)))) ?_
       intro a hA
       refine qb hA rfl rfl rfl (qg rfl) ?_
       intro a hA
       refine qa ?_
       refine hK9 _ _ _ (by omega) ⟨i + 1, rfl, ⟨by omega, by rw [hin9, qph hp9 hz9, hb29, Bool.true_and]⟩, hA.keep _ (by repeat' constructor), hM⟩
     · refine qz hA rfl rfl rfl (xg rfl rfl hi9) ((hb29 ▸ hr9 _ z9 _ (h0.trans (hM.bel.mono h0.size)) (hO.below hM.bel) rfl)) ?_
       rintro _ w33 ⟨rfl, hb32⟩
       replace hM := hM.call hb32
       refine ⟨_, rfl, ?_⟩
       intro a hA
       refine qb (v := .bool true) hA rfl rfl rfl (ql rfl qp) ?_
       intro a hA
       refine qa ?_
       refine hK22 _ _ ?_
       refine wp_cond_true (hA.ev rfl) ?_
       refine wp_seq_k (fun K34 hK34 => ?_)
       refine wp_region_lit ?_
       refine qb hA rfl rfl rfl (qe rfl) ?_
       intro a hA
       refine qa ?_
       refine hK34 _ _ ?_
       refine wp_ret ?_
       refine hret _ _ ?_
       refine je (v := .bool false) hA rfl (.cons (qj rfl) .nil) rfl ?_
       exact ⟨by rw [hin9, qph hp9 hz9, hb29]; rfl, hM.bel⟩
   · have hb12' := of_decide_eq_false hb12
     refine qb (v := .bool false) hA rfl rfl rfl (qh rfl rfl (fun w => (zh w).trans (by rw [hb12]))) ?_
     intro a hA
     refine qa ?_
     refine hK11 _ _ ?_
     refine wp_seq_k (fun K35 hK35 => ?_)
     refine wp_cond_false (hA.ev rfl) ?_
     refine wp_exit ?_
     refine hK6 _ _ ?_
     refine wp_seq_k (fun K36 hK36 => ?_)
     refine wp_region_lit ?_
     refine qb hA rfl rfl rfl (qe rfl) ?_
     intro a hA
     refine qa ?_
     refine hK36 _ _ ?_
     refine wp_ret ?_
     refine hret _ _ ?_
     refine je (v := .bool true) hA rfl (.cons (qj rfl) .nil) rfl ?_
     exact ⟨by rw [hin9, List.drop_of_length_le (show ps.length ≤ i by have := hTV.1; omega)]; rfl, hM.bel⟩
theorem zog {w : World} {z b : Int} {g : Nat} (hg : w.cell? ⟨g, 0, none⟩ = some (.int .i64 b)) : Calls Tryz.prog 148 #[.int .i64 z, .pointer (some ⟨g, 0, none⟩)] w fun e w' => e = .returned (.bool (z == b)) ∧ Below w.heap.size w w' := by
 have hM : Mg w w ([]) := Mg.start w
 refine qx (l := [(0, .int .i64 z), (1, .pointer (some ⟨g, 0, none⟩))]) Tryz.func148 rfl Tryz.ntmps148 rfl rfl ?_
 intro Q hret hnorm hP a hA
 refine wp_seq_k (fun K1 hK1 => ?_)
 refine wp_region_lit ?_
 refine qb hA rfl rfl rfl (qe rfl) ?_
 intro a hA
 refine qa ?_
 refine hK1 _ _ ?_
 refine wp_seq_k (fun K2 hK2 => ?_)
 refine wp_region_lit ?_
 refine qb hA rfl rfl rfl (qg rfl) ?_
 intro a hA
 refine qb hA rfl rfl rfl (jt hM hg JcB_is1_3 rfl) ?_
 intro a hA
 refine qb (v := .bool ((z == b))) hA rfl rfl rfl (qh rfl rfl qt) ?_
 intro a hA
 refine qb hA rfl rfl rfl (qe rfl) ?_
 intro a hA
 refine qa ?_
 refine hK2 _ _ ?_
 refine wp_ret ?_
 refine hret _ _ ?_
 refine je (v := .bool ((z == b))) hA rfl (.cons (qj rfl) .nil) rfl ?_
 exact ⟨rfl, hM.bel⟩
theorem zjh {w : World} {z b : Int} : Calls Tryz.prog 150 #[.int .i64 z, .int .i64 b] w fun e w' => e = .returned (.bool (decide (b ≤ z))) ∧ Below w.heap.size w w' := by
 have hM : Mg w w ([]) := Mg.start w
 refine qx (l := [(0, .int .i64 z), (1, .int .i64 b)]) Tryz.func150 rfl Tryz.ntmps150 rfl rfl ?_
 intro Q hret hnorm hP a hA
 refine wp_seq_k (fun K1 hK1 => ?_)
 refine wp_region_lit ?_
 refine qb hA rfl rfl rfl (qe rfl) ?_
 intro a hA
 refine qa ?_
 refine hK1 _ _ ?_
 refine wp_seq_k (fun K2 hK2 => ?_)
 refine wp_region_lit ?_
 refine qb hA rfl rfl rfl (qg rfl) ?_
 intro a hA
 refine qb hA rfl rfl rfl (qg rfl) ?_
 intro a hA
 refine qb (v := .bool (decide (b ≤ z))) hA rfl rfl rfl (qh rfl rfl ju) ?_
 intro a hA
 refine qb hA rfl rfl rfl (qe rfl) ?_
 intro a hA
 refine qa ?_
 refine hK2 _ _ ?_
 refine wp_ret ?_
 refine hret _ _ ?_
 refine je (v := .bool (decide (b ≤ z))) hA rfl (.cons (qj rfl) .nil) rfl ?_
 exact ⟨rfl, hM.bel⟩
theorem zbe {w : World} {z b : Int} {gh gb : Nat} {sb : Option Addr} {cb : Nat} (hgh : w.cell? ⟨gh, 0, none⟩ = some (.func (.func 150) #[] #[])) (hgb : w.cell? ⟨gb, 0, none⟩ = some (.slice sb 1 cb)) (hb : Rc w sb (izC [b])) : Calls Tryz.prog 180 #[.int .i64 z, .pointer (some ⟨gh, 0, none⟩), .pointer (some ⟨gb, 0, none⟩)] w fun e w' => e = .returned (.bool (decide (b ≤ z))) ∧ Below w.heap.size w w' := by
 have hM : Mg w w ([]) := Mg.start w
 refine qx (l := [(0, .int .i64 z), (1, .pointer (some ⟨gh, 0, none⟩)), (2, .pointer (some ⟨gb, 0, none⟩))]) Tryz.func180 rfl Tryz.ntmps180 rfl rfl ?_
 intro Q hret hnorm hP a hA
 refine wp_seq_k (fun K1 hK1 => ?_)
 refine wp_region_lit ?_
 refine qb hA rfl rfl rfl (qe rfl) ?_
 intro a hA
 refine qa ?_
 refine hK1 _ _ ?_
 refine wp_seq_k (fun K2 hK2 => ?_)
 refine vd (S := fun w1 => Mg w w1 ([])) (by kernel_rfl) ?_
 replace hM := hM.drew
 refine zr hA 0 rfl rfl rfl rfl hP (hM.sub (List.nil_sublist _)) (fun w1 hM => jt hM hgh JcB_is1_131 rfl) ?_
 intro a hA
 refine zr hA 1 rfl rfl rfl rfl hP (hM.sub (List.nil_sublist _)) (fun w1 hM => qg rfl) ?_
 intro a hA
 refine zr hA 2 rfl rfl rfl rfl hP (hM.sub (List.nil_sublist _)) (fun w1 hM => jt hM hgb JcB_is1_38 rfl) ?_
 intro a hA
 obtain ⟨bx3, ox4, ux5, hs6, hc7, hi8⟩ := hb.at1 (i := 0) (by (show 0 < 1); omega)
 obtain rfl : ux5 = .int .i64 b := by simpa [izC] using hi8.symm
 refine zr (v := .pointer (some ⟨bx3, ox4 + 0, none⟩)) hA 3 rfl rfl rfl rfl hP (hM.sub (List.nil_sublist _)) (fun w1 hM => zf (k := 0) Tryz.underlying38 (by kernel_rfl) rfl rfl (by first | rfl | omega) hs6 (by omega)) ?_
 intro a hA
 refine zr hA 4 rfl rfl rfl rfl hP (hM.sub (List.nil_sublist _)) (fun w1 hM => jt hM hc7 JcB_is1_3 rfl) ?_
 intro a hA
 refine xn (by kernel_rfl) (vb hA 5 rfl rfl rfl rfl (qk rfl rfl (fun w => by kernel_rfl)) (zjh) ?_)
 rintro _ w10 ⟨rfl, hb9⟩
 replace hM := hM.call hb9
 refine ⟨_, rfl, (hM.sub (List.nil_sublist _)), ?_⟩
 intro a hA
 refine zr hA 6 rfl rfl rfl rfl hP (hM.sub (List.nil_sublist _)) (fun w1 hM => qe rfl) ?_
 intro a hA
 refine xp (by kernel_rfl) ?_
 refine hK2 _ _ ?_
 refine wp_ret ?_
 refine hret _ _ ?_
 refine je (v := .bool (decide (b ≤ z))) hA rfl (.cons (qj rfl) .nil) rfl ?_
 exact ⟨rfl, hM.bel⟩
theorem zji {w : World} {z b : Int} : Calls Tryz.prog 151 #[.int .i64 z, .int .i64 b] w fun e w' => e = .returned (.bool (decide (z ≤ b))) ∧ Below w.heap.size w w' := by
 have hM : Mg w w ([]) := Mg.start w
 refine qx (l := [(0, .int .i64 z), (1, .int .i64 b)]) Tryz.func151 rfl Tryz.ntmps151 rfl rfl ?_
 intro Q hret hnorm hP a hA
 refine wp_seq_k (fun K1 hK1 => ?_)
 refine wp_region_lit ?_
 refine qb hA rfl rfl rfl (qe rfl) ?_
 intro a hA
 refine qa ?_
 refine hK1 _ _ ?_
 refine wp_seq_k (fun K2 hK2 => ?_)
 refine wp_region_lit ?_
 refine qb hA rfl rfl rfl (qg rfl) ?_
 intro a hA
 refine qb hA rfl rfl rfl (qg rfl) ?_
 intro a hA
 refine qb (v := .bool (decide (z ≤ b))) hA rfl rfl rfl (qh rfl rfl vu) ?_
 intro a hA
 refine qb hA rfl rfl rfl (qe rfl) ?_
 intro a hA
 refine qa ?_
 refine hK2 _ _ ?_
 refine wp_ret ?_
 refine hret _ _ ?_
 refine je (v := .bool (decide (z ≤ b))) hA rfl (.cons (qj rfl) .nil) rfl ?_
 exact ⟨rfl, hM.bel⟩
theorem zbf {w : World} {z b : Int} {gh gb : Nat} {sb : Option Addr} {cb : Nat} (hgh : w.cell? ⟨gh, 0, none⟩ = some (.func (.func 151) #[] #[])) (hgb : w.cell? ⟨gb, 0, none⟩ = some (.slice sb 1 cb)) (hb : Rc w sb (izC [b])) : Calls Tryz.prog 180 #[.int .i64 z, .pointer (some ⟨gh, 0, none⟩), .pointer (some ⟨gb, 0, none⟩)] w fun e w' => e = .returned (.bool (decide (z ≤ b))) ∧ Below w.heap.size w w' := by
 have hM : Mg w w ([]) := Mg.start w
 refine qx (l := [(0, .int .i64 z), (1, .pointer (some ⟨gh, 0, none⟩)), (2, .pointer (some ⟨gb, 0, none⟩))]) Tryz.func180 rfl Tryz.ntmps180 rfl rfl ?_
 intro Q hret hnorm hP a hA
 refine wp_seq_k (fun K1 hK1 => ?_)
 refine wp_region_lit ?_
 refine qb hA rfl rfl rfl (qe rfl) ?_
 intro a hA
 refine qa ?_
 refine hK1 _ _ ?_
 refine wp_seq_k (fun K2 hK2 => ?_)
 refine vd (S := fun w1 => Mg w w1 ([])) (by kernel_rfl) ?_
 replace hM := hM.drew
 refine zr hA 0 rfl rfl rfl rfl hP (hM.sub (List.nil_sublist _)) (fun w1 hM => jt hM hgh JcB_is1_131 rfl) ?_
 intro a hA
 refine zr hA 1 rfl rfl rfl rfl hP (hM.sub (List.nil_sublist _)) (fun w1 hM => qg rfl) ?_
 intro a hA
 refine zr hA 2 rfl rfl rfl rfl hP (hM.sub (List.nil_sublist _)) (fun w1 hM => jt hM hgb JcB_is1_38 rfl) ?_
 intro a hA
 obtain ⟨bx3, ox4, ux5, hs6, hc7, hi8⟩ := hb.at1 (i := 0) (by (show 0 < 1); omega)
 obtain rfl : ux5 = .int .i64 b := by simpa [izC] using hi8.symm
 refine zr (v := .pointer (some ⟨bx3, ox4 + 0, none⟩)) hA 3 rfl rfl rfl rfl hP (hM.sub (List.nil_sublist _)) (fun w1 hM => zf (k := 0) Tryz.underlying38 (by kernel_rfl) rfl rfl (by first | rfl | omega) hs6 (by omega)) ?_
 intro a hA
 refine zr hA 4 rfl rfl rfl rfl hP (hM.sub (List.nil_sublist _)) (fun w1 hM => jt hM hc7 JcB_is1_3 rfl) ?_
 intro a hA
 refine xn (by kernel_rfl) (vb hA 5 rfl rfl rfl rfl (qk rfl rfl (fun w => by kernel_rfl)) (zji) ?_)
 rintro _ w10 ⟨rfl, hb9⟩
 replace hM := hM.call hb9
 refine ⟨_, rfl, (hM.sub (List.nil_sublist _)), ?_⟩
 intro a hA
 refine zr hA 6 rfl rfl rfl rfl hP (hM.sub (List.nil_sublist _)) (fun w1 hM => qe rfl) ?_
 intro a hA
 refine xp (by kernel_rfl) ?_
 refine hK2 _ _ ?_
 refine wp_ret ?_
 refine hret _ _ ?_
 refine je (v := .bool (decide (z ≤ b))) hA rfl (.cons (qj rfl) .nil) rfl ?_
 exact ⟨rfl, hM.bel⟩
mutual
def zri : Tr → Nat
  | .mk _ _ _ _ _ ts => 1 + qkf ts
def qkf : List Tr → Nat
  | [] => 0
  | t :: ts => zri t + qkf ts
end
mutual
def zrb (dp : Int) : Tr → Bool
  | .mk k _ _ _ _ ts => decide (dp ≤ 200) && zrc dp (decide (k = 8)) 0 ts
def zrc (dp : Int) (pr : Bool) (i : Nat) : List Tr → Bool
  | [] => true
  | t :: ts => zrb (if pr = true ∧ i = 1 then dp else dp + 1) t && zrc dp pr (i + 1) ts
end
theorem all_map (ts : List Dt) : (ts.map Dt.tr).all (ve zl) = ts.all fun t => ve zl t.tr := by rw [List.all_map]; rfl
theorem Rt.take {w : World} {so : Option Addr} {ts : List Dt} (h : Rt w so ts) (n : Nat) : Rt w so (ts.take n) := fun hne => by
  obtain ⟨b, o, e, h2⟩ := h (fun k => hne (by rw [k]; simp))
  refine ⟨b, o, e, fun i t hi => h2 i t ?_⟩
  rw [List.getElem?_take] at hi
  split at hi
  · exact hi
  · cases hi
theorem Rt.drop {w : World} {so : Option Addr} {ts : List Dt} (h : Rt w so ts) (cap n : Nat) (hc : ts.length ≤ cap) : Rt w (if cap = n then so else so.map (·.add (n * 11))) (ts.drop n) := fun hne => by
  have hlt : n < ts.length := by
    apply Classical.byContradiction
    intro k
    exact hne (List.drop_of_length_le (by omega))
  obtain ⟨b, o, e, h2⟩ := h (fun k => by rw [k] at hlt; simp at hlt)
  rw [if_neg (by omega), e]
  refine ⟨b, o + n * 11, by simp [vq], fun i t hi => ?_⟩
  rw [List.getElem?_drop] at hi
  have := h2 _ _ hi
  rwa [Nat.add_mul, ← Nat.add_assoc] at this
theorem JcC_is1_28 : Is1 Tryz.prog 28 := ⟨⟨_, Tryz.underlying28, rfl⟩, by kernel_rfl⟩
theorem JcC_is1_3 : Is1 Tryz.prog 3 := ⟨⟨_, Tryz.underlying3, rfl⟩, by kernel_rfl⟩
theorem JcC_is1_9 : Is1 Tryz.prog 9 := ⟨⟨_, Tryz.underlying9, rfl⟩, by kernel_rfl⟩
theorem JcC_fld_30_0 : FieldAt Tryz.prog 30 0 0 := ⟨_, _, Tryz.underlying30, rfl, rfl, by kernel_rfl⟩
theorem JcC_fld_30_2 : FieldAt Tryz.prog 30 2 2 := ⟨_, _, Tryz.underlying30, rfl, rfl, by kernel_rfl⟩
theorem JcC_fld_30_3 : FieldAt Tryz.prog 30 3 8 := ⟨_, _, Tryz.underlying30, rfl, rfl, by kernel_rfl⟩
theorem JcC_fld_30_5 : FieldAt Tryz.prog 30 5 10 := ⟨_, _, Tryz.underlying30, rfl, rfl, by kernel_rfl⟩
theorem JcC_isS_26 : IsS Tryz.prog 26 6 := ⟨⟨_, Tryz.underlying26⟩, by kernel_rfl⟩
theorem JcC_isS_30 : IsS Tryz.prog 30 11 := ⟨⟨_, Tryz.underlying30⟩, by kernel_rfl⟩
theorem zeg {w : World} {t : Dt} (h : t.rd w) : NdOk w t.d := by cases t; exact (Dt.rd_iff.1 h).1
structure Its (w0 : World) (t : Dt) (xs : List Dt) : Prop where
  rd : ∀ x ∈ xs, x.rd w0
  sh : ∀ x ∈ xs, xl zl x.tr = true
  lt : ∀ x ∈ xs, x.tr.bulk < t.tr.bulk
  is : ∀ l, zw t.tr = some l → l = xs.map Dt.tr
  le : xs.length ≤ t.tr.bulk
def isW (ts : List Dt) : Bool := (ts.headD xk).d.k == 6
def zg (ts : List Dt) : ByteArray := (ts.headD xk).d.s
theorem qbj {ts : List Dt} {t : Dt} (h : ts[0]? = some t) : ts.headD xk = t := by
  cases ts with
  | nil => cases h
  | cons a l => simp at h; exact h
theorem qkg {ts : List Dt} {n : Nat} {x : Dt} (h : x ∈ ts.drop n) : x ∈ ts := List.mem_of_mem_drop h
theorem qca {w0 w : World} {t : Dt} (h0 : Below w0.heap.size w0 w) (ht : t.rd w0) (hs : xl zl t.tr = true) (hb : t.tr.bulk ≤ 4000000) : Calls Tryz.prog 46 #[.agg (t.d.cells t.ts.length).toArray] w fun e w' => ∃ so' ca' xs, e = .returned (.tuple #[.slice so' (xs : List Dt).length ca', .bool (zw t.tr).isSome]) ∧ Its w0 t xs ∧ Mg w w' [.row 30 11 (.slice so' xs.length ca') xs.length (cellsOf xs)] := by
 have hM : Mg w w ([]) := Mg.start w
 refine qx (l := [(0, .agg (t.d.cells t.ts.length).toArray)]) Tryz.func46 rfl Tryz.ntmps46 rfl rfl ?_
 intro Q hret hnorm hP a hA
 refine wp_seq_k (fun K1 hK1 => ?_)
 refine wp_region_lit ?_
 refine jl (vs := (t.d.cells t.ts.length)) (t := 30) hA hM rfl rfl rfl (fun g => .pointer (some ⟨g, 0, none⟩)) (zd rfl rfl) (by decide) ?_
 intro g2 w3 hM a hA
 refine qb hA rfl rfl rfl (qe rfl) ?_
 intro a hA
 refine qb hA rfl rfl rfl (qe rfl) ?_
 intro a hA
 refine qa ?_
 refine hK1 _ _ ?_
 refine wp_seq_k (fun K4 hK4 => ?_)
 refine wp_region_lit ?_
 refine qb hA rfl rfl rfl (qe rfl) ?_
 intro a hA
 refine qa ?_
 refine hK4 _ _ ?_
 refine wp_seq_k (fun K5 hK5 => ?_)
 refine wp_block ?_
 replace hM := hM.nilRow (qr (by simp) (qw za)) 30 11
 refine jc (fun m_ a w1 => ∃ (p : Dt) (xs : List Dt) (so_ : Option Addr) (ca_ : Nat), m_ = 1 + p.tr.bulk ∧ (p.rd w0 ∧ xl zl p.tr = true ∧ ((∀ x ∈ xs, x.rd w0) ∧ (∀ x ∈ xs, xl zl x.tr = true) ∧ (∀ x ∈ xs, x.tr.bulk < t.tr.bulk)) ∧ t.tr = vj (xs.map Dt.tr) p.tr ∧ xs.length + p.tr.bulk ≤ t.tr.bulk) ∧ Sl a 23 [(0, .agg (t.d.cells t.ts.length).toArray), (1, .pointer (some ⟨g2, 0, none⟩)), (2, .slice none 0 0), (3, .bool false), (4, .slice so_ xs.length ca_)] ∧ Mg w w1 (.row 30 11 (.slice so_ xs.length ca_) xs.length (cellsOf xs) :: .obj g2 (.cells (p.d.cells p.ts.length).toArray 30) :: [])) _ ⟨t, [], none, 0, rfl, ⟨ht, hs, ⟨(fun x h => by cases h), (fun x h => by cases h), (fun x h => by cases h)⟩, rfl, (by show 0 + t.tr.bulk ≤ t.tr.bulk; omega)⟩, hA.keep _ ⟨rfl, rfl, rfl, rfl, rfl, trivial⟩, hM⟩ ?_
 clear hM hA
 rintro m_ a w6 ⟨p, xs, so_, ca_, rfl, hinv8, hA, hM⟩ K7 hK7
 obtain ⟨hp, hps, hxs, htl, hbx⟩ := hinv8
 refine wp_seq_k (fun K9 hK9 => ?_)
 refine wp_seq_k (fun K10 hK10 => ?_)
 refine wp_region_lit ?_
 refine qb (v := .pointer (some ⟨g2, 0, none⟩)) hA rfl rfl rfl (qf JcC_fld_30_0 rfl rfl) ?_
 intro a hA
 refine qb hA rfl rfl rfl (zi hM JcC_is1_3 rfl 1 rfl rfl) ?_
 intro a hA
 rcases Bool.eq_false_or_eq_true ((p.d.k == 8)) with hb11 | hb11
 · have hb11' := eq_of_beq hb11
   refine qb (v := .bool true) hA rfl rfl rfl (qh rfl rfl (fun w => (qt w).trans (by rw [hb11]))) ?_
   intro a hA
   refine qa ?_
   refine hK10 _ _ ?_
   refine wp_cond_true (hA.ev rfl) ?_
   refine wp_skip ?_
   refine hK9 _ _ ?_
   refine wp_block ?_
   refine wp_seq_k (fun K12 hK12 => ?_)
   have l2p := (qsc hps hb11').1
   have hbp := yp p
   obtain ⟨p0, bp0, op0, ip0, mp0, rp0_, lp0, Hp0⟩ := zna hp (i := 0) (by omega)
   obtain ⟨p1, bp1, op1, ip1, mp1, rp1_, lp1, Hp1⟩ := zna hp (i := 1) (by omega)
   replace Hp0 := Hp0.below h0
   replace Hp1 := Hp1.below h0
   refine wp_region_lit ?_
   refine qb hA rfl rfl rfl (qg rfl) ?_
   intro a hA
   refine qb (v := .pointer (some ⟨g2, 10, none⟩)) hA rfl rfl rfl (qf JcC_fld_30_5 rfl rfl) ?_
   intro a hA
   refine qb hA rfl rfl rfl (zi hM JcC_is1_28 rfl 1 rfl rfl) ?_
   intro a hA
   refine qb (v := .pointer (some ⟨bp0, op0 + 0 * 11, none⟩)) hA rfl rfl rfl (ze (k := 0) Tryz.underlying28 (by kernel_rfl) rfl rfl rfl lp0 (by omega)) ?_
   intro a hA
   refine qb hA rfl rfl rfl (jh hM Hp0 JcC_isS_30 rfl rfl) ?_
   intro a hA
   refine kx (e := 30) (sz := 11) (m := 1) (vs := cellsOf [p0]) hA hM rfl rfl rfl (zp rfl (by kernel_rfl)) rfl rfl (.inl (by decide)) ?_
   intro g13 w14 hM a hA
   refine kf (e := 30) (sz := 11) (k := 1) (q := xs.length) (m := 1) (xs := cellsOf xs) (news := cellsOf [p0]) (L' := fun v15 => (.row 30 11 (.slice (some ⟨g13, 0, none⟩) 1 1) 1 (cellsOf [p0]) :: .row 30 11 (v15) (xs.length + 1) (cellsOf xs ++ cellsOf [p0]) :: .obj g2 (.cells (p.d.cells p.ts.length).toArray 30) :: [])) hA rfl rfl rfl (qdd (z := .agg #[.int .i64 0, .int .i64 0, .bool false, .slice none 0 0, .slice none 0 0, .bool false, .slice none 0 0, .slice none 0 0, .string ⟨#[]⟩, .slice none 0 0, .slice none 0 0]) (sz := 11) (by_ := 192) Tryz.underlying28 (by kernel_rfl) rfl rfl rfl hM 1 rfl rfl rfl rfl (yb (hM.has 0 rfl)) (qeh [p0]) (by omega)) (fun _ => rfl) ?_
   intro v15 w16 hM a hA
   replace hM : Mg w w16 (.row 30 11 (.slice (some ⟨g13, 0, none⟩) 1 1) 1 (cellsOf [p0]) :: .row 30 11 (v15) ((xs ++ [p0]).length) (cellsOf (xs ++ [p0])) :: .obj g2 (.cells (p.d.cells p.ts.length).toArray 30) :: []) := by
     rw [qag, List.length_append]; exact hM
   obtain ⟨so17, ca18, rfl⟩ := qah (hM.has 1 rfl)
   refine qb hA rfl rfl rfl (qe rfl) ?_
   intro a hA
   refine qa ?_
   refine hK12 _ _ ?_
   refine wp_region_lit ?_
   refine qb (v := .pointer (some ⟨g2, 10, none⟩)) hA rfl rfl rfl (qf JcC_fld_30_5 rfl rfl) ?_
   intro a hA
   refine qb hA rfl rfl rfl (zi hM JcC_is1_28 rfl 2 rfl rfl) ?_
   intro a hA
   refine qb (v := .pointer (some ⟨bp1, op1 + 1 * 11, none⟩)) hA rfl rfl rfl (ze (k := 1) Tryz.underlying28 (by kernel_rfl) rfl rfl rfl lp1 (by omega)) ?_
   intro a hA
   refine qb hA rfl rfl rfl (jh hM Hp1 JcC_isS_30 rfl rfl) ?_
   intro a hA
   refine ja (us := (p1.d.cells p1.ts.length)) (L' := (.row 30 11 (.slice (some ⟨g13, 0, none⟩) 1 1) 1 (cellsOf [p0]) :: .row 30 11 (.slice so17 ((xs ++ [p0]).length) ca18) ((xs ++ [p0]).length) (cellsOf (xs ++ [p0])) :: .obj g2 (.cells (p1.d.cells p1.ts.length).toArray 30) :: [])) hA hM rfl rfl (zq rfl rfl rfl (by kernel_rfl) hM 2 rfl rfl rfl) 2 rfl rfl rfl ?_
   intro w19 hM
   refine qa ?_
   replace hM := hM.sub (cN (cC (cC (.refl _))))
   have h7 := qpa mp0
   have h8 := qpa mp1
   refine hK7 _ _ _ (by have := qpa mp1; omega) ⟨p1, xs ++ [p0], so17, ca18, rfl, ⟨rp1_, (qde hps).2 _ mp1, ⟨ul hxs.1 rp0_, ul hxs.2.1 ((qde hps).2 _ mp0), ul hxs.2.2 (by omega)⟩, qpc htl hps hb11' ip0 ip1, by rw [List.length_append]; simp only [List.length_cons, List.length_nil]; omega⟩, hA.keep _ ⟨rfl, rfl, rfl, rfl, rfl, trivial⟩, hM⟩
 · have hb11' := ne_of_beq_false hb11
   refine qb (v := .bool false) hA rfl rfl rfl (qh rfl rfl (fun w => (qt w).trans (by rw [hb11]))) ?_
   intro a hA
   refine qa ?_
   refine hK10 _ _ ?_
   refine wp_cond_false (hA.ev rfl) ?_
   refine wp_exit ?_
   refine hK5 _ _ ?_
   refine wp_seq_k (fun K20 hK20 => ?_)
   refine vd (S := fun w1 => Mg w w1 (.obj g2 (.cells (p.d.cells p.ts.length).toArray 30) :: [])) (by kernel_rfl) ?_
   replace hM := hM.drew
   refine zr hA 0 rfl rfl rfl rfl hP (hM.sub (cN (cC (List.nil_sublist _)))) (fun w1 hM => qg rfl) ?_
   intro a hA
   refine zr (v := .pointer (some ⟨g2, 0, none⟩)) hA 1 rfl rfl rfl rfl hP (hM.sub (cN (cC (List.nil_sublist _)))) (fun w1 hM => qf JcC_fld_30_0 rfl rfl) ?_
   intro a hA
   refine zr hA 2 rfl rfl rfl rfl hP (hM.sub (cN (cC (List.nil_sublist _)))) (fun w1 hM => zi hM JcC_is1_3 rfl 0 rfl rfl) ?_
   intro a hA
   rcases Bool.eq_false_or_eq_true ((p.d.k == 1)) with hb21 | hb21
   · have hb21' := eq_of_beq hb21
     refine zr (v := .bool true) hA 3 rfl rfl rfl rfl hP (hM.sub (cN (cC (List.nil_sublist _)))) (fun w1 hM => qh rfl rfl (fun w => (qt w).trans (by rw [hb21]))) ?_
     intro a hA
     refine zr hA 4 rfl rfl rfl rfl hP (hM.sub (cN (cC (List.nil_sublist _)))) (fun w1 hM => qe rfl) ?_
     intro a hA
     refine zr hA 5 rfl rfl rfl rfl hP (hM.sub (cN (cC (List.nil_sublist _)))) (fun w1 hM => qe rfl) ?_
     intro a hA
     refine xp (by kernel_rfl) ?_
     refine hK20 _ _ ?_
     refine wp_ret ?_
     refine hret _ _ ?_
     refine je (v := .tuple #[.slice so_ xs.length ca_, .bool true]) hA rfl (.cons (qj rfl) (.cons (qj rfl) .nil)) rfl ?_
     replace hM := hM.sub (cC (cN (.refl _)))
     have ha := qji htl hps hb21'
     exact ⟨_, _, xs, by rw [ha]; rfl, ⟨hxs.1, hxs.2.1, hxs.2.2, fun l hl => (by rw [ha] at hl; exact (Option.some.inj hl).symm), by omega⟩, hM⟩
   · have hb21' := ne_of_beq_false hb21
     refine zr (v := .bool false) hA 3 rfl rfl rfl rfl hP (hM.sub (cN (cC (List.nil_sublist _)))) (fun w1 hM => qh rfl rfl (fun w => (qt w).trans (by rw [hb21]))) ?_
     intro a hA
     refine zr hA 4 rfl rfl rfl rfl hP (hM.sub (cN (cC (List.nil_sublist _)))) (fun w1 hM => qe rfl) ?_
     intro a hA
     refine zr hA 5 rfl rfl rfl rfl hP (hM.sub (cN (cC (List.nil_sublist _)))) (fun w1 hM => qe rfl) ?_
     intro a hA
     refine xp (by kernel_rfl) ?_
     refine hK20 _ _ ?_
     refine wp_ret ?_
     refine hret _ _ ?_
     refine je (v := .tuple #[.slice so_ xs.length ca_, .bool false]) hA rfl (.cons (qj rfl) (.cons (qj rfl) .nil)) rfl ?_
     replace hM := hM.sub (cC (cN (.refl _)))
     have ha := qjj htl hb11' hb21'
     exact ⟨_, _, xs, by rw [ha]; rfl, ⟨hxs.1, hxs.2.1, hxs.2.2, fun l hl => (by rw [ha] at hl; cases hl), by omega⟩, hM⟩
theorem zoh {w : World} {so : Option Addr} {ca : Nat} {ts : List Dt} (hR : Rt w so ts) (hD : ∀ t ∈ ts, t.rd w) (hl : ts.length ≤ 4000000) (h0 : ts.length = 0) : Calls Tryz.prog 47 #[.slice so ts.length ca] w fun e w' => e = .returned (.tuple #[.string ⟨#[]⟩, .slice none 0 0, .bool false]) ∧ Below w.heap.size w w' := by
 have hM : Mg w w ([]) := Mg.start w
 refine qx (l := [(0, .slice so ts.length ca)]) Tryz.func47 rfl Tryz.ntmps47 rfl rfl ?_
 intro Q hret hnorm hP a hA
 refine wp_seq_k (fun K1 hK1 => ?_)
 refine wp_region_lit ?_
 refine qb hA rfl rfl rfl (qe rfl) ?_
 intro a hA
 refine qb hA rfl rfl rfl (qe rfl) ?_
 intro a hA
 refine qb hA rfl rfl rfl (qe rfl) ?_
 intro a hA
 refine qa ?_
 refine hK1 _ _ ?_
 refine wp_seq_k (fun K2 hK2 => ?_)
 refine wp_seq_k (fun K3 hK3 => ?_)
 refine wp_region_lit ?_
 refine qb hA rfl rfl rfl (qg rfl) ?_
 intro a hA
 refine qb (v := .int .i64 (((ts.length : Nat) : Int))) hA rfl rfl rfl (qy Tryz.underlying28 rfl) ?_
 intro a hA
 refine qb (v := .bool true) hA rfl rfl rfl (qh rfl rfl (fun w => (qt w).trans (by rw [show ((((ts.length : Nat) : Int) == 0)) = true from (by rw [h0]; rfl)]))) ?_
 intro a hA
 refine qb hA rfl rfl rfl (qg rfl) ?_
 intro a hA
 refine qm hA rfl rfl rfl ?_
 intro a hA
 refine qm hA rfl rfl rfl ?_
 intro a hA
 refine qm hA rfl rfl rfl ?_
 intro a hA
 refine qm hA rfl rfl rfl ?_
 intro a hA
 refine qm hA rfl rfl rfl ?_
 intro a hA
 refine qb (v := .bool true) hA rfl rfl rfl (zm rfl rfl rfl rfl) ?_
 intro a hA
 refine qa ?_
 refine hK3 _ _ ?_
 refine wp_cond_true (hA.ev rfl) ?_
 refine wp_seq_k (fun K4 hK4 => ?_)
 refine wp_region_lit ?_
 refine qb hA rfl rfl rfl (qe rfl) ?_
 intro a hA
 refine qb hA rfl rfl rfl (qe rfl) ?_
 intro a hA
 refine qb hA rfl rfl rfl (qe rfl) ?_
 intro a hA
 refine qa ?_
 refine hK4 _ _ ?_
 refine wp_ret ?_
 refine hret _ _ ?_
 refine je (v := .tuple #[.string (⟨#[]⟩), .slice none 0 0, .bool false]) hA rfl (.cons (qj rfl) (.cons (qj rfl) (.cons (qj rfl) .nil))) rfl ?_
 exact ⟨rfl, hM.bel⟩
theorem zjj {w : World} {so : Option Addr} {ca : Nat} {ts : List Dt} (hR : Rt w so ts) (hD : ∀ t ∈ ts, t.rd w) (hl : ts.length ≤ 4000000) (h0 : 0 < ts.length) (hk : (ts.headD xk).d.k ≠ 6) : Calls Tryz.prog 47 #[.slice so ts.length ca] w fun e w' => e = .returned (.tuple #[.string ⟨#[]⟩, .slice none 0 0, .bool false]) ∧ Below w.heap.size w w' := by
 have hM : Mg w w ([]) := Mg.start w
 refine qx (l := [(0, .slice so ts.length ca)]) Tryz.func47 rfl Tryz.ntmps47 rfl rfl ?_
 intro Q hret hnorm hP a hA
 refine wp_seq_k (fun K1 hK1 => ?_)
 refine wp_region_lit ?_
 refine qb hA rfl rfl rfl (qe rfl) ?_
 intro a hA
 refine qb hA rfl rfl rfl (qe rfl) ?_
 intro a hA
 refine qb hA rfl rfl rfl (qe rfl) ?_
 intro a hA
 refine qa ?_
 refine hK1 _ _ ?_
 refine wp_seq_k (fun K2 hK2 => ?_)
 refine wp_seq_k (fun K3 hK3 => ?_)
 obtain ⟨t1, bt1, ot1, it1, mt1, rt1_, lt1, Ht1⟩ := zgd hR hD (i := 0) (by omega)
 have hk1 : t1.d.k = (ts.headD xk).d.k := by rw [qbj it1]
 refine wp_region_lit ?_
 refine qb hA rfl rfl rfl (qg rfl) ?_
 intro a hA
 refine qb (v := .int .i64 (((ts.length : Nat) : Int))) hA rfl rfl rfl (qy Tryz.underlying28 rfl) ?_
 intro a hA
 refine qb (v := .bool false) hA rfl rfl rfl (qh rfl rfl (fun w => (qt w).trans (by rw [show ((((ts.length : Nat) : Int) == 0)) = false from (beq_eq_false_iff_ne.2 (by omega))]))) ?_
 intro a hA
 refine qb hA rfl rfl rfl (qg rfl) ?_
 intro a hA
 refine qb hA rfl rfl rfl (qg rfl) ?_
 intro a hA
 refine qb (v := .pointer (some ⟨bt1, ot1 + 0 * 11, none⟩)) hA rfl rfl rfl (ze (k := 0) Tryz.underlying28 (by kernel_rfl) rfl rfl rfl lt1 (by omega)) ?_
 intro a hA
 refine qb (v := .pointer (some ⟨bt1, ot1 + 0 * 11, none⟩)) hA rfl rfl rfl (qf JcC_fld_30_0 rfl rfl) ?_
 intro a hA
 refine qb hA rfl rfl rfl (vl (j := 0) hM Ht1 JcC_is1_3 rfl rfl rfl) ?_
 intro a hA
 refine qb (v := .bool true) hA rfl rfl rfl (qh rfl rfl (fun w => (jm w).trans (by rw [show ((t1.d.k != 6)) = true from (bne_iff_ne.2 (by rw [hk1]; exact hk))]))) ?_
 intro a hA
 refine qb (v := .bool true) hA rfl rfl rfl (zm rfl rfl rfl rfl) ?_
 intro a hA
 refine qa ?_
 refine hK3 _ _ ?_
 refine wp_cond_true (hA.ev rfl) ?_
 refine wp_seq_k (fun K4 hK4 => ?_)
 refine wp_region_lit ?_
 refine qb hA rfl rfl rfl (qe rfl) ?_
 intro a hA
 refine qb hA rfl rfl rfl (qe rfl) ?_
 intro a hA
 refine qb hA rfl rfl rfl (qe rfl) ?_
 intro a hA
 refine qa ?_
 refine hK4 _ _ ?_
 refine wp_ret ?_
 refine hret _ _ ?_
 refine je (v := .tuple #[.string (⟨#[]⟩), .slice none 0 0, .bool false]) hA rfl (.cons (qj rfl) (.cons (qj rfl) (.cons (qj rfl) .nil))) rfl ?_
 exact ⟨rfl, hM.bel⟩
theorem zoi {w : World} {so : Option Addr} {ca : Nat} {ts : List Dt} (hR : Rt w so ts) (hD : ∀ t ∈ ts, t.rd w) (hl : ts.length ≤ 4000000) (h0 : 0 < ts.length) (hk : (ts.headD xk).d.k = 6) : Calls Tryz.prog 47 #[.slice so ts.length ca] w fun e w' => e = .returned (.tuple #[.string (zg ts), .slice (if ca = 1 then so else so.map (·.add (1 * 11))) (ts.drop 1).length (ca - 1), .bool true]) ∧ Below w.heap.size w w' := by
 have hM : Mg w w ([]) := Mg.start w
 refine qx (l := [(0, .slice so ts.length ca)]) Tryz.func47 rfl Tryz.ntmps47 rfl rfl ?_
 intro Q hret hnorm hP a hA
 refine wp_seq_k (fun K1 hK1 => ?_)
 refine wp_region_lit ?_
 refine qb hA rfl rfl rfl (qe rfl) ?_
 intro a hA
 refine qb hA rfl rfl rfl (qe rfl) ?_
 intro a hA
 refine qb hA rfl rfl rfl (qe rfl) ?_
 intro a hA
 refine qa ?_
 refine hK1 _ _ ?_
 refine wp_seq_k (fun K2 hK2 => ?_)
 refine wp_seq_k (fun K3 hK3 => ?_)
 obtain ⟨t1, bt1, ot1, it1, mt1, rt1_, lt1, Ht1⟩ := zgd hR hD (i := 0) (by omega)
 have hk1 : t1.d.k = (ts.headD xk).d.k := by rw [qbj it1]
 refine wp_region_lit ?_
 refine qb hA rfl rfl rfl (qg rfl) ?_
 intro a hA
 refine qb (v := .int .i64 (((ts.length : Nat) : Int))) hA rfl rfl rfl (qy Tryz.underlying28 rfl) ?_
 intro a hA
 refine qb (v := .bool false) hA rfl rfl rfl (qh rfl rfl (fun w => (qt w).trans (by rw [show ((((ts.length : Nat) : Int) == 0)) = false from (beq_eq_false_iff_ne.2 (by omega))]))) ?_
 intro a hA
 refine qb hA rfl rfl rfl (qg rfl) ?_
 intro a hA
 refine qb hA rfl rfl rfl (qg rfl) ?_
 intro a hA
 refine qb (v := .pointer (some ⟨bt1, ot1 + 0 * 11, none⟩)) hA rfl rfl rfl (ze (k := 0) Tryz.underlying28 (by kernel_rfl) rfl rfl rfl lt1 (by omega)) ?_
 intro a hA
 refine qb (v := .pointer (some ⟨bt1, ot1 + 0 * 11, none⟩)) hA rfl rfl rfl (qf JcC_fld_30_0 rfl rfl) ?_
 intro a hA
 refine qb hA rfl rfl rfl (vl (j := 0) hM Ht1 JcC_is1_3 rfl rfl rfl) ?_
 intro a hA
 refine qb (v := .bool false) hA rfl rfl rfl (qh rfl rfl (fun w => (jm w).trans (by rw [show ((t1.d.k != 6)) = false from (by rw [hk1, hk]; rfl)]))) ?_
 intro a hA
 refine qb (v := .bool false) hA rfl rfl rfl (zm rfl rfl rfl rfl) ?_
 intro a hA
 refine qa ?_
 refine hK3 _ _ ?_
 refine wp_cond_false (hA.ev rfl) ?_
 refine wp_skip ?_
 refine hK2 _ _ ?_
 refine wp_seq_k (fun K4 hK4 => ?_)
 refine vd (S := fun w1 => Mg w w1 ([])) (by kernel_rfl) ?_
 replace hM := hM.drew
 refine zr hA 0 rfl rfl rfl rfl hP (hM.sub (List.nil_sublist _)) (fun w1 hM => qg rfl) ?_
 intro a hA
 refine zr (v := .pointer (some ⟨bt1, ot1 + 0 * 11, none⟩)) hA 1 rfl rfl rfl rfl hP (hM.sub (List.nil_sublist _)) (fun w1 hM => ze (k := 0) Tryz.underlying28 (by kernel_rfl) rfl rfl rfl lt1 (by omega)) ?_
 intro a hA
 refine zr (v := .pointer (some ⟨bt1, ot1 + 0 * 11 + 8, none⟩)) hA 2 rfl rfl rfl rfl hP (hM.sub (List.nil_sublist _)) (fun w1 hM => qf JcC_fld_30_3 rfl rfl) ?_
 intro a hA
 refine zr hA 3 rfl rfl rfl rfl hP (hM.sub (List.nil_sublist _)) (fun w1 hM => vl (j := 8) hM Ht1 JcC_is1_9 rfl rfl rfl) ?_
 intro a hA
 refine zr hA 4 rfl rfl rfl rfl hP (hM.sub (List.nil_sublist _)) (fun w1 hM => qg rfl) ?_
 intro a hA
 refine zr (v := .slice ((if ca = 1 then so else so.map (·.add (1 * 11)))) ((ts.drop 1).length) ((ca - 1))) hA 5 rfl rfl rfl rfl hP (hM.sub (List.nil_sublist _)) (fun w1 hM => (by rw [List.length_drop]; exact qrf (sz := 11) (lo := 1) Tryz.underlying28 (by kernel_rfl) rfl rfl rfl (by omega))) ?_
 intro a hA
 refine zr hA 6 rfl rfl rfl rfl hP (hM.sub (List.nil_sublist _)) (fun w1 hM => qe rfl) ?_
 intro a hA
 refine zr hA 7 rfl rfl rfl rfl hP (hM.sub (List.nil_sublist _)) (fun w1 hM => qe rfl) ?_
 intro a hA
 refine zr hA 8 rfl rfl rfl rfl hP (hM.sub (List.nil_sublist _)) (fun w1 hM => qe rfl) ?_
 intro a hA
 refine xp (by kernel_rfl) ?_
 refine hK4 _ _ ?_
 refine wp_ret ?_
 refine hret _ _ ?_
 refine je (v := .tuple #[.string t1.d.s, .slice ((if ca = 1 then so else so.map (·.add (1 * 11)))) ((ts.drop 1).length) ((ca - 1)), .bool true]) hA rfl (.cons (qj rfl) (.cons (qj rfl) (.cons (qj rfl) .nil))) rfl ?_
 exact ⟨by rw [show zg ts = t1.d.s from by unfold zg; rw [qbj it1]], hM.bel⟩
theorem qsi {w : World} {so : Option Addr} {ca : Nat} {ts : List Dt} (hR : Rt w so ts) (hD : ∀ t ∈ ts, t.rd w) (hl : ts.length ≤ 4000000) (hk : isW ts = true) : Calls Tryz.prog 47 #[.slice so ts.length ca] w fun e w' => e = .returned (.tuple #[.string (zg ts), .slice (if ca = 1 then so else so.map (·.add (1 * 11))) (ts.drop 1).length (ca - 1), .bool true]) ∧ Below w.heap.size w w' := by
  unfold isW at hk
  have hk2 := beq_iff_eq.1 hk
  refine zoi hR hD hl ?_ hk2
  cases ts with
  | nil => cases hk
  | cons a l => simp
theorem zbh {w : World} {so : Option Addr} {ca : Nat} {ts : List Dt} (hR : Rt w so ts) (hD : ∀ t ∈ ts, t.rd w) (hl : ts.length ≤ 4000000) (hk : isW ts = false) : Calls Tryz.prog 47 #[.slice so ts.length ca] w fun e w' => e = .returned (.tuple #[.string ⟨#[]⟩, .slice none 0 0, .bool false]) ∧ Below w.heap.size w w' := by
  unfold isW at hk
  have hk2 := beq_eq_false_iff_ne.1 hk
  by_cases h : ts.length = 0
  · exact zoh hR hD hl h
  · exact zjj hR hD hl (by omega) hk2
theorem qkh {n : Nat} {t : Tr} (h : zw t = none) : jk (n + 1) t = none := by simp only [jk, h]
theorem js {n : Nat} {t : Tr} {xs : List Dt} (h : zw t = some (xs.map Dt.tr)) (hw : isW xs = true) : jk (n + 1) t = jg (zg xs) ((xs.drop 1).map fun x => jk n x.tr) := by
  cases xs with
  | nil => cases hw
  | cons a l =>
    have hk : a.tr.k = 6 := by rw [qvi]; exact beq_iff_eq.1 hw
    simp only [jk, h, List.map_cons, if_pos hk, List.drop_one, List.tail_cons, List.map_map]
    rw [show a.tr.s = zg (a :: l) from by cases a; rw [Dt.tr_mk]; rfl]
    rfl
theorem yh {n : Nat} {t : Tr} {xs : List Dt} (h : zw t = some (xs.map Dt.tr)) (hw : isW xs = false) : jk (n + 1) t = (jz (xs.map fun x => zx n x.tr)).map uf := by
  cases xs with
  | nil => simp only [jk, h, List.map_nil]; rfl
  | cons a l =>
    have hk : ¬ a.tr.k = 6 := by rw [qvi]; exact beq_eq_false_iff_ne.1 hw
    simp only [jk, h, List.map_cons, if_neg hk, List.map_map]
    rfl
theorem qic {n : Nat} {t : Tr} {b : Int} (h : jb t = some b) : zx (n + 1) t = some fun z => z == b := by simp only [zx, h]
theorem qfc {n : Nat} {t : Tr} (hn : jb t = none) (h : zw t = none) : zx (n + 1) t = none := by simp only [zx, hn, h]
theorem qid {n : Nat} {t : Tr} {xs : List Dt} (hn : jb t = none) (h : zw t = some (xs.map Dt.tr)) (hw : isW xs = false) : zx (n + 1) t = none := by
  cases xs with
  | nil => simp only [zx, hn, h, List.map_nil]
  | cons a l =>
    have hk : ¬ a.tr.k = 6 := by rw [qvi]; exact beq_eq_false_iff_ne.1 hw
    simp only [zx, hn, h, List.map_cons, if_neg hk]
open Classical in
theorem un {n : Nat} {t : Tr} {xs : List Dt} (hn : jb t = none) (h : zw t = some (xs.map Dt.tr)) (hw : isW xs = true) : zx (n + 1) t = if zg xs = wGe then (jv ((xs.drop 1).map fun x => jb x.tr)).map fun b => fun z => decide (b ≤ z) else if zg xs = wLe then (jv ((xs.drop 1).map fun x => jb x.tr)).map fun b => fun z => decide (z ≤ b) else jg (zg xs) ((xs.drop 1).map fun x => zx n x.tr) := by
  cases xs with
  | nil => cases hw
  | cons a l =>
    have hk : a.tr.k = 6 := by rw [qvi]; exact beq_iff_eq.1 hw
    have hs : a.tr.s = zg (a :: l) := by cases a; rw [Dt.tr_mk]; rfl
    simp only [zx, hn, h, List.map_cons, if_pos hk, List.drop_one, List.tail_cons, List.map_map, hs]
    rfl
theorem qaa {w : World} {t : Dt} (ht : t.rd w) : Calls Tryz.prog 94 #[.agg (t.d.cells t.ts.length).toArray] w fun e w' => e = .returned (.tuple #[.int .i64 (zu t.d.y.q).1, .bool (jb t.tr).isSome]) ∧ Below w.heap.size w w' := by
 have hM : Mg w w ([]) := Mg.start w
 refine qx (l := [(0, .agg (t.d.cells t.ts.length).toArray)]) Tryz.func94 rfl Tryz.ntmps94 rfl rfl ?_
 intro Q hret hnorm hP a hA
 refine wp_seq_k (fun K1 hK1 => ?_)
 refine wp_region_lit ?_
 refine jl (vs := (t.d.cells t.ts.length)) (t := 30) hA hM rfl rfl rfl (fun g => .pointer (some ⟨g, 0, none⟩)) (zd rfl rfl) (by decide) ?_
 intro g2 w3 hM a hA
 refine qb hA rfl rfl rfl (qe rfl) ?_
 intro a hA
 refine qb hA rfl rfl rfl (qe rfl) ?_
 intro a hA
 refine qa ?_
 refine hK1 _ _ ?_
 refine wp_seq_k (fun K4 hK4 => ?_)
 refine wp_region_lit ?_
 refine qb (v := .pointer (some ⟨g2, 2, none⟩)) hA rfl rfl rfl (qf JcC_fld_30_2 rfl rfl) ?_
 intro a hA
 refine qb hA rfl rfl rfl (zy hM JcC_isS_26 rfl 0 rfl (cs := [.bool t.d.y.q.b1, .slice t.d.y.o1 t.d.y.q.t1.length t.d.y.c1, .slice t.d.y.o2 t.d.y.q.q1.length t.d.y.c2, .bool t.d.y.q.b2, .slice t.d.y.o3 t.d.y.q.t2.length t.d.y.c3, .slice t.d.y.o4 t.d.y.q.q2.length t.d.y.c4]) rfl rfl) ?_
 intro a hA
 refine qz hA rfl rfl rfl (qk rfl rfl (fun w => by kernel_rfl)) (zbg (Nu.below (zeg ht).num hM.bel) (zeg ht).len) ?_
 rintro _ w5 ⟨rfl, hbs⟩
 replace hM := hM.call hbs
 refine ⟨_, rfl, ?_⟩
 intro a hA
 refine qb hA rfl rfl rfl (qg rfl) ?_
 intro a hA
 refine qb (v := .int .i64 ((zu t.d.y.q).1)) hA rfl rfl rfl (qi (vs := [.int .i64 ((zu t.d.y.q).1), .int .i64 ((zu t.d.y.q).2)]) rfl rfl) ?_
 intro a hA
 refine qb (v := .int .i64 ((zu t.d.y.q).2)) hA rfl rfl rfl (qi (vs := [.int .i64 ((zu t.d.y.q).1), .int .i64 ((zu t.d.y.q).2)]) rfl rfl) ?_
 intro a hA
 refine qb hA rfl rfl rfl (qe rfl) ?_
 intro a hA
 refine qb hA rfl rfl rfl (qe rfl) ?_
 intro a hA
 refine qa ?_
 refine hK4 _ _ ?_
 refine wp_seq_k (fun K6 hK6 => ?_)
 refine wp_region_lit ?_
 refine qb hA rfl rfl rfl (qg rfl) ?_
 intro a hA
 refine qb hA rfl rfl rfl (qg rfl) ?_
 intro a hA
 rcases Bool.eq_false_or_eq_true (((zu t.d.y.q).2 == 0)) with hb7 | hb7
 · have hb7' := eq_of_beq hb7
   refine qb (v := .bool true) hA rfl rfl rfl (qh rfl rfl (fun w => (qt w).trans (by rw [hb7]))) ?_
   intro a hA
   refine qb hA rfl rfl rfl (qg rfl) ?_
   intro a hA
   refine qb hA rfl rfl rfl (qg rfl) ?_
   intro a hA
   rcases Bool.eq_false_or_eq_true (vf (zu t.d.y.q).1) with hb8 | hb8
   · refine qz hA rfl rfl rfl (qk rfl rfl (fun w => by kernel_rfl)) ((hb8 ▸ qai)) ?_
     rintro _ w10 ⟨rfl, hb9⟩
     replace hM := hM.call hb9
     refine ⟨_, rfl, ?_⟩
     intro a hA
     refine qb (v := .bool false) hA rfl rfl rfl (ql rfl qp) ?_
     intro a hA
     refine qb (v := .bool false) hA rfl rfl rfl (zm rfl rfl rfl rfl) ?_
     intro a hA
     refine qb hA rfl rfl rfl (qe rfl) ?_
     intro a hA
     refine qb hA rfl rfl rfl (qe rfl) ?_
     intro a hA
     refine qa ?_
     refine hK6 _ _ ?_
     refine wp_ret ?_
     refine hret _ _ ?_
     refine je (v := .tuple #[.int .i64 ((zu t.d.y.q).1), .bool false]) hA rfl (.cons (qj rfl) (.cons (qj rfl) .nil)) rfl ?_
     have hq9 : t.tr.q = t.d.y.q := by cases t; rw [Dt.tr_mk]; rfl
     exact ⟨by rw [show jb t.tr = none from by unfold jb; rw [hq9]; exact if_neg (fun h => by rw [hb8] at h; exact absurd h.2 (by decide))]; rfl, hM.bel⟩
   · refine qz hA rfl rfl rfl (qk rfl rfl (fun w => by kernel_rfl)) ((hb8 ▸ qai)) ?_
     rintro _ w12 ⟨rfl, hb11⟩
     replace hM := hM.call hb11
     refine ⟨_, rfl, ?_⟩
     intro a hA
     refine qb (v := .bool true) hA rfl rfl rfl (ql rfl qp) ?_
     intro a hA
     refine qb (v := .bool true) hA rfl rfl rfl (zm rfl rfl rfl rfl) ?_
     intro a hA
     refine qb hA rfl rfl rfl (qe rfl) ?_
     intro a hA
     refine qb hA rfl rfl rfl (qe rfl) ?_
     intro a hA
     refine qa ?_
     refine hK6 _ _ ?_
     refine wp_ret ?_
     refine hret _ _ ?_
     refine je (v := .tuple #[.int .i64 ((zu t.d.y.q).1), .bool true]) hA rfl (.cons (qj rfl) (.cons (qj rfl) .nil)) rfl ?_
     have hq9 : t.tr.q = t.d.y.q := by cases t; rw [Dt.tr_mk]; rfl
     exact ⟨by rw [show jb t.tr = some (zu t.d.y.q).1 from by unfold jb; rw [hq9]; exact if_pos ⟨hb7', hb8⟩]; rfl, hM.bel⟩
 · have hb7' := ne_of_beq_false hb7
   refine qb (v := .bool false) hA rfl rfl rfl (qh rfl rfl (fun w => (qt w).trans (by rw [hb7]))) ?_
   intro a hA
   refine qb hA rfl rfl rfl (qg rfl) ?_
   intro a hA
   refine qm hA rfl rfl rfl ?_
   intro a hA
   refine qm hA rfl rfl rfl ?_
   intro a hA
   refine qm hA rfl rfl rfl ?_
   intro a hA
   refine qb (v := .bool false) hA rfl rfl rfl (zm rfl rfl rfl rfl) ?_
   intro a hA
   refine qb hA rfl rfl rfl (qe rfl) ?_
   intro a hA
   refine qb hA rfl rfl rfl (qe rfl) ?_
   intro a hA
   refine qa ?_
   refine hK6 _ _ ?_
   refine wp_ret ?_
   refine hret _ _ ?_
   refine je (v := .tuple #[.int .i64 ((zu t.d.y.q).1), .bool false]) hA rfl (.cons (qj rfl) (.cons (qj rfl) .nil)) rfl ?_
   have hq9 : t.tr.q = t.d.y.q := by cases t; rw [Dt.tr_mk]; rfl
   exact ⟨by rw [show jb t.tr = none from by unfold jb; rw [hq9]; exact if_neg (fun h => hb7' h.1)]; rfl, hM.bel⟩
theorem zka {t : Dt} {z : Int} (h : jb t.tr = some z) : (zu t.d.y.q).1 = z := by
  unfold jb at h
  rw [show t.tr.q = t.d.y.q from by cases t; rw [Dt.tr_mk]; rfl] at h
  split at h
  · exact Option.some.inj h
  · cases h
theorem JcD_isS_30 : IsS Tryz.prog 30 11 := ⟨⟨_, Tryz.underlying30⟩, by kernel_rfl⟩
def Subs (n : Nat) : Prop := ∀ {w0 w : World} {t : Dt}, Below w0.heap.size w0 w → t.rd w0 → xl zl t.tr = true → t.tr.bulk ≤ n → ∀ {b : Bool}, (zx n t.tr).isSome = b → Calls Tryz.prog 119 #[.agg (t.d.cells t.ts.length).toArray] w fun e w' => ∃ fv, e = .returned (.tuple #[fv, .bool b]) ∧ (∀ p, zx n t.tr = some p → TV RN w0 (made w w') fv p) ∧ Below w.heap.size w w'
def Refs (n : Nat) : Prop := ∀ {w0 w : World} {t : Dt}, Below w0.heap.size w0 w → t.rd w0 → xl zl t.tr = true → t.tr.bulk ≤ n → ∀ {b : Bool}, (jk n t.tr).isSome = b → Calls Tryz.prog 36 #[.agg (t.d.cells t.ts.length).toArray] w fun e w' => ∃ fv, e = .returned (.tuple #[fv, .bool b]) ∧ (∀ p, jk n t.tr = some p → TV RV w0 (made w w') fv p) ∧ Below w.heap.size w w'
structure ItOk (w0 : World) (n : Nat) (ts : List Dt) : Prop where
  rd : ∀ x ∈ ts, x.rd w0
  sh : ∀ x ∈ ts, xl zl x.tr = true
  le : ∀ x ∈ ts, x.tr.bulk ≤ n
theorem qxh {w0 w : World} {n : Nat} {so : Option Addr} {ca : Nat} {ts : List Dt} (h0 : Below w0.heap.size w0 w) (hR : Rt w so ts) (hI : ItOk w0 n ts) (hl : ts.length ≤ 4000000) (ih : Subs n) : Calls Tryz.prog 118 #[.slice so ts.length ca, .func (.func 119) #[] #[]] w fun e w' => (∃ so' ca' fvs T ps, e = .returned (.tuple #[.slice so' (fvs : List Value).length ca', .bool true]) ∧ (jz (ts.map fun x : Dt => zx n x.tr) = some ps ∧ TVs RN w0 T fvs ps ∧ kh T) ∧ Mg w w' (.row 175 1 (.slice so' fvs.length ca') fvs.length fvs :: T)) ∨ (e = .returned (.tuple #[.slice none 0 0, .bool false]) ∧ jz (ts.map fun x : Dt => zx n x.tr) = none ∧ Below w.heap.size w w') := by
 have hD : ∀ t ∈ ts, t.rd w := fun t ht => Dt.keep h0 _ (hI.rd t ht)
 have hM : Mg w w ([]) := Mg.start w
 refine qx (l := [(0, .slice so ts.length ca), (1, .func (.func 119) #[] #[])]) Tryz.func118 rfl Tryz.ntmps118 rfl rfl ?_
 intro Q hret hnorm hP a hA
 refine wp_seq_k (fun K1 hK1 => ?_)
 refine wp_region_lit ?_
 refine qb hA rfl rfl rfl (qe rfl) ?_
 intro a hA
 refine qb hA rfl rfl rfl (qe rfl) ?_
 intro a hA
 refine qa ?_
 refine hK1 _ _ ?_
 refine wp_seq_k (fun K2 hK2 => ?_)
 refine wp_region_lit ?_
 refine qb hA rfl rfl rfl (qe rfl) ?_
 intro a hA
 refine qa ?_
 refine hK2 _ _ ?_
 refine wp_seq_k (fun K3 hK3 => ?_)
 refine wp_seq_k (fun K4 hK4 => ?_)
 refine wp_region_lit ?_
 refine qb hA rfl rfl rfl (qg rfl) ?_
 intro a hA
 refine qb (v := .int .i64 (((ts.length : Nat) : Int))) hA rfl rfl rfl (qy Tryz.underlying28 rfl) ?_
 intro a hA
 refine qb hA rfl rfl rfl (qg rfl) ?_
 intro a hA
 refine qa ?_
 refine hK4 _ _ ?_
 refine wp_block ?_
 replace hM := hM.nilRow (qw za) 175 1
 refine jc (fun m_ a w1 => ∃ (i : Nat) (fvs : List Value) (ps : List (Int → Bool)) (T : List Ck) (so_ : Option Addr) (ca_ : Nat), m_ = 1 + (ts.length - i) ∧ (i ≤ ts.length ∧ fvs.length = i ∧ jz ((ts.take i).map fun x : Dt => zx n x.tr) = some ps ∧ TVs RN w0 T fvs ps ∧ kh T) ∧ Sl a 31 [(0, .slice so ts.length ca), (1, .func (.func 119) #[] #[]), (6, .slice so_ fvs.length ca_), (11, .slice so ts.length ca), (12, .int .i64 (((ts.length : Nat) : Int))), (13, .int .i64 (((i : Nat) : Int)))] ∧ Mg w w1 (.row 175 1 (.slice so_ fvs.length ca_) fvs.length fvs :: T)) _ ⟨0, [], [], [], none, 0, rfl, ⟨Nat.zero_le _, rfl, rfl, TVs.nil, (qw za)⟩, hA.keep _ (by repeat' constructor), hM⟩ ?_
 clear hM hA
 rintro m_ a w5 ⟨i, fvs, ps, T, so_, ca_, rfl, hinv7, hA, hM⟩ K6 hK6
 obtain ⟨hi0, hfl, hal, hTs, hTb⟩ := hinv7
 refine wp_seq_k (fun K8 hK8 => ?_)
 refine wp_region_lit ?_
 rcases Bool.eq_false_or_eq_true (decide (((i : Nat) : Int) < ((ts.length : Nat) : Int))) with hb9 | hb9
 · have hb9' := of_decide_eq_true hb9
   refine qb (v := .bool true) hA rfl rfl rfl (qh rfl rfl (fun w => (zh w).trans (by rw [hb9]))) ?_
   intro a hA
   refine qa ?_
   refine hK8 _ _ ?_
   refine wp_seq_k (fun K10 hK10 => ?_)
   refine wp_cond_true (hA.ev rfl) ?_
   refine wp_skip ?_
   refine hK10 _ _ ?_
   refine wp_seq_k (fun K11 hK11 => ?_)
   refine wp_block ?_
   refine wp_seq_k (fun K12 hK12 => ?_)
   refine wp_region_lit ?_
   obtain ⟨t1, bt1, ot1, it1, mt1, rt1_, lt1, Ht1⟩ := zgd hR hD (i := i) (by omega)
   refine qb (v := .pointer (some ⟨bt1, ot1 + i * 11, none⟩)) hA rfl rfl rfl (ze (k := i) Tryz.underlying28 (by kernel_rfl) rfl rfl rfl lt1 (by omega)) ?_
   intro a hA
   refine qb hA rfl rfl rfl (jh hM Ht1 JcD_isS_30 rfl rfl) ?_
   intro a hA
   refine jl (vs := (xk.d.cells xk.ts.length)) (t := 30) hA hM rfl rfl rfl (fun g => .pointer (some ⟨g, 0, none⟩)) (zv (z := .agg (xk.d.cells xk.ts.length).toArray) (by kernel_rfl) rfl) (by decide) ?_
   intro g13 w14 hM a hA
   refine ja (us := (t1.d.cells t1.ts.length)) (L' := (.obj g13 (.cells (t1.d.cells t1.ts.length).toArray 30) :: .row 175 1 (.slice so_ fvs.length ca_) fvs.length fvs :: T)) hA hM rfl rfl (zq rfl rfl rfl (by kernel_rfl) hM 0 rfl rfl rfl) 0 rfl rfl rfl ?_
   intro w15 hM
   refine qa ?_
   refine hK12 _ _ ?_
   refine wp_seq_k (fun K16 hK16 => ?_)
   refine wp_region_lit ?_
   refine qb hA rfl rfl rfl (qg rfl) ?_
   intro a hA
   refine qb hA rfl rfl rfl (zy hM JcD_isS_30 rfl 0 rfl (cs := (t1.d.cells t1.ts.length)) rfl rfl) ?_
   intro a hA
   rcases Bool.eq_false_or_eq_true ((zx n t1.tr).isSome) with hb17 | hb17
   · refine qz hA rfl rfl rfl (qk rfl rfl (fun w => by kernel_rfl)) (ih (h0.trans (hM.bel.mono h0.size)) (hI.rd _ mt1) (hI.sh _ mt1) (hI.le _ mt1) hb17) ?_
     rintro _ w19 ⟨fv9, rfl, hT9, hb18⟩
     obtain ⟨p9, hp9⟩ := Option.isSome_iff_exists.1 hb17
     have hTV9 := hT9 p9 hp9
     clear hT9
     obtain ⟨f9, cs9, e9, -, -⟩ := id hTV9
     subst e9
     replace hM : Mg w w19 (.obj g13 (.cells (t1.d.cells t1.ts.length).toArray 30) :: .row 175 1 (.slice so_ fvs.length ca_) fvs.length fvs :: (made w15 w19 ++ T)) := hM.freezeAt 2 (qr (by simp) (qr (by simp) hTb)) hb18
     refine ⟨_, rfl, ?_⟩
     intro a hA
     refine qb hA rfl rfl rfl (qg rfl) ?_
     intro a hA
     refine qb (v := .func (.func f9) #[] cs9.toArray) hA rfl rfl rfl (qi (vs := [.func (.func f9) #[] cs9.toArray, .bool true]) rfl rfl) ?_
     intro a hA
     refine qb (v := .bool true) hA rfl rfl rfl (qi (vs := [.func (.func f9) #[] cs9.toArray, .bool true]) rfl rfl) ?_
     intro a hA
     refine qb hA rfl rfl rfl (qe rfl) ?_
     intro a hA
     refine qb hA rfl rfl rfl (qe rfl) ?_
     intro a hA
     refine qa ?_
     refine hK16 _ _ ?_
     refine wp_seq_k (fun K20 hK20 => ?_)
     refine wp_seq_k (fun K21 hK21 => ?_)
     refine wp_region_lit ?_
     refine qb hA rfl rfl rfl (qg rfl) ?_
     intro a hA
     refine qb (v := .bool false) hA rfl rfl rfl (ql rfl qp) ?_
     intro a hA
     refine qa ?_
     refine hK21 _ _ ?_
     refine wp_cond_false (hA.ev rfl) ?_
     refine wp_skip ?_
     refine hK20 _ _ ?_
     refine wp_region_lit ?_
     refine qb hA rfl rfl rfl (qg rfl) ?_
     intro a hA
     refine qb hA rfl rfl rfl (qg rfl) ?_
     intro a hA
     refine kx (e := 175) (sz := 1) (m := 1) (vs := [Value.func (.func f9) #[] cs9.toArray]) hA hM rfl rfl rfl (zp rfl (by kernel_rfl)) rfl rfl (.inl (by decide)) ?_
     intro g22 w23 hM a hA
     refine kf (e := 175) (sz := 1) (k := 2) (q := fvs.length) (m := 1) (xs := fvs) (news := [Value.func (.func f9) #[] cs9.toArray]) (L' := fun v24 => (.row 175 1 (.slice (some ⟨g22, 0, none⟩) 1 1) 1 ([Value.func (.func f9) #[] cs9.toArray]) :: .obj g13 (.cells (t1.d.cells t1.ts.length).toArray 30) :: .row 175 1 (v24) (fvs.length + 1) (fvs ++ [Value.func (.func f9) #[] cs9.toArray]) :: (made w15 w19 ++ T))) hA rfl rfl rfl (qdd (z := .nilFunc) (sz := 1) (by_ := 8) Tryz.underlying172 (by kernel_rfl) rfl rfl rfl hM 2 rfl rfl rfl rfl (yb (hM.has 0 rfl)) (fun u hu => by simp only [List.mem_singleton] at hu; subst hu; rfl) (by omega)) (fun _ => rfl) ?_
     intro v24 w25 hM a hA
     replace hM : Mg w w25 (.row 175 1 (.slice (some ⟨g22, 0, none⟩) 1 1) 1 ([Value.func (.func f9) #[] cs9.toArray]) :: .obj g13 (.cells (t1.d.cells t1.ts.length).toArray 30) :: .row 175 1 (v24) ((fvs ++ [Value.func (.func f9) #[] cs9.toArray]).length) ((fvs ++ [Value.func (.func f9) #[] cs9.toArray])) :: (made w15 w19 ++ T)) := by
       rw [List.length_append]; exact hM
     obtain ⟨so26, ca27, rfl⟩ := qah (hM.has 2 rfl)
     refine qb hA rfl rfl rfl (qe rfl) ?_
     intro a hA
     refine qa ?_
     refine hK11 _ _ ?_
     refine wp_region_lit ?_
     refine qb (v := .int .i64 (((i + 1 : Nat) : Int))) hA rfl rfl rfl (qh rfl rfl (ar_add ((in_i64 (by omega) (by omega)).trans (by omega)))) ?_
     intro a hA
     refine qb hA rfl rfl rfl (qg rfl) ?_
     intro a hA
     refine qa ?_
     replace hM := hM.sub (cN (cN (cC (.refl _))))
     refine hK6 _ _ _ (by omega) ⟨i + 1, fvs ++ [Value.func (.func f9) #[] cs9.toArray], ps ++ [p9], (made w15 w19 ++ T), so26, ca27, rfl, ⟨by omega, by rw [List.length_append]; simp only [List.length_cons, List.length_nil]; omega, qsf hal it1 hp9, hTs.snoc (List.subset_append_right _ _) (hTV9.sub (List.subset_append_left _ _)), qpd qvj hTb⟩, hA.keep _ (by repeat' constructor), hM⟩
   · refine qz hA rfl rfl rfl (qk rfl rfl (fun w => by kernel_rfl)) (ih (h0.trans (hM.bel.mono h0.size)) (hI.rd _ mt1) (hI.sh _ mt1) (hI.le _ mt1) hb17) ?_
     rintro _ w29 ⟨fv9, rfl, hT9, hb28⟩
     replace hM := hM.call hb28
     refine ⟨_, rfl, ?_⟩
     intro a hA
     refine qb hA rfl rfl rfl (qg rfl) ?_
     intro a hA
     refine qb (v := fv9) hA rfl rfl rfl (qi (vs := [fv9, .bool false]) rfl rfl) ?_
     intro a hA
     refine qb (v := .bool false) hA rfl rfl rfl (qi (vs := [fv9, .bool false]) rfl rfl) ?_
     intro a hA
     refine qb hA rfl rfl rfl (qe rfl) ?_
     intro a hA
     refine qb hA rfl rfl rfl (qe rfl) ?_
     intro a hA
     refine qa ?_
     refine hK16 _ _ ?_
     refine wp_seq_k (fun K30 hK30 => ?_)
     refine wp_seq_k (fun K31 hK31 => ?_)
     refine wp_region_lit ?_
     refine qb hA rfl rfl rfl (qg rfl) ?_
     intro a hA
     refine qb (v := .bool true) hA rfl rfl rfl (ql rfl qp) ?_
     intro a hA
     refine qa ?_
     refine hK31 _ _ ?_
     refine wp_cond_true (hA.ev rfl) ?_
     refine wp_seq_k (fun K32 hK32 => ?_)
     refine wp_region_lit ?_
     refine qb hA rfl rfl rfl (qe rfl) ?_
     intro a hA
     refine qb hA rfl rfl rfl (qe rfl) ?_
     intro a hA
     refine qa ?_
     refine hK32 _ _ ?_
     refine wp_ret ?_
     refine hret _ _ ?_
     refine je (v := .tuple #[.slice none 0 0, .bool false]) hA rfl (.cons (qj rfl) (.cons (qj rfl) .nil)) rfl ?_
     exact .inr ⟨rfl, qsg (g := fun x : Dt => zx n x.tr) it1 (by simpa using hb17), hM.bel⟩
 · have hb9' := of_decide_eq_false hb9
   refine qb (v := .bool false) hA rfl rfl rfl (qh rfl rfl (fun w => (zh w).trans (by rw [hb9]))) ?_
   intro a hA
   refine qa ?_
   refine hK8 _ _ ?_
   refine wp_seq_k (fun K33 hK33 => ?_)
   refine wp_cond_false (hA.ev rfl) ?_
   refine wp_exit ?_
   refine hK3 _ _ ?_
   refine wp_seq_k (fun K34 hK34 => ?_)
   refine wp_region_lit ?_
   refine qb hA rfl rfl rfl (qg rfl) ?_
   intro a hA
   refine qb hA rfl rfl rfl (qe rfl) ?_
   intro a hA
   refine qb hA rfl rfl rfl (qe rfl) ?_
   intro a hA
   refine qa ?_
   refine hK34 _ _ ?_
   refine wp_ret ?_
   refine hret _ _ ?_
   refine je (v := .tuple #[.slice so_ fvs.length ca_, .bool true]) hA rfl (.cons (qj rfl) (.cons (qj rfl) .nil)) rfl ?_
   exact .inl ⟨_, _, fvs, T, ps, rfl, ⟨qke (g := fun x : Dt => zx n x.tr) hal (by omega), hTs, hTb⟩, hM⟩
theorem qki {w0 w : World} {n : Nat} {so : Option Addr} {ca : Nat} {ts : List Dt} (h0 : Below w0.heap.size w0 w) (hR : Rt w so ts) (hI : ItOk w0 n ts) (hl : ts.length ≤ 4000000) (ih : Subs n) {ps : List (Int → Bool)} (h : jz (ts.map fun x : Dt => zx n x.tr) = some ps) : Calls Tryz.prog 118 #[.slice so ts.length ca, .func (.func 119) #[] #[]] w fun e w' => ∃ so' ca' fvs T, e = .returned (.tuple #[.slice so' (fvs : List Value).length ca', .bool true]) ∧ (TVs RN w0 T fvs ps ∧ kh T) ∧ Mg w w' (.row 175 1 (.slice so' fvs.length ca') fvs.length fvs :: T) := by
  refine (qxh h0 hR hI hl ih).mono ?_
  rintro e w' (⟨so', ca', fvs, T, ps', h1, ⟨h2, h4, h5⟩, h3⟩ | ⟨_, h2, _⟩)
  · rw [h] at h2; cases h2; exact ⟨so', ca', fvs, T, h1, ⟨h4, h5⟩, h3⟩
  · rw [h] at h2; cases h2
theorem qkj {w0 w : World} {n : Nat} {so : Option Addr} {ca : Nat} {ts : List Dt} (h0 : Below w0.heap.size w0 w) (hR : Rt w so ts) (hI : ItOk w0 n ts) (hl : ts.length ≤ 4000000) (ih : Subs n) (h : jz (ts.map fun x : Dt => zx n x.tr) = none) : Calls Tryz.prog 118 #[.slice so ts.length ca, .func (.func 119) #[] #[]] w fun e w' => e = .returned (.tuple #[.slice none 0 0, .bool false]) ∧ Below w.heap.size w w' := by
  refine (qxh h0 hR hI hl ih).mono ?_
  rintro e w' (h1 | ⟨h1, _, h3⟩)
  · obtain ⟨_, _, _, _, _, _, ⟨h2, _⟩, _⟩ := h1; rw [h] at h2; cases h2
  · exact ⟨h1, h3⟩
theorem qxi {w0 w : World} {n : Nat} {so : Option Addr} {ca : Nat} {ts : List Dt} (h0 : Below w0.heap.size w0 w) (hR : Rt w so ts) (hI : ItOk w0 n ts) (hl : ts.length ≤ 4000000) (ih : Refs n) : Calls Tryz.prog 111 #[.slice so ts.length ca, .func (.func 36) #[] #[]] w fun e w' => (∃ so' ca' fvs T ps, e = .returned (.tuple #[.slice so' (fvs : List Value).length ca', .bool true]) ∧ (jz (ts.map fun x : Dt => jk n x.tr) = some ps ∧ TVs RV w0 T fvs ps ∧ kh T) ∧ Mg w w' (.row 88 1 (.slice so' fvs.length ca') fvs.length fvs :: T)) ∨ (e = .returned (.tuple #[.slice none 0 0, .bool false]) ∧ jz (ts.map fun x : Dt => jk n x.tr) = none ∧ Below w.heap.size w w') := by
 have hD : ∀ t ∈ ts, t.rd w := fun t ht => Dt.keep h0 _ (hI.rd t ht)
 have hM : Mg w w ([]) := Mg.start w
 refine qx (l := [(0, .slice so ts.length ca), (1, .func (.func 36) #[] #[])]) Tryz.func111 rfl Tryz.ntmps111 rfl rfl ?_
 intro Q hret hnorm hP a hA
 refine wp_seq_k (fun K1 hK1 => ?_)
 refine wp_region_lit ?_
 refine qb hA rfl rfl rfl (qe rfl) ?_
 intro a hA
 refine qb hA rfl rfl rfl (qe rfl) ?_
 intro a hA
 refine qa ?_
 refine hK1 _ _ ?_
 refine wp_seq_k (fun K2 hK2 => ?_)
 refine wp_region_lit ?_
 refine qb hA rfl rfl rfl (qe rfl) ?_
 intro a hA
 refine qa ?_
 refine hK2 _ _ ?_
 refine wp_seq_k (fun K3 hK3 => ?_)
 refine wp_seq_k (fun K4 hK4 => ?_)
 refine wp_region_lit ?_
 refine qb hA rfl rfl rfl (qg rfl) ?_
 intro a hA
 refine qb (v := .int .i64 (((ts.length : Nat) : Int))) hA rfl rfl rfl (qy Tryz.underlying28 rfl) ?_
 intro a hA
 refine qb hA rfl rfl rfl (qg rfl) ?_
 intro a hA
 refine qa ?_
 refine hK4 _ _ ?_
 refine wp_block ?_
 replace hM := hM.nilRow (qw za) 88 1
 refine jc (fun m_ a w1 => ∃ (i : Nat) (fvs : List Value) (ps : List (List Int → Bool)) (T : List Ck) (so_ : Option Addr) (ca_ : Nat), m_ = 1 + (ts.length - i) ∧ (i ≤ ts.length ∧ fvs.length = i ∧ jz ((ts.take i).map fun x : Dt => jk n x.tr) = some ps ∧ TVs RV w0 T fvs ps ∧ kh T) ∧ Sl a 31 [(0, .slice so ts.length ca), (1, .func (.func 36) #[] #[]), (6, .slice so_ fvs.length ca_), (11, .slice so ts.length ca), (12, .int .i64 (((ts.length : Nat) : Int))), (13, .int .i64 (((i : Nat) : Int)))] ∧ Mg w w1 (.row 88 1 (.slice so_ fvs.length ca_) fvs.length fvs :: T)) _ ⟨0, [], [], [], none, 0, rfl, ⟨Nat.zero_le _, rfl, rfl, TVs.nil, (qw za)⟩, hA.keep _ (by repeat' constructor), hM⟩ ?_
 clear hM hA
 rintro m_ a w5 ⟨i, fvs, ps, T, so_, ca_, rfl, hinv7, hA, hM⟩ K6 hK6
 obtain ⟨hi0, hfl, hal, hTs, hTb⟩ := hinv7
 refine wp_seq_k (fun K8 hK8 => ?_)
 refine wp_region_lit ?_
 rcases Bool.eq_false_or_eq_true (decide (((i : Nat) : Int) < ((ts.length : Nat) : Int))) with hb9 | hb9
 · have hb9' := of_decide_eq_true hb9
   refine qb (v := .bool true) hA rfl rfl rfl (qh rfl rfl (fun w => (zh w).trans (by rw [hb9]))) ?_
   intro a hA
   refine qa ?_
   refine hK8 _ _ ?_
   refine wp_seq_k (fun K10 hK10 => ?_)
   refine wp_cond_true (hA.ev rfl) ?_
   refine wp_skip ?_
   refine hK10 _ _ ?_
   refine wp_seq_k (fun K11 hK11 => ?_)
   refine wp_block ?_
   refine wp_seq_k (fun K12 hK12 => ?_)
   refine wp_region_lit ?_
   obtain ⟨t1, bt1, ot1, it1, mt1, rt1_, lt1, Ht1⟩ := zgd hR hD (i := i) (by omega)
   refine qb (v := .pointer (some ⟨bt1, ot1 + i * 11, none⟩)) hA rfl rfl rfl (ze (k := i) Tryz.underlying28 (by kernel_rfl) rfl rfl rfl lt1 (by omega)) ?_
   intro a hA
   refine qb hA rfl rfl rfl (jh hM Ht1 JcD_isS_30 rfl rfl) ?_
   intro a hA
   refine jl (vs := (xk.d.cells xk.ts.length)) (t := 30) hA hM rfl rfl rfl (fun g => .pointer (some ⟨g, 0, none⟩)) (zv (z := .agg (xk.d.cells xk.ts.length).toArray) (by kernel_rfl) rfl) (by decide) ?_
   intro g13 w14 hM a hA
   refine ja (us := (t1.d.cells t1.ts.length)) (L' := (.obj g13 (.cells (t1.d.cells t1.ts.length).toArray 30) :: .row 88 1 (.slice so_ fvs.length ca_) fvs.length fvs :: T)) hA hM rfl rfl (zq rfl rfl rfl (by kernel_rfl) hM 0 rfl rfl rfl) 0 rfl rfl rfl ?_
   intro w15 hM
   refine qa ?_
   refine hK12 _ _ ?_
   refine wp_seq_k (fun K16 hK16 => ?_)
   refine wp_region_lit ?_
   refine qb hA rfl rfl rfl (qg rfl) ?_
   intro a hA
   refine qb hA rfl rfl rfl (zy hM JcD_isS_30 rfl 0 rfl (cs := (t1.d.cells t1.ts.length)) rfl rfl) ?_
   intro a hA
   rcases Bool.eq_false_or_eq_true ((jk n t1.tr).isSome) with hb17 | hb17
   · refine qz hA rfl rfl rfl (qk rfl rfl (fun w => by kernel_rfl)) (ih (h0.trans (hM.bel.mono h0.size)) (hI.rd _ mt1) (hI.sh _ mt1) (hI.le _ mt1) hb17) ?_
     rintro _ w19 ⟨fv9, rfl, hT9, hb18⟩
     obtain ⟨p9, hp9⟩ := Option.isSome_iff_exists.1 hb17
     have hTV9 := hT9 p9 hp9
     clear hT9
     obtain ⟨f9, cs9, e9, -, -⟩ := id hTV9
     subst e9
     replace hM : Mg w w19 (.obj g13 (.cells (t1.d.cells t1.ts.length).toArray 30) :: .row 88 1 (.slice so_ fvs.length ca_) fvs.length fvs :: (made w15 w19 ++ T)) := hM.freezeAt 2 (qr (by simp) (qr (by simp) hTb)) hb18
     refine ⟨_, rfl, ?_⟩
     intro a hA
     refine qb hA rfl rfl rfl (qg rfl) ?_
     intro a hA
     refine qb (v := .func (.func f9) #[] cs9.toArray) hA rfl rfl rfl (qi (vs := [.func (.func f9) #[] cs9.toArray, .bool true]) rfl rfl) ?_
     intro a hA
     refine qb (v := .bool true) hA rfl rfl rfl (qi (vs := [.func (.func f9) #[] cs9.toArray, .bool true]) rfl rfl) ?_
     intro a hA
     refine qb hA rfl rfl rfl (qe rfl) ?_
     intro a hA
     refine qb hA rfl rfl rfl (qe rfl) ?_
     intro a hA
     refine qa ?_
     refine hK16 _ _ ?_
     refine wp_seq_k (fun K20 hK20 => ?_)
     refine wp_seq_k (fun K21 hK21 => ?_)
     refine wp_region_lit ?_
     refine qb hA rfl rfl rfl (qg rfl) ?_
     intro a hA
     refine qb (v := .bool false) hA rfl rfl rfl (ql rfl qp) ?_
     intro a hA
     refine qa ?_
     refine hK21 _ _ ?_
     refine wp_cond_false (hA.ev rfl) ?_
     refine wp_skip ?_
     refine hK20 _ _ ?_
     refine wp_region_lit ?_
     refine qb hA rfl rfl rfl (qg rfl) ?_
     intro a hA
     refine qb hA rfl rfl rfl (qg rfl) ?_
     intro a hA
     refine kx (e := 88) (sz := 1) (m := 1) (vs := [Value.func (.func f9) #[] cs9.toArray]) hA hM rfl rfl rfl (zp rfl (by kernel_rfl)) rfl rfl (.inl (by decide)) ?_
     intro g22 w23 hM a hA
     refine kf (e := 88) (sz := 1) (k := 2) (q := fvs.length) (m := 1) (xs := fvs) (news := [Value.func (.func f9) #[] cs9.toArray]) (L' := fun v24 => (.row 88 1 (.slice (some ⟨g22, 0, none⟩) 1 1) 1 ([Value.func (.func f9) #[] cs9.toArray]) :: .obj g13 (.cells (t1.d.cells t1.ts.length).toArray 30) :: .row 88 1 (v24) (fvs.length + 1) (fvs ++ [Value.func (.func f9) #[] cs9.toArray]) :: (made w15 w19 ++ T))) hA rfl rfl rfl (qdd (z := .nilFunc) (sz := 1) (by_ := 8) Tryz.underlying167 (by kernel_rfl) rfl rfl rfl hM 2 rfl rfl rfl rfl (yb (hM.has 0 rfl)) (fun u hu => by simp only [List.mem_singleton] at hu; subst hu; rfl) (by omega)) (fun _ => rfl) ?_
     intro v24 w25 hM a hA
     replace hM : Mg w w25 (.row 88 1 (.slice (some ⟨g22, 0, none⟩) 1 1) 1 ([Value.func (.func f9) #[] cs9.toArray]) :: .obj g13 (.cells (t1.d.cells t1.ts.length).toArray 30) :: .row 88 1 (v24) ((fvs ++ [Value.func (.func f9) #[] cs9.toArray]).length) ((fvs ++ [Value.func (.func f9) #[] cs9.toArray])) :: (made w15 w19 ++ T)) := by
       rw [List.length_append]; exact hM
     obtain ⟨so26, ca27, rfl⟩ := qah (hM.has 2 rfl)
     refine qb hA rfl rfl rfl (qe rfl) ?_
     intro a hA
     refine qa ?_
     refine hK11 _ _ ?_
     refine wp_region_lit ?_
     refine qb (v := .int .i64 (((i + 1 : Nat) : Int))) hA rfl rfl rfl (qh rfl rfl (ar_add ((in_i64 (by omega) (by omega)).trans (by omega)))) ?_
     intro a hA
     refine qb hA rfl rfl rfl (qg rfl) ?_
     intro a hA
     refine qa ?_
     replace hM := hM.sub (cN (cN (cC (.refl _))))
     refine hK6 _ _ _ (by omega) ⟨i + 1, fvs ++ [Value.func (.func f9) #[] cs9.toArray], ps ++ [p9], (made w15 w19 ++ T), so26, ca27, rfl, ⟨by omega, by rw [List.length_append]; simp only [List.length_cons, List.length_nil]; omega, qsf hal it1 hp9, hTs.snoc (List.subset_append_right _ _) (hTV9.sub (List.subset_append_left _ _)), qpd qvj hTb⟩, hA.keep _ (by repeat' constructor), hM⟩
   · refine qz hA rfl rfl rfl (qk rfl rfl (fun w => by kernel_rfl)) (ih (h0.trans (hM.bel.mono h0.size)) (hI.rd _ mt1) (hI.sh _ mt1) (hI.le _ mt1) hb17) ?_
     rintro _ w29 ⟨fv9, rfl, hT9, hb28⟩
     replace hM := hM.call hb28
     refine ⟨_, rfl, ?_⟩
     intro a hA
     refine qb hA rfl rfl rfl (qg rfl) ?_
     intro a hA
     refine qb (v := fv9) hA rfl rfl rfl (qi (vs := [fv9, .bool false]) rfl rfl) ?_
     intro a hA
     refine qb (v := .bool false) hA rfl rfl rfl (qi (vs := [fv9, .bool false]) rfl rfl) ?_
     intro a hA
     refine qb hA rfl rfl rfl (qe rfl) ?_
     intro a hA
     refine qb hA rfl rfl rfl (qe rfl) ?_
     intro a hA
     refine qa ?_
     refine hK16 _ _ ?_
     refine wp_seq_k (fun K30 hK30 => ?_)
     refine wp_seq_k (fun K31 hK31 => ?_)
     refine wp_region_lit ?_
     refine qb hA rfl rfl rfl (qg rfl) ?_
     intro a hA
     refine qb (v := .bool true) hA rfl rfl rfl (ql rfl qp) ?_
     intro a hA
     refine qa ?_
     refine hK31 _ _ ?_
     refine wp_cond_true (hA.ev rfl) ?_
     refine wp_seq_k (fun K32 hK32 => ?_)
     refine wp_region_lit ?_
     refine qb hA rfl rfl rfl (qe rfl) ?_
     intro a hA
     refine qb hA rfl rfl rfl (qe rfl) ?_
     intro a hA
     refine qa ?_
     refine hK32 _ _ ?_
     refine wp_ret ?_
     refine hret _ _ ?_
     refine je (v := .tuple #[.slice none 0 0, .bool false]) hA rfl (.cons (qj rfl) (.cons (qj rfl) .nil)) rfl ?_
     exact .inr ⟨rfl, qsg (g := fun x : Dt => jk n x.tr) it1 (by simpa using hb17), hM.bel⟩
 · have hb9' := of_decide_eq_false hb9
   refine qb (v := .bool false) hA rfl rfl rfl (qh rfl rfl (fun w => (zh w).trans (by rw [hb9]))) ?_
   intro a hA
   refine qa ?_
   refine hK8 _ _ ?_
   refine wp_seq_k (fun K33 hK33 => ?_)
   refine wp_cond_false (hA.ev rfl) ?_
   refine wp_exit ?_
   refine hK3 _ _ ?_
   refine wp_seq_k (fun K34 hK34 => ?_)
   refine wp_region_lit ?_
   refine qb hA rfl rfl rfl (qg rfl) ?_
   intro a hA
   refine qb hA rfl rfl rfl (qe rfl) ?_
   intro a hA
   refine qb hA rfl rfl rfl (qe rfl) ?_
   intro a hA
   refine qa ?_
   refine hK34 _ _ ?_
   refine wp_ret ?_
   refine hret _ _ ?_
   refine je (v := .tuple #[.slice so_ fvs.length ca_, .bool true]) hA rfl (.cons (qj rfl) (.cons (qj rfl) .nil)) rfl ?_
   exact .inl ⟨_, _, fvs, T, ps, rfl, ⟨qke (g := fun x : Dt => jk n x.tr) hal (by omega), hTs, hTb⟩, hM⟩
theorem zbi {w0 w : World} {n : Nat} {so : Option Addr} {ca : Nat} {ts : List Dt} (h0 : Below w0.heap.size w0 w) (hR : Rt w so ts) (hI : ItOk w0 n ts) (hl : ts.length ≤ 4000000) (ih : Refs n) {ps : List (List Int → Bool)} (h : jz (ts.map fun x : Dt => jk n x.tr) = some ps) : Calls Tryz.prog 111 #[.slice so ts.length ca, .func (.func 36) #[] #[]] w fun e w' => ∃ so' ca' fvs T, e = .returned (.tuple #[.slice so' (fvs : List Value).length ca', .bool true]) ∧ (TVs RV w0 T fvs ps ∧ kh T) ∧ Mg w w' (.row 88 1 (.slice so' fvs.length ca') fvs.length fvs :: T) := by
  refine (qxi h0 hR hI hl ih).mono ?_
  rintro e w' (⟨so', ca', fvs, T, ps', h1, ⟨h2, h4, h5⟩, h3⟩ | ⟨_, h2, _⟩)
  · rw [h] at h2; cases h2; exact ⟨so', ca', fvs, T, h1, ⟨h4, h5⟩, h3⟩
  · rw [h] at h2; cases h2
theorem zbj {w0 w : World} {n : Nat} {so : Option Addr} {ca : Nat} {ts : List Dt} (h0 : Below w0.heap.size w0 w) (hR : Rt w so ts) (hI : ItOk w0 n ts) (hl : ts.length ≤ 4000000) (ih : Refs n) (h : jz (ts.map fun x : Dt => jk n x.tr) = none) : Calls Tryz.prog 111 #[.slice so ts.length ca, .func (.func 36) #[] #[]] w fun e w' => e = .returned (.tuple #[.slice none 0 0, .bool false]) ∧ Below w.heap.size w w' := by
  refine (qxi h0 hR hI hl ih).mono ?_
  rintro e w' (h1 | ⟨h1, _, h3⟩)
  · obtain ⟨_, _, _, _, _, _, ⟨h2, _⟩, _⟩ := h1; rw [h] at h2; cases h2
  · exact ⟨h1, h3⟩
theorem qxj {w0 w : World} {n : Nat} {so : Option Addr} {ca : Nat} {ts : List Dt} (h0 : Below w0.heap.size w0 w) (hR : Rt w so ts) (hI : ItOk w0 n ts) (hl : ts.length ≤ 4000000)  : Calls Tryz.prog 93 #[.slice so ts.length ca, .func (.func 94) #[] #[]] w fun e w' => (∃ so' ca' zs, e = .returned (.tuple #[.slice so' (zs : List Int).length ca', .bool true]) ∧ jz (ts.map fun x : Dt => jb x.tr) = some zs ∧ Mg w w' [.row 3 1 (.slice so' zs.length ca') zs.length (izC zs)]) ∨ (e = .returned (.tuple #[.slice none 0 0, .bool false]) ∧ jz (ts.map fun x : Dt => jb x.tr) = none ∧ Below w.heap.size w w') := by
 have hD : ∀ t ∈ ts, t.rd w := fun t ht => Dt.keep h0 _ (hI.rd t ht)
 have hM : Mg w w ([]) := Mg.start w
 refine qx (l := [(0, .slice so ts.length ca), (1, .func (.func 94) #[] #[])]) Tryz.func93 rfl Tryz.ntmps93 rfl rfl ?_
 intro Q hret hnorm hP a hA
 refine wp_seq_k (fun K1 hK1 => ?_)
 refine wp_region_lit ?_
 refine qb hA rfl rfl rfl (qe rfl) ?_
 intro a hA
 refine qb hA rfl rfl rfl (qe rfl) ?_
 intro a hA
 refine qa ?_
 refine hK1 _ _ ?_
 refine wp_seq_k (fun K2 hK2 => ?_)
 refine wp_region_lit ?_
 refine qb hA rfl rfl rfl (qe rfl) ?_
 intro a hA
 refine qa ?_
 refine hK2 _ _ ?_
 refine wp_seq_k (fun K3 hK3 => ?_)
 refine wp_seq_k (fun K4 hK4 => ?_)
 refine wp_region_lit ?_
 refine qb hA rfl rfl rfl (qg rfl) ?_
 intro a hA
 refine qb (v := .int .i64 (((ts.length : Nat) : Int))) hA rfl rfl rfl (qy Tryz.underlying28 rfl) ?_
 intro a hA
 refine qb hA rfl rfl rfl (qg rfl) ?_
 intro a hA
 refine qa ?_
 refine hK4 _ _ ?_
 refine wp_block ?_
 replace hM := hM.nilRow (qw za) 3 1
 refine jc (fun m_ a w1 => ∃ (i : Nat) (zs : List Int) (so_ : Option Addr) (ca_ : Nat), m_ = 1 + (ts.length - i) ∧ (i ≤ ts.length ∧ zs.length = i ∧ jz ((ts.take i).map fun x : Dt => jb x.tr) = some zs) ∧ Sl a 31 [(0, .slice so ts.length ca), (1, .func (.func 94) #[] #[]), (6, .slice so_ zs.length ca_), (11, .slice so ts.length ca), (12, .int .i64 (((ts.length : Nat) : Int))), (13, .int .i64 (((i : Nat) : Int)))] ∧ Mg w w1 (.row 3 1 (.slice so_ zs.length ca_) zs.length (izC zs) :: [])) _ ⟨0, [], none, 0, rfl, ⟨Nat.zero_le _, rfl, rfl⟩, hA.keep _ (by repeat' constructor), hM⟩ ?_
 clear hM hA
 rintro m_ a w5 ⟨i, zs, so_, ca_, rfl, hinv7, hA, hM⟩ K6 hK6
 obtain ⟨hi0, hfl, hal⟩ := hinv7
 refine wp_seq_k (fun K8 hK8 => ?_)
 refine wp_region_lit ?_
 rcases Bool.eq_false_or_eq_true (decide (((i : Nat) : Int) < ((ts.length : Nat) : Int))) with hb9 | hb9
 · have hb9' := of_decide_eq_true hb9
   refine qb (v := .bool true) hA rfl rfl rfl (qh rfl rfl (fun w => (zh w).trans (by rw [hb9]))) ?_
   intro a hA
   refine qa ?_
   refine hK8 _ _ ?_
   refine wp_seq_k (fun K10 hK10 => ?_)
   refine wp_cond_true (hA.ev rfl) ?_
   refine wp_skip ?_
   refine hK10 _ _ ?_
   refine wp_seq_k (fun K11 hK11 => ?_)
   refine wp_block ?_
   refine wp_seq_k (fun K12 hK12 => ?_)
   refine wp_region_lit ?_
   obtain ⟨t1, bt1, ot1, it1, mt1, rt1_, lt1, Ht1⟩ := zgd hR hD (i := i) (by omega)
   refine qb (v := .pointer (some ⟨bt1, ot1 + i * 11, none⟩)) hA rfl rfl rfl (ze (k := i) Tryz.underlying28 (by kernel_rfl) rfl rfl rfl lt1 (by omega)) ?_
   intro a hA
   refine qb hA rfl rfl rfl (jh hM Ht1 JcD_isS_30 rfl rfl) ?_
   intro a hA
   refine jl (vs := (xk.d.cells xk.ts.length)) (t := 30) hA hM rfl rfl rfl (fun g => .pointer (some ⟨g, 0, none⟩)) (zv (z := .agg (xk.d.cells xk.ts.length).toArray) (by kernel_rfl) rfl) (by decide) ?_
   intro g13 w14 hM a hA
   refine ja (us := (t1.d.cells t1.ts.length)) (L' := (.obj g13 (.cells (t1.d.cells t1.ts.length).toArray 30) :: .row 3 1 (.slice so_ zs.length ca_) zs.length (izC zs) :: [])) hA hM rfl rfl (zq rfl rfl rfl (by kernel_rfl) hM 0 rfl rfl rfl) 0 rfl rfl rfl ?_
   intro w15 hM
   refine qa ?_
   refine hK12 _ _ ?_
   refine wp_seq_k (fun K16 hK16 => ?_)
   refine wp_region_lit ?_
   refine qb hA rfl rfl rfl (qg rfl) ?_
   intro a hA
   refine qb hA rfl rfl rfl (zy hM JcD_isS_30 rfl 0 rfl (cs := (t1.d.cells t1.ts.length)) rfl rfl) ?_
   intro a hA
   rcases Bool.eq_false_or_eq_true ((jb t1.tr).isSome) with hb17 | hb17
   · refine qz hA rfl rfl rfl (qk rfl rfl (fun w => by kernel_rfl)) ((hb17 ▸ qaa (Dt.keep hM.bel _ rt1_))) ?_
     rintro _ w19 ⟨rfl, hb18⟩
     obtain ⟨p9, hp9⟩ := Option.isSome_iff_exists.1 hb17
     have hz9 := zka hp9
     replace hM := hM.call hb18
     refine ⟨_, rfl, ?_⟩
     intro a hA
     refine qb hA rfl rfl rfl (qg rfl) ?_
     intro a hA
     refine qb (v := .int .i64 ((zu t1.d.y.q).1)) hA rfl rfl rfl (qi (vs := [.int .i64 ((zu t1.d.y.q).1), .bool true]) rfl rfl) ?_
     intro a hA
     refine qb (v := .bool true) hA rfl rfl rfl (qi (vs := [.int .i64 ((zu t1.d.y.q).1), .bool true]) rfl rfl) ?_
     intro a hA
     refine qb hA rfl rfl rfl (qe rfl) ?_
     intro a hA
     refine qb hA rfl rfl rfl (qe rfl) ?_
     intro a hA
     refine qa ?_
     refine hK16 _ _ ?_
     refine wp_seq_k (fun K20 hK20 => ?_)
     refine wp_seq_k (fun K21 hK21 => ?_)
     refine wp_region_lit ?_
     refine qb hA rfl rfl rfl (qg rfl) ?_
     intro a hA
     refine qb (v := .bool false) hA rfl rfl rfl (ql rfl qp) ?_
     intro a hA
     refine qa ?_
     refine hK21 _ _ ?_
     refine wp_cond_false (hA.ev rfl) ?_
     refine wp_skip ?_
     refine hK20 _ _ ?_
     refine wp_region_lit ?_
     refine qb hA rfl rfl rfl (qg rfl) ?_
     intro a hA
     refine qb hA rfl rfl rfl (qg rfl) ?_
     intro a hA
     refine kx (e := 3) (sz := 1) (m := 1) (vs := izC [(zu t1.d.y.q).1]) hA hM rfl rfl rfl (zp rfl (by kernel_rfl)) rfl rfl (.inl (by decide)) ?_
     intro g22 w23 hM a hA
     refine kf (e := 3) (sz := 1) (k := 2) (q := zs.length) (m := 1) (xs := izC zs) (news := izC [(zu t1.d.y.q).1]) (L' := fun v24 => (.row 3 1 (.slice (some ⟨g22, 0, none⟩) 1 1) 1 (izC [(zu t1.d.y.q).1]) :: .obj g13 (.cells (t1.d.cells t1.ts.length).toArray 30) :: .row 3 1 (v24) (zs.length + 1) (izC zs ++ izC [(zu t1.d.y.q).1]) :: [])) hA rfl rfl rfl (qdd (z := .int .i64 0) (sz := 1) (by_ := 8) Tryz.underlying38 (by kernel_rfl) rfl rfl rfl hM 2 rfl rfl rfl (ztb [(zu t1.d.y.q).1]) (yb (hM.has 0 rfl)) (znf [(zu t1.d.y.q).1]) (by omega)) (fun _ => rfl) ?_
     intro v24 w25 hM a hA
     replace hM : Mg w w25 (.row 3 1 (.slice (some ⟨g22, 0, none⟩) 1 1) 1 (izC [(zu t1.d.y.q).1]) :: .obj g13 (.cells (t1.d.cells t1.ts.length).toArray 30) :: .row 3 1 (v24) ((zs ++ [(zu t1.d.y.q).1]).length) (izC (zs ++ [(zu t1.d.y.q).1])) :: []) := by
       rw [← zne, List.length_append]; exact hM
     obtain ⟨so26, ca27, rfl⟩ := qah (hM.has 2 rfl)
     refine qb hA rfl rfl rfl (qe rfl) ?_
     intro a hA
     refine qa ?_
     refine hK11 _ _ ?_
     refine wp_region_lit ?_
     refine qb (v := .int .i64 (((i + 1 : Nat) : Int))) hA rfl rfl rfl (qh rfl rfl (ar_add ((in_i64 (by omega) (by omega)).trans (by omega)))) ?_
     intro a hA
     refine qb hA rfl rfl rfl (qg rfl) ?_
     intro a hA
     refine qa ?_
     replace hM := hM.sub (cN (cN (cC (.refl _))))
     refine hK6 _ _ _ (by omega) ⟨i + 1, zs ++ [(zu t1.d.y.q).1], so26, ca27, rfl, ⟨by omega, by rw [List.length_append]; simp only [List.length_cons, List.length_nil]; omega, qsf hal it1 (by rw [hp9, hz9])⟩, hA.keep _ (by repeat' constructor), hM⟩
   · refine qz hA rfl rfl rfl (qk rfl rfl (fun w => by kernel_rfl)) ((hb17 ▸ qaa (Dt.keep hM.bel _ rt1_))) ?_
     rintro _ w29 ⟨rfl, hb28⟩
     replace hM := hM.call hb28
     refine ⟨_, rfl, ?_⟩
     intro a hA
     refine qb hA rfl rfl rfl (qg rfl) ?_
     intro a hA
     refine qb (v := .int .i64 ((zu t1.d.y.q).1)) hA rfl rfl rfl (qi (vs := [.int .i64 ((zu t1.d.y.q).1), .bool false]) rfl rfl) ?_
     intro a hA
     refine qb (v := .bool false) hA rfl rfl rfl (qi (vs := [.int .i64 ((zu t1.d.y.q).1), .bool false]) rfl rfl) ?_
     intro a hA
     refine qb hA rfl rfl rfl (qe rfl) ?_
     intro a hA
     refine qb hA rfl rfl rfl (qe rfl) ?_
     intro a hA
     refine qa ?_
     refine hK16 _ _ ?_
     refine wp_seq_k (fun K30 hK30 => ?_)
     refine wp_seq_k (fun K31 hK31 => ?_)
     refine wp_region_lit ?_
     refine qb hA rfl rfl rfl (qg rfl) ?_
     intro a hA
     refine qb (v := .bool true) hA rfl rfl rfl (ql rfl qp) ?_
     intro a hA
     refine qa ?_
     refine hK31 _ _ ?_
     refine wp_cond_true (hA.ev rfl) ?_
     refine wp_seq_k (fun K32 hK32 => ?_)
     refine wp_region_lit ?_
     refine qb hA rfl rfl rfl (qe rfl) ?_
     intro a hA
     refine qb hA rfl rfl rfl (qe rfl) ?_
     intro a hA
     refine qa ?_
     refine hK32 _ _ ?_
     refine wp_ret ?_
     refine hret _ _ ?_
     refine je (v := .tuple #[.slice none 0 0, .bool false]) hA rfl (.cons (qj rfl) (.cons (qj rfl) .nil)) rfl ?_
     exact .inr ⟨rfl, qsg (g := fun x : Dt => jb x.tr) it1 (by simpa using hb17), hM.bel⟩
 · have hb9' := of_decide_eq_false hb9
   refine qb (v := .bool false) hA rfl rfl rfl (qh rfl rfl (fun w => (zh w).trans (by rw [hb9]))) ?_
   intro a hA
   refine qa ?_
   refine hK8 _ _ ?_
   refine wp_seq_k (fun K33 hK33 => ?_)
   refine wp_cond_false (hA.ev rfl) ?_
   refine wp_exit ?_
   refine hK3 _ _ ?_
   refine wp_seq_k (fun K34 hK34 => ?_)
   refine wp_region_lit ?_
   refine qb hA rfl rfl rfl (qg rfl) ?_
   intro a hA
   refine qb hA rfl rfl rfl (qe rfl) ?_
   intro a hA
   refine qb hA rfl rfl rfl (qe rfl) ?_
   intro a hA
   refine qa ?_
   refine hK34 _ _ ?_
   refine wp_ret ?_
   refine hret _ _ ?_
   refine je (v := .tuple #[.slice so_ zs.length ca_, .bool true]) hA rfl (.cons (qj rfl) (.cons (qj rfl) .nil)) rfl ?_
   exact .inl ⟨_, _, zs, rfl, qke (g := fun x : Dt => jb x.tr) hal (by omega), hM⟩
theorem qla {w0 w : World} {n : Nat} {so : Option Addr} {ca : Nat} {ts : List Dt} (h0 : Below w0.heap.size w0 w) (hR : Rt w so ts) (hI : ItOk w0 n ts) (hl : ts.length ≤ 4000000) {zs : List Int} (h : jz (ts.map fun x : Dt => jb x.tr) = some zs) : Calls Tryz.prog 93 #[.slice so ts.length ca, .func (.func 94) #[] #[]] w fun e w' => ∃ so' ca', e = .returned (.tuple #[.slice so' zs.length ca', .bool true]) ∧ Mg w w' [.row 3 1 (.slice so' zs.length ca') zs.length (izC zs)] := by
  refine (qxj h0 hR hI hl).mono ?_
  rintro e w' (⟨so', ca', zs', h1, h2, h3⟩ | ⟨_, h2, _⟩)
  · rw [h] at h2; cases h2; exact ⟨so', ca', h1, h3⟩
  · rw [h] at h2; cases h2
theorem qlb {w0 w : World} {n : Nat} {so : Option Addr} {ca : Nat} {ts : List Dt} (h0 : Below w0.heap.size w0 w) (hR : Rt w so ts) (hI : ItOk w0 n ts) (hl : ts.length ≤ 4000000)  (h : jz (ts.map fun x : Dt => jb x.tr) = none) : Calls Tryz.prog 93 #[.slice so ts.length ca, .func (.func 94) #[] #[]] w fun e w' => e = .returned (.tuple #[.slice none 0 0, .bool false]) ∧ Below w.heap.size w w' := by
  refine (qxj h0 hR hI hl).mono ?_
  rintro e w' (h1 | ⟨h1, _, h3⟩)
  · obtain ⟨_, _, _, _, h2, _⟩ := h1; rw [h] at h2; cases h2
  · exact ⟨h1, h3⟩
theorem JcE_is1_167 : Is1 Tryz.prog 167 := ⟨⟨_, Tryz.underlying167, rfl⟩, by kernel_rfl⟩
theorem JcE_is1_172 : Is1 Tryz.prog 172 := ⟨⟨_, Tryz.underlying172, rfl⟩, by kernel_rfl⟩
theorem JcE_is1_38 : Is1 Tryz.prog 38 := ⟨⟨_, Tryz.underlying38, rfl⟩, by kernel_rfl⟩
theorem zua {w0 w w' : World} {g : Nat} {fvs : List Value} {ps : List (Int → Bool)} {so : Option Addr} {ca : Nat} {T : List Ck} (hM : Mg w w' (.obj g (.cells #[.slice so fvs.length ca] 172) :: .row 175 1 (.slice so fvs.length ca) fvs.length fvs :: T)) (hTs : TVs RN w0 T fvs ps) (hl : fvs.length ≤ 4000000) : TV RN w0 (made w w') (.func (.func 181) #[] #[.pointer (some ⟨g, 0, none⟩)]) (fun x9 => !(ps.map fun p => !(p x9)).any id) := by
  refine ⟨_, [.pointer (some ⟨g, 0, none⟩)], rfl, fun us w => by kernel_rfl, fun w1 x9 v hb hO hRv => ?_⟩
  have hO2 := yg hM hO
  have hc := xw hM hO2 0 rfl 0 rfl
  have hr := yv hM hO 1 rfl
  obtain rfl := hRv
  exact zni hTs hb (hO2.sub (fun c h => by simp [h])) rfl hc hr hl
theorem zub {w0 w w' : World} {g : Nat} {fvs : List Value} {ps : List (Int → Bool)} {so : Option Addr} {ca : Nat} {T : List Ck} (hM : Mg w w' (.obj g (.cells #[.slice so fvs.length ca] 172) :: .row 175 1 (.slice so fvs.length ca) fvs.length fvs :: T)) (hTs : TVs RN w0 T fvs ps) (hl : fvs.length ≤ 4000000) : TV RN w0 (made w w') (.func (.func 184) #[] #[.pointer (some ⟨g, 0, none⟩)]) (fun x9 => (ps.map fun p => p x9).any id) := by
  refine ⟨_, [.pointer (some ⟨g, 0, none⟩)], rfl, fun us w => by kernel_rfl, fun w1 x9 v hb hO hRv => ?_⟩
  have hO2 := yg hM hO
  have hc := xw hM hO2 0 rfl 0 rfl
  have hr := yv hM hO 1 rfl
  obtain rfl := hRv
  exact znj hTs hb (hO2.sub (fun c h => by simp [h])) rfl hc hr hl
theorem zuc {w0 w w' : World} {g : Nat} {fvs : List Value} {ps : List (Int → Bool)} {so : Option Addr} {ca : Nat} {T : List Ck} (hM : Mg w w' (.obj g (.cells #[.slice so fvs.length ca] 172) :: .row 175 1 (.slice so fvs.length ca) fvs.length fvs :: T)) (hTs : TVs RN w0 T fvs ps) (hl : fvs.length ≤ 4000000) (hn : ps.length = 1) : TV RN w0 (made w w') (.func (.func 186) #[] #[.pointer (some ⟨g, 0, none⟩)]) (fun x9 => !((ps.headD fun _ => false) x9)) := by
  refine ⟨_, [.pointer (some ⟨g, 0, none⟩)], rfl, fun us w => by kernel_rfl, fun w1 x9 v hb hO hRv => ?_⟩
  have hO2 := yg hM hO
  have hc := xw hM hO2 0 rfl 0 rfl
  have hr := yv hM hO 1 rfl
  obtain rfl := hRv
  exact zoa hTs hb (hO2.sub (fun c h => by simp [h])) rfl hc hr hl hn
theorem zud {w0 w w' : World} {g : Nat} {fvs : List Value} {ps : List (List Int → Bool)} {so : Option Addr} {ca : Nat} {T : List Ck} (hM : Mg w w' (.obj g (.cells #[.slice so fvs.length ca] 167) :: .row 88 1 (.slice so fvs.length ca) fvs.length fvs :: T)) (hTs : TVs RV w0 T fvs ps) (hl : fvs.length ≤ 4000000) : TV RV w0 (made w w') (.func (.func 112) #[] #[.pointer (some ⟨g, 0, none⟩)]) (fun x9 => !(ps.map fun p => !(p x9)).any id) := by
  refine ⟨_, [.pointer (some ⟨g, 0, none⟩)], rfl, fun us w => by kernel_rfl, fun w1 x9 v hb hO hRv => ?_⟩
  have hO2 := yg hM hO
  have hc := xw hM hO2 0 rfl 0 rfl
  have hr := yv hM hO 1 rfl
  obtain ⟨sv, cv, rfl, hv, hlv⟩ := hRv
  exact zod hTs hb (hO2.sub (fun c h => by simp [h])) ⟨sv, cv, rfl, hv, hlv⟩ hc hr hl
theorem zue {w0 w w' : World} {g : Nat} {fvs : List Value} {ps : List (List Int → Bool)} {so : Option Addr} {ca : Nat} {T : List Ck} (hM : Mg w w' (.obj g (.cells #[.slice so fvs.length ca] 167) :: .row 88 1 (.slice so fvs.length ca) fvs.length fvs :: T)) (hTs : TVs RV w0 T fvs ps) (hl : fvs.length ≤ 4000000) : TV RV w0 (made w w') (.func (.func 115) #[] #[.pointer (some ⟨g, 0, none⟩)]) (fun x9 => (ps.map fun p => p x9).any id) := by
  refine ⟨_, [.pointer (some ⟨g, 0, none⟩)], rfl, fun us w => by kernel_rfl, fun w1 x9 v hb hO hRv => ?_⟩
  have hO2 := yg hM hO
  have hc := xw hM hO2 0 rfl 0 rfl
  have hr := yv hM hO 1 rfl
  obtain ⟨sv, cv, rfl, hv, hlv⟩ := hRv
  exact zoe hTs hb (hO2.sub (fun c h => by simp [h])) ⟨sv, cv, rfl, hv, hlv⟩ hc hr hl
theorem zuf {w0 w w' : World} {g : Nat} {fvs : List Value} {ps : List (List Int → Bool)} {so : Option Addr} {ca : Nat} {T : List Ck} (hM : Mg w w' (.obj g (.cells #[.slice so fvs.length ca] 167) :: .row 88 1 (.slice so fvs.length ca) fvs.length fvs :: T)) (hTs : TVs RV w0 T fvs ps) (hl : fvs.length ≤ 4000000) (hn : ps.length = 1) : TV RV w0 (made w w') (.func (.func 117) #[] #[.pointer (some ⟨g, 0, none⟩)]) (fun x9 => !((ps.headD fun _ => false) x9)) := by
  refine ⟨_, [.pointer (some ⟨g, 0, none⟩)], rfl, fun us w => by kernel_rfl, fun w1 x9 v hb hO hRv => ?_⟩
  have hO2 := yg hM hO
  have hc := xw hM hO2 0 rfl 0 rfl
  have hr := yv hM hO 1 rfl
  obtain ⟨sv, cv, rfl, hv, hlv⟩ := hRv
  exact zof hTs hb (hO2.sub (fun c h => by simp [h])) ⟨sv, cv, rfl, hv, hlv⟩ hc hr hl hn
theorem tvR {w0 w w' : World} {g : Nat} {fvs : List Value} {ps : List (Int → Bool)} {so : Option Addr} {ca : Nat} {T : List Ck} (hM : Mg w w' (.obj g (.cells #[.slice so fvs.length ca] 172) :: .row 175 1 (.slice so fvs.length ca) fvs.length fvs :: T)) (hTs : TVs RN w0 T fvs ps) (hl : fvs.length ≤ 4000000) : TV RV w0 (made w w') (.func (.func 120) #[] #[.pointer (some ⟨g, 0, none⟩)]) (uf ps) := by
  refine ⟨_, [.pointer (some ⟨g, 0, none⟩)], rfl, fun us w => by kernel_rfl, fun w1 x9 v hb hO hRv => ?_⟩
  have hO2 := yg hM hO
  have hc := xw hM hO2 0 rfl 0 rfl
  have hr := yv hM hO 1 rfl
  obtain ⟨sv, cv, rfl, hv, hlv⟩ := hRv
  exact zjg hTs hb (hO2.sub (fun c h => by simp [h])) hv hlv hc hr hl
theorem tvE {w0 w w' : World} {g : Nat} {b : Int} {L : List Ck} (hM : Mg w w' (.obj g (.cells #[.int .i64 b] 3) :: L)) : TV RN w0 (made w w') (.func (.func 148) #[] #[.pointer (some ⟨g, 0, none⟩)]) (fun z => z == b) := by
  refine ⟨_, [.pointer (some ⟨g, 0, none⟩)], rfl, fun us w => by kernel_rfl, fun w1 x9 v hb hO hRv => ?_⟩
  have hO2 := yg hM hO
  obtain rfl := hRv
  exact zog (xw hM hO2 0 rfl 0 rfl)
theorem zug {w0 w w' : World} {g h : Nat} {b : Int} {so : Option Addr} {ca : Nat} {L : List Ck} (hM : Mg w w' (.obj g (.cells #[.slice so 1 ca] 38) :: .row 3 1 (.slice so 1 ca) 1 (izC [b]) :: .obj h (.cells #[.func (.func 150) #[] #[]] 131) :: L)) : TV RN w0 (made w w') (.func (.func 180) #[] #[.pointer (some ⟨h, 0, none⟩), .pointer (some ⟨g, 0, none⟩)]) (fun z => decide (b ≤ z)) := by
  refine ⟨_, [.pointer (some ⟨h, 0, none⟩), .pointer (some ⟨g, 0, none⟩)], rfl, fun us w => by kernel_rfl, fun w1 x9 v hb hO hRv => ?_⟩
  have hO2 := yg hM hO
  obtain rfl := hRv
  exact zbe (xw hM hO2 2 rfl 0 rfl) (xw hM hO2 0 rfl 0 rfl) (yv hM hO 1 rfl)
theorem zuh {w0 w w' : World} {g h : Nat} {b : Int} {so : Option Addr} {ca : Nat} {L : List Ck} (hM : Mg w w' (.obj g (.cells #[.slice so 1 ca] 38) :: .row 3 1 (.slice so 1 ca) 1 (izC [b]) :: .obj h (.cells #[.func (.func 151) #[] #[]] 131) :: L)) : TV RN w0 (made w w') (.func (.func 180) #[] #[.pointer (some ⟨h, 0, none⟩), .pointer (some ⟨g, 0, none⟩)]) (fun z => decide (z ≤ b)) := by
  refine ⟨_, [.pointer (some ⟨h, 0, none⟩), .pointer (some ⟨g, 0, none⟩)], rfl, fun us w => by kernel_rfl, fun w1 x9 v hb hO hRv => ?_⟩
  have hO2 := yg hM hO
  obtain rfl := hRv
  exact zbf (xw hM hO2 2 rfl 0 rfl) (xw hM hO2 0 rfl 0 rfl) (yv hM hO 1 rfl)
theorem qya {w0 w : World} {n : Nat} {so : Option Addr} {ca : Nat} {ts : List Dt} (h0 : Below w0.heap.size w0 w) (hR : Rt w so ts) (hI : ItOk w0 n ts) (hl : ts.length ≤ 4000000) (ih : Subs n) {s : ByteArray} : Calls Tryz.prog 152 #[.string s, .slice so ts.length ca, .func (.func 119) #[] #[]] w fun e w' => ∃ fv, e = .returned (.tuple #[fv, .bool (jg s (ts.map fun x : Dt => zx n x.tr)).isSome]) ∧ (∀ p, jg s (ts.map fun x : Dt => zx n x.tr) = some p → TV RN w0 (made w w') fv p) ∧ Below w.heap.size w w' := by
 have hM : Mg w w ([]) := Mg.start w
 refine qx (l := [(0, .string s), (1, .slice so ts.length ca), (2, .func (.func 119) #[] #[])]) Tryz.func152 rfl Tryz.ntmps152 rfl rfl ?_
 intro Q hret hnorm hP a hA
 refine wp_seq_k (fun K1 hK1 => ?_)
 refine wp_region_lit ?_
 refine qb hA rfl rfl rfl (qe rfl) ?_
 intro a hA
 refine qb hA rfl rfl rfl (qe rfl) ?_
 intro a hA
 refine qa ?_
 refine hK1 _ _ ?_
 refine wp_seq_k (fun K2 hK2 => ?_)
 refine wp_region_lit ?_
 refine qb hA rfl rfl rfl (qg rfl) ?_
 intro a hA
 refine qb hA rfl rfl rfl (qg rfl) ?_
 intro a hA
 rcases Bool.eq_false_or_eq_true ((jz (ts.map fun x : Dt => zx n x.tr)).isSome) with hb3 | hb3
 · obtain ⟨ps, hps⟩ := Option.isSome_iff_exists.1 hb3
   refine qz hA rfl rfl rfl (qk rfl rfl (fun w => by kernel_rfl)) (qki (h0.trans (hM.bel.mono h0.size)) (hR.below hM.bel) hI hl ih hps) ?_
   rintro _ w7 ⟨so4, ca5, fvs, T, rfl, ⟨hTs, hTb⟩, hM6⟩
   replace hM : Mg w w7 (.row 175 1 (.slice so4 fvs.length ca5) fvs.length fvs :: T) := (by have h9 := hM.both hM6 (qw za) (qr (by simp) hTb); rw [List.append_nil] at h9; exact h9)
   refine ⟨_, rfl, ?_⟩
   intro a hA
   refine qb hA rfl rfl rfl (qg rfl) ?_
   intro a hA
   refine qb (v := .slice so4 fvs.length ca5) hA rfl rfl rfl (qi (vs := [.slice so4 fvs.length ca5, .bool true]) rfl rfl) ?_
   intro a hA
   refine qb (v := .bool true) hA rfl rfl rfl (qi (vs := [.slice so4 fvs.length ca5, .bool true]) rfl rfl) ?_
   intro a hA
   refine jl (vs := [.slice none 0 0]) (t := 172) hA hM rfl rfl rfl (fun g => .pointer (some ⟨g, 0, none⟩)) (zv (z := .slice none 0 0) (by kernel_rfl) rfl) (by decide) ?_
   intro g8 w9 hM a hA
   refine ja (us := [.slice so4 fvs.length ca5]) (L' := (.obj g8 (.cells #[.slice so4 fvs.length ca5] 172) :: .row 175 1 (.slice so4 fvs.length ca5) fvs.length fvs :: T)) hA hM rfl rfl (zq rfl rfl rfl (by kernel_rfl) hM 0 rfl rfl rfl) 0 rfl rfl rfl ?_
   intro w10 hM
   refine qb hA rfl rfl rfl (qe rfl) ?_
   intro a hA
   refine qa ?_
   refine hK2 _ _ ?_
   refine wp_seq_k (fun K11 hK11 => ?_)
   refine wp_seq_k (fun K12 hK12 => ?_)
   refine wp_region_lit ?_
   refine qb hA rfl rfl rfl (qg rfl) ?_
   intro a hA
   refine qb (v := .bool false) hA rfl rfl rfl (ql rfl qp) ?_
   intro a hA
   refine qa ?_
   refine hK12 _ _ ?_
   refine wp_cond_false (hA.ev rfl) ?_
   refine wp_skip ?_
   refine hK11 _ _ ?_
   refine wp_seq_k (fun K13 hK13 => ?_)
   refine wp_block ?_
   refine wp_seq_k (fun K14 hK14 => ?_)
   refine wp_region_lit ?_
   refine qb hA rfl rfl rfl (qg rfl) ?_
   intro a hA
   rcases Bool.eq_false_or_eq_true (decide (s = ⟨#[97, 110, 100]⟩)) with hb15 | hb15
   · have hb15' := of_decide_eq_true hb15
     refine qb (v := .bool true) hA rfl rfl rfl (qh rfl rfl (fun w => (zn Tryz.underlying9 w).trans (by rw [hb15] <;> rfl))) ?_
     intro a hA
     refine qb hA rfl rfl rfl (qe rfl) ?_
     intro a hA
     refine qa ?_
     refine hK14 _ _ ?_
     refine wp_cond_true (hA.ev rfl) ?_
     refine wp_seq_k (fun K16 hK16 => ?_)
     refine wp_region_lit ?_
     refine qb (v := .func (.func 181) #[] [.pointer (some ⟨g8, 0, none⟩)].toArray) hA rfl rfl rfl (jj rfl) ?_
     intro a hA
     refine qb hA rfl rfl rfl (qe rfl) ?_
     intro a hA
     refine qb hA rfl rfl rfl (qe rfl) ?_
     intro a hA
     refine qa ?_
     refine hK16 _ _ ?_
     refine wp_ret ?_
     refine hret _ _ ?_
     refine je (v := .tuple #[.func (.func 181) #[] [.pointer (some ⟨g8, 0, none⟩)].toArray, .bool true]) hA rfl (.cons (qj rfl) (.cons (qj rfl) .nil)) rfl ?_
     have hw17 : s = vv := of_decide_eq_true hb15
     have e9 : jg s (ts.map fun x : Dt => zx n x.tr) = some (fun x9 => !(ps.map fun p => !(p x9)).any id) := by unfold jg; rw [hps]; show (if _ then _ else _) = _; rw [if_pos hw17]
     have hlf : fvs.length ≤ 4000000 := by rw [hTs.1, ka hps, List.length_map]; exact hl
     exact ⟨_, by rw [e9]; rfl, fun p hp => (by rw [e9] at hp; cases hp; exact zua hM hTs hlf), hM.bel⟩
   · have hb15' := of_decide_eq_false hb15
     refine qb (v := .bool false) hA rfl rfl rfl (qh rfl rfl (fun w => (zn Tryz.underlying9 w).trans (by rw [hb15] <;> rfl))) ?_
     intro a hA
     refine qb hA rfl rfl rfl (qe rfl) ?_
     intro a hA
     refine qa ?_
     refine hK14 _ _ ?_
     refine wp_cond_false (hA.ev rfl) ?_
     refine wp_seq_k (fun K18 hK18 => ?_)
     refine wp_region_lit ?_
     refine qb hA rfl rfl rfl (qg rfl) ?_
     intro a hA
     rcases Bool.eq_false_or_eq_true (decide (s = ⟨#[111, 114]⟩)) with hb19 | hb19
     · have hb19' := of_decide_eq_true hb19
       refine qb (v := .bool true) hA rfl rfl rfl (qh rfl rfl (fun w => (zn Tryz.underlying9 w).trans (by rw [hb19] <;> rfl))) ?_
       intro a hA
       refine qb hA rfl rfl rfl (qe rfl) ?_
       intro a hA
       refine qa ?_
       refine hK18 _ _ ?_
       refine wp_cond_true (hA.ev rfl) ?_
       refine wp_seq_k (fun K20 hK20 => ?_)
       refine wp_region_lit ?_
       refine qb (v := .func (.func 184) #[] [.pointer (some ⟨g8, 0, none⟩)].toArray) hA rfl rfl rfl (jj rfl) ?_
       intro a hA
       refine qb hA rfl rfl rfl (qe rfl) ?_
       intro a hA
       refine qb hA rfl rfl rfl (qe rfl) ?_
       intro a hA
       refine qa ?_
       refine hK20 _ _ ?_
       refine wp_ret ?_
       refine hret _ _ ?_
       refine je (v := .tuple #[.func (.func 184) #[] [.pointer (some ⟨g8, 0, none⟩)].toArray, .bool true]) hA rfl (.cons (qj rfl) (.cons (qj rfl) .nil)) rfl ?_
       have hw21 : ¬ s = vv := of_decide_eq_false hb15
       have hw22 : s = wOr := of_decide_eq_true hb19
       have e9 : jg s (ts.map fun x : Dt => zx n x.tr) = some (fun x9 => (ps.map fun p => p x9).any id) := by unfold jg; rw [hps]; show (if _ then _ else _) = _; rw [if_neg hw21, if_pos hw22]
       have hlf : fvs.length ≤ 4000000 := by rw [hTs.1, ka hps, List.length_map]; exact hl
       exact ⟨_, by rw [e9]; rfl, fun p hp => (by rw [e9] at hp; cases hp; exact zub hM hTs hlf), hM.bel⟩
     · have hb19' := of_decide_eq_false hb19
       refine qb (v := .bool false) hA rfl rfl rfl (qh rfl rfl (fun w => (zn Tryz.underlying9 w).trans (by rw [hb19] <;> rfl))) ?_
       intro a hA
       refine qb hA rfl rfl rfl (qe rfl) ?_
       intro a hA
       refine qa ?_
       refine hK18 _ _ ?_
       refine wp_cond_false (hA.ev rfl) ?_
       refine wp_seq_k (fun K23 hK23 => ?_)
       refine wp_region_lit ?_
       refine qb hA rfl rfl rfl (qg rfl) ?_
       intro a hA
       rcases Bool.eq_false_or_eq_true (decide (s = ⟨#[110, 111, 116]⟩)) with hb24 | hb24
       · have hb24' := of_decide_eq_true hb24
         refine qb (v := .bool true) hA rfl rfl rfl (qh rfl rfl (fun w => (zn Tryz.underlying9 w).trans (by rw [hb24] <;> rfl))) ?_
         intro a hA
         refine qb hA rfl rfl rfl (qg rfl) ?_
         intro a hA
         refine qb hA rfl rfl rfl (zi hM JcE_is1_172 rfl 0 rfl rfl) ?_
         intro a hA
         refine qb (v := .int .i64 (((fvs.length : Nat) : Int))) hA rfl rfl rfl (qy Tryz.underlying172 rfl) ?_
         intro a hA
         rcases Bool.eq_false_or_eq_true ((((fvs.length : Nat) : Int) == 1)) with hb25 | hb25
         · have hb25' := eq_of_beq hb25
           refine qb (v := .bool true) hA rfl rfl rfl (qh rfl rfl (fun w => (qt w).trans (by rw [hb25]))) ?_
           intro a hA
           refine qb (v := .bool true) hA rfl rfl rfl (zm rfl rfl rfl rfl) ?_
           intro a hA
           refine qb hA rfl rfl rfl (qe rfl) ?_
           intro a hA
           refine qa ?_
           refine hK23 _ _ ?_
           refine wp_cond_true (hA.ev rfl) ?_
           refine wp_seq_k (fun K26 hK26 => ?_)
           refine wp_region_lit ?_
           refine qb (v := .func (.func 186) #[] [.pointer (some ⟨g8, 0, none⟩)].toArray) hA rfl rfl rfl (jj rfl) ?_
           intro a hA
           refine qb hA rfl rfl rfl (qe rfl) ?_
           intro a hA
           refine qb hA rfl rfl rfl (qe rfl) ?_
           intro a hA
           refine qa ?_
           refine hK26 _ _ ?_
           refine wp_ret ?_
           refine hret _ _ ?_
           refine je (v := .tuple #[.func (.func 186) #[] [.pointer (some ⟨g8, 0, none⟩)].toArray, .bool true]) hA rfl (.cons (qj rfl) (.cons (qj rfl) .nil)) rfl ?_
           have hw27 : ¬ s = vv := of_decide_eq_false hb15
           have hw28 : ¬ s = wOr := of_decide_eq_false hb19
           have hw29 : s = kk := of_decide_eq_true hb24
           have hn9 : ps.length = 1 := by have := hTs.1; have h8 := hb25'; omega
           have e9 : jg s (ts.map fun x : Dt => zx n x.tr) = some (fun x9 => !((ps.headD fun _ => false) x9)) := by unfold jg; rw [hps]; show (if _ then _ else _) = _; rw [if_neg hw27, if_neg hw28, if_pos ⟨hw29, hn9⟩]
           have hlf : fvs.length ≤ 4000000 := by rw [hTs.1, ka hps, List.length_map]; exact hl
           exact ⟨_, by rw [e9]; rfl, fun p hp => (by rw [e9] at hp; cases hp; exact zuc hM hTs hlf hn9), hM.bel⟩
         · have hb25' := ne_of_beq_false hb25
           refine qb (v := .bool false) hA rfl rfl rfl (qh rfl rfl (fun w => (qt w).trans (by rw [hb25]))) ?_
           intro a hA
           refine qb (v := .bool false) hA rfl rfl rfl (zm rfl rfl rfl rfl) ?_
           intro a hA
           refine qb hA rfl rfl rfl (qe rfl) ?_
           intro a hA
           refine qa ?_
           refine hK23 _ _ ?_
           refine wp_cond_false (hA.ev rfl) ?_
           refine wp_skip ?_
           refine hK13 _ _ ?_
           refine wp_seq_k (fun K30 hK30 => ?_)
           refine wp_region_lit ?_
           refine qb hA rfl rfl rfl (qe rfl) ?_
           intro a hA
           refine qb hA rfl rfl rfl (qe rfl) ?_
           intro a hA
           refine qa ?_
           refine hK30 _ _ ?_
           refine wp_ret ?_
           refine hret _ _ ?_
           refine je (v := .tuple #[.nilFunc, .bool false]) hA rfl (.cons (qj rfl) (.cons (qj rfl) .nil)) rfl ?_
           have hw31 : ¬ s = vv := of_decide_eq_false hb15
           have hw32 : ¬ s = wOr := of_decide_eq_false hb19
           have hw33 : s = kk := of_decide_eq_true hb24
           have hn9 : ¬ ps.length = 1 := by have := hTs.1; have h8 := hb25'; omega
           have e9 : jg s (ts.map fun x : Dt => zx n x.tr) = none := by unfold jg; rw [hps]; show (if _ then _ else _) = _; rw [if_neg hw31, if_neg hw32, if_neg (fun h => hn9 h.2)]
           exact ⟨_, by rw [e9]; rfl, fun p hp => (by rw [e9] at hp; cases hp), hM.bel⟩
       · have hb24' := of_decide_eq_false hb24
         refine qb (v := .bool false) hA rfl rfl rfl (qh rfl rfl (fun w => (zn Tryz.underlying9 w).trans (by rw [hb24] <;> rfl))) ?_
         intro a hA
         refine qb hA rfl rfl rfl (qg rfl) ?_
         intro a hA
         refine qm hA rfl rfl rfl ?_
         intro a hA
         refine qm hA rfl rfl rfl ?_
         intro a hA
         refine qm hA rfl rfl rfl ?_
         intro a hA
         refine qb (v := .bool false) hA rfl rfl rfl (zm rfl rfl rfl rfl) ?_
         intro a hA
         refine qb hA rfl rfl rfl (qe rfl) ?_
         intro a hA
         refine qa ?_
         refine hK23 _ _ ?_
         refine wp_cond_false (hA.ev rfl) ?_
         refine wp_skip ?_
         refine hK13 _ _ ?_
         refine wp_seq_k (fun K34 hK34 => ?_)
         refine wp_region_lit ?_
         refine qb hA rfl rfl rfl (qe rfl) ?_
         intro a hA
         refine qb hA rfl rfl rfl (qe rfl) ?_
         intro a hA
         refine qa ?_
         refine hK34 _ _ ?_
         refine wp_ret ?_
         refine hret _ _ ?_
         refine je (v := .tuple #[.nilFunc, .bool false]) hA rfl (.cons (qj rfl) (.cons (qj rfl) .nil)) rfl ?_
         have hw35 : ¬ s = vv := of_decide_eq_false hb15
         have hw36 : ¬ s = wOr := of_decide_eq_false hb19
         have hw37 : ¬ s = kk := of_decide_eq_false hb24
         have e9 : jg s (ts.map fun x : Dt => zx n x.tr) = none := by unfold jg; rw [hps]; show (if _ then _ else _) = _; rw [if_neg hw35, if_neg hw36, if_neg (fun h => hw37 h.1)]
         exact ⟨_, by rw [e9]; rfl, fun p hp => (by rw [e9] at hp; cases hp), hM.bel⟩
 · refine qz hA rfl rfl rfl (qk rfl rfl (fun w => by kernel_rfl)) (qkj (h0.trans (hM.bel.mono h0.size)) (hR.below hM.bel) hI hl ih (by simpa using hb3)) ?_
   rintro _ w42 ⟨rfl, hb41⟩
   replace hM := hM.call hb41
   refine ⟨_, rfl, ?_⟩
   intro a hA
   refine qb hA rfl rfl rfl (qg rfl) ?_
   intro a hA
   refine qb (v := .slice none 0 0) hA rfl rfl rfl (qi (vs := [.slice none 0 0, .bool false]) rfl rfl) ?_
   intro a hA
   refine qb (v := .bool false) hA rfl rfl rfl (qi (vs := [.slice none 0 0, .bool false]) rfl rfl) ?_
   intro a hA
   refine jl (vs := [.slice none 0 0]) (t := 172) hA hM rfl rfl rfl (fun g => .pointer (some ⟨g, 0, none⟩)) (zv (z := .slice none 0 0) (by kernel_rfl) rfl) (by decide) ?_
   intro g43 w44 hM a hA
   refine ja (us := [.slice none 0 0]) (L' := (.obj g43 (.cells #[.slice none 0 0] 172) :: [])) hA hM rfl rfl (zq rfl rfl rfl (by kernel_rfl) hM 0 rfl rfl rfl) 0 rfl rfl rfl ?_
   intro w45 hM
   refine qb hA rfl rfl rfl (qe rfl) ?_
   intro a hA
   refine qa ?_
   refine hK2 _ _ ?_
   refine wp_seq_k (fun K46 hK46 => ?_)
   refine wp_seq_k (fun K47 hK47 => ?_)
   refine wp_region_lit ?_
   refine qb hA rfl rfl rfl (qg rfl) ?_
   intro a hA
   refine qb (v := .bool true) hA rfl rfl rfl (ql rfl qp) ?_
   intro a hA
   refine qa ?_
   refine hK47 _ _ ?_
   refine wp_cond_true (hA.ev rfl) ?_
   refine wp_seq_k (fun K48 hK48 => ?_)
   refine wp_region_lit ?_
   refine qb hA rfl rfl rfl (qe rfl) ?_
   intro a hA
   refine qb hA rfl rfl rfl (qe rfl) ?_
   intro a hA
   refine qa ?_
   refine hK48 _ _ ?_
   refine wp_ret ?_
   refine hret _ _ ?_
   refine je (v := .tuple #[.nilFunc, .bool false]) hA rfl (.cons (qj rfl) (.cons (qj rfl) .nil)) rfl ?_
   have e9 : jg s (ts.map fun x : Dt => zx n x.tr) = none := by unfold jg; rw [show jz (ts.map fun x : Dt => zx n x.tr) = none from by simpa using hb3]
   exact ⟨_, by rw [e9]; rfl, fun p hp => (by rw [e9] at hp; cases hp), hM.bel⟩
theorem qyb {w0 w : World} {n : Nat} {so : Option Addr} {ca : Nat} {ts : List Dt} (h0 : Below w0.heap.size w0 w) (hR : Rt w so ts) (hI : ItOk w0 n ts) (hl : ts.length ≤ 4000000) (ih : Refs n) {s : ByteArray} : Calls Tryz.prog 67 #[.string s, .slice so ts.length ca, .func (.func 36) #[] #[]] w fun e w' => ∃ fv, e = .returned (.tuple #[fv, .bool (jg s (ts.map fun x : Dt => jk n x.tr)).isSome]) ∧ (∀ p, jg s (ts.map fun x : Dt => jk n x.tr) = some p → TV RV w0 (made w w') fv p) ∧ Below w.heap.size w w' := by
 have hM : Mg w w ([]) := Mg.start w
 refine qx (l := [(0, .string s), (1, .slice so ts.length ca), (2, .func (.func 36) #[] #[])]) Tryz.func67 rfl Tryz.ntmps67 rfl rfl ?_
 intro Q hret hnorm hP a hA
 refine wp_seq_k (fun K1 hK1 => ?_)
 refine wp_region_lit ?_
 refine qb hA rfl rfl rfl (qe rfl) ?_
 intro a hA
 refine qb hA rfl rfl rfl (qe rfl) ?_
 intro a hA
 refine qa ?_
 refine hK1 _ _ ?_
 refine wp_seq_k (fun K2 hK2 => ?_)
 refine wp_region_lit ?_
 refine qb hA rfl rfl rfl (qg rfl) ?_
 intro a hA
 refine qb hA rfl rfl rfl (qg rfl) ?_
 intro a hA
 rcases Bool.eq_false_or_eq_true ((jz (ts.map fun x : Dt => jk n x.tr)).isSome) with hb3 | hb3
 · obtain ⟨ps, hps⟩ := Option.isSome_iff_exists.1 hb3
   refine qz hA rfl rfl rfl (qk rfl rfl (fun w => by kernel_rfl)) (zbi (h0.trans (hM.bel.mono h0.size)) (hR.below hM.bel) hI hl ih hps) ?_
   rintro _ w7 ⟨so4, ca5, fvs, T, rfl, ⟨hTs, hTb⟩, hM6⟩
   replace hM : Mg w w7 (.row 88 1 (.slice so4 fvs.length ca5) fvs.length fvs :: T) := (by have h9 := hM.both hM6 (qw za) (qr (by simp) hTb); rw [List.append_nil] at h9; exact h9)
   refine ⟨_, rfl, ?_⟩
   intro a hA
   refine qb hA rfl rfl rfl (qg rfl) ?_
   intro a hA
   refine qb (v := .slice so4 fvs.length ca5) hA rfl rfl rfl (qi (vs := [.slice so4 fvs.length ca5, .bool true]) rfl rfl) ?_
   intro a hA
   refine qb (v := .bool true) hA rfl rfl rfl (qi (vs := [.slice so4 fvs.length ca5, .bool true]) rfl rfl) ?_
   intro a hA
   refine jl (vs := [.slice none 0 0]) (t := 167) hA hM rfl rfl rfl (fun g => .pointer (some ⟨g, 0, none⟩)) (zv (z := .slice none 0 0) (by kernel_rfl) rfl) (by decide) ?_
   intro g8 w9 hM a hA
   refine ja (us := [.slice so4 fvs.length ca5]) (L' := (.obj g8 (.cells #[.slice so4 fvs.length ca5] 167) :: .row 88 1 (.slice so4 fvs.length ca5) fvs.length fvs :: T)) hA hM rfl rfl (zq rfl rfl rfl (by kernel_rfl) hM 0 rfl rfl rfl) 0 rfl rfl rfl ?_
   intro w10 hM
   refine qb hA rfl rfl rfl (qe rfl) ?_
   intro a hA
   refine qa ?_
   refine hK2 _ _ ?_
   refine wp_seq_k (fun K11 hK11 => ?_)
   refine wp_seq_k (fun K12 hK12 => ?_)
   refine wp_region_lit ?_
   refine qb hA rfl rfl rfl (qg rfl) ?_
   intro a hA
   refine qb (v := .bool false) hA rfl rfl rfl (ql rfl qp) ?_
   intro a hA
   refine qa ?_
   refine hK12 _ _ ?_
   refine wp_cond_false (hA.ev rfl) ?_
   refine wp_skip ?_
   refine hK11 _ _ ?_
   refine wp_seq_k (fun K13 hK13 => ?_)
   refine wp_block ?_
   refine wp_seq_k (fun K14 hK14 => ?_)
   refine wp_region_lit ?_
   refine qb hA rfl rfl rfl (qg rfl) ?_
   intro a hA
   rcases Bool.eq_false_or_eq_true (decide (s = ⟨#[97, 110, 100]⟩)) with hb15 | hb15
   · have hb15' := of_decide_eq_true hb15
     refine qb (v := .bool true) hA rfl rfl rfl (qh rfl rfl (fun w => (zn Tryz.underlying9 w).trans (by rw [hb15] <;> rfl))) ?_
     intro a hA
     refine qb hA rfl rfl rfl (qe rfl) ?_
     intro a hA
     refine qa ?_
     refine hK14 _ _ ?_
     refine wp_cond_true (hA.ev rfl) ?_
     refine wp_seq_k (fun K16 hK16 => ?_)
     refine wp_region_lit ?_
     refine qb (v := .func (.func 112) #[] [.pointer (some ⟨g8, 0, none⟩)].toArray) hA rfl rfl rfl (jj rfl) ?_
     intro a hA
     refine qb hA rfl rfl rfl (qe rfl) ?_
     intro a hA
     refine qb hA rfl rfl rfl (qe rfl) ?_
     intro a hA
     refine qa ?_
     refine hK16 _ _ ?_
     refine wp_ret ?_
     refine hret _ _ ?_
     refine je (v := .tuple #[.func (.func 112) #[] [.pointer (some ⟨g8, 0, none⟩)].toArray, .bool true]) hA rfl (.cons (qj rfl) (.cons (qj rfl) .nil)) rfl ?_
     have hw17 : s = vv := of_decide_eq_true hb15
     have e9 : jg s (ts.map fun x : Dt => jk n x.tr) = some (fun x9 => !(ps.map fun p => !(p x9)).any id) := by unfold jg; rw [hps]; show (if _ then _ else _) = _; rw [if_pos hw17]
     have hlf : fvs.length ≤ 4000000 := by rw [hTs.1, ka hps, List.length_map]; exact hl
     exact ⟨_, by rw [e9]; rfl, fun p hp => (by rw [e9] at hp; cases hp; exact zud hM hTs hlf), hM.bel⟩
   · have hb15' := of_decide_eq_false hb15
     refine qb (v := .bool false) hA rfl rfl rfl (qh rfl rfl (fun w => (zn Tryz.underlying9 w).trans (by rw [hb15] <;> rfl))) ?_
     intro a hA
     refine qb hA rfl rfl rfl (qe rfl) ?_
     intro a hA
     refine qa ?_
     refine hK14 _ _ ?_
     refine wp_cond_false (hA.ev rfl) ?_
     refine wp_seq_k (fun K18 hK18 => ?_)
     refine wp_region_lit ?_
     refine qb hA rfl rfl rfl (qg rfl) ?_
     intro a hA
     rcases Bool.eq_false_or_eq_true (decide (s = ⟨#[111, 114]⟩)) with hb19 | hb19
     · have hb19' := of_decide_eq_true hb19
       refine qb (v := .bool true) hA rfl rfl rfl (qh rfl rfl (fun w => (zn Tryz.underlying9 w).trans (by rw [hb19] <;> rfl))) ?_
       intro a hA
       refine qb hA rfl rfl rfl (qe rfl) ?_
       intro a hA
       refine qa ?_
       refine hK18 _ _ ?_
       refine wp_cond_true (hA.ev rfl) ?_
       refine wp_seq_k (fun K20 hK20 => ?_)
       refine wp_region_lit ?_
       refine qb (v := .func (.func 115) #[] [.pointer (some ⟨g8, 0, none⟩)].toArray) hA rfl rfl rfl (jj rfl) ?_
       intro a hA
       refine qb hA rfl rfl rfl (qe rfl) ?_
       intro a hA
       refine qb hA rfl rfl rfl (qe rfl) ?_
       intro a hA
       refine qa ?_
       refine hK20 _ _ ?_
       refine wp_ret ?_
       refine hret _ _ ?_
       refine je (v := .tuple #[.func (.func 115) #[] [.pointer (some ⟨g8, 0, none⟩)].toArray, .bool true]) hA rfl (.cons (qj rfl) (.cons (qj rfl) .nil)) rfl ?_
       have hw21 : ¬ s = vv := of_decide_eq_false hb15
       have hw22 : s = wOr := of_decide_eq_true hb19
       have e9 : jg s (ts.map fun x : Dt => jk n x.tr) = some (fun x9 => (ps.map fun p => p x9).any id) := by unfold jg; rw [hps]; show (if _ then _ else _) = _; rw [if_neg hw21, if_pos hw22]
       have hlf : fvs.length ≤ 4000000 := by rw [hTs.1, ka hps, List.length_map]; exact hl
       exact ⟨_, by rw [e9]; rfl, fun p hp => (by rw [e9] at hp; cases hp; exact zue hM hTs hlf), hM.bel⟩
     · have hb19' := of_decide_eq_false hb19
       refine qb (v := .bool false) hA rfl rfl rfl (qh rfl rfl (fun w => (zn Tryz.underlying9 w).trans (by rw [hb19] <;> rfl))) ?_
       intro a hA
       refine qb hA rfl rfl rfl (qe rfl) ?_
       intro a hA
       refine qa ?_
       refine hK18 _ _ ?_
       refine wp_cond_false (hA.ev rfl) ?_
       refine wp_seq_k (fun K23 hK23 => ?_)
       refine wp_region_lit ?_
       refine qb hA rfl rfl rfl (qg rfl) ?_
       intro a hA
       rcases Bool.eq_false_or_eq_true (decide (s = ⟨#[110, 111, 116]⟩)) with hb24 | hb24
       · have hb24' := of_decide_eq_true hb24
         refine qb (v := .bool true) hA rfl rfl rfl (qh rfl rfl (fun w => (zn Tryz.underlying9 w).trans (by rw [hb24] <;> rfl))) ?_
         intro a hA
         refine qb hA rfl rfl rfl (qg rfl) ?_
         intro a hA
         refine qb hA rfl rfl rfl (zi hM JcE_is1_167 rfl 0 rfl rfl) ?_
         intro a hA
         refine qb (v := .int .i64 (((fvs.length : Nat) : Int))) hA rfl rfl rfl (qy Tryz.underlying167 rfl) ?_
         intro a hA
         rcases Bool.eq_false_or_eq_true ((((fvs.length : Nat) : Int) == 1)) with hb25 | hb25
         · have hb25' := eq_of_beq hb25
           refine qb (v := .bool true) hA rfl rfl rfl (qh rfl rfl (fun w => (qt w).trans (by rw [hb25]))) ?_
           intro a hA
           refine qb (v := .bool true) hA rfl rfl rfl (zm rfl rfl rfl rfl) ?_
           intro a hA
           refine qb hA rfl rfl rfl (qe rfl) ?_
           intro a hA
           refine qa ?_
           refine hK23 _ _ ?_
           refine wp_cond_true (hA.ev rfl) ?_
           refine wp_seq_k (fun K26 hK26 => ?_)
           refine wp_region_lit ?_
           refine qb (v := .func (.func 117) #[] [.pointer (some ⟨g8, 0, none⟩)].toArray) hA rfl rfl rfl (jj rfl) ?_
           intro a hA
           refine qb hA rfl rfl rfl (qe rfl) ?_
           intro a hA
           refine qb hA rfl rfl rfl (qe rfl) ?_
           intro a hA
           refine qa ?_
           refine hK26 _ _ ?_
           refine wp_ret ?_
           refine hret _ _ ?_
           refine je (v := .tuple #[.func (.func 117) #[] [.pointer (some ⟨g8, 0, none⟩)].toArray, .bool true]) hA rfl (.cons (qj rfl) (.cons (qj rfl) .nil)) rfl ?_
           have hw27 : ¬ s = vv := of_decide_eq_false hb15
           have hw28 : ¬ s = wOr := of_decide_eq_false hb19
           have hw29 : s = kk := of_decide_eq_true hb24
           have hn9 : ps.length = 1 := by have := hTs.1; have h8 := hb25'; omega
           have e9 : jg s (ts.map fun x : Dt => jk n x.tr) = some (fun x9 => !((ps.headD fun _ => false) x9)) := by unfold jg; rw [hps]; show (if _ then _ else _) = _; rw [if_neg hw27, if_neg hw28, if_pos ⟨hw29, hn9⟩]
           have hlf : fvs.length ≤ 4000000 := by rw [hTs.1, ka hps, List.length_map]; exact hl
           exact ⟨_, by rw [e9]; rfl, fun p hp => (by rw [e9] at hp; cases hp; exact zuf hM hTs hlf hn9), hM.bel⟩
         · have hb25' := ne_of_beq_false hb25
           refine qb (v := .bool false) hA rfl rfl rfl (qh rfl rfl (fun w => (qt w).trans (by rw [hb25]))) ?_
           intro a hA
           refine qb (v := .bool false) hA rfl rfl rfl (zm rfl rfl rfl rfl) ?_
           intro a hA
           refine qb hA rfl rfl rfl (qe rfl) ?_
           intro a hA
           refine qa ?_
           refine hK23 _ _ ?_
           refine wp_cond_false (hA.ev rfl) ?_
           refine wp_skip ?_
           refine hK13 _ _ ?_
           refine wp_seq_k (fun K30 hK30 => ?_)
           refine wp_region_lit ?_
           refine qb hA rfl rfl rfl (qe rfl) ?_
           intro a hA
           refine qb hA rfl rfl rfl (qe rfl) ?_
           intro a hA
           refine qa ?_
           refine hK30 _ _ ?_
           refine wp_ret ?_
           refine hret _ _ ?_
           refine je (v := .tuple #[.nilFunc, .bool false]) hA rfl (.cons (qj rfl) (.cons (qj rfl) .nil)) rfl ?_
           have hw31 : ¬ s = vv := of_decide_eq_false hb15
           have hw32 : ¬ s = wOr := of_decide_eq_false hb19
           have hw33 : s = kk := of_decide_eq_true hb24
           have hn9 : ¬ ps.length = 1 := by have := hTs.1; have h8 := hb25'; omega
           have e9 : jg s (ts.map fun x : Dt => jk n x.tr) = none := by unfold jg; rw [hps]; show (if _ then _ else _) = _; rw [if_neg hw31, if_neg hw32, if_neg (fun h => hn9 h.2)]
           exact ⟨_, by rw [e9]; rfl, fun p hp => (by rw [e9] at hp; cases hp), hM.bel⟩
       · have hb24' := of_decide_eq_false hb24
         refine qb (v := .bool false) hA rfl rfl rfl (qh rfl rfl (fun w => (zn Tryz.underlying9 w).trans (by rw [hb24] <;> rfl))) ?_
         intro a hA
         refine qb hA rfl rfl rfl (qg rfl) ?_
         intro a hA
         refine qm hA rfl rfl rfl ?_
         intro a hA
         refine qm hA rfl rfl rfl ?_
         intro a hA
         refine qm hA rfl rfl rfl ?_
         intro a hA
         refine qb (v := .bool false) hA rfl rfl rfl (zm rfl rfl rfl rfl) ?_
         intro a hA
         refine qb hA rfl rfl rfl (qe rfl) ?_
         intro a hA
         refine qa ?_
         refine hK23 _ _ ?_
         refine wp_cond_false (hA.ev rfl) ?_
         refine wp_skip ?_
         refine hK13 _ _ ?_
         refine wp_seq_k (fun K34 hK34 => ?_)
         refine wp_region_lit ?_
         refine qb hA rfl rfl rfl (qe rfl) ?_
         intro a hA
         refine qb hA rfl rfl rfl (qe rfl) ?_
         intro a hA
         refine qa ?_
         refine hK34 _ _ ?_
         refine wp_ret ?_
         refine hret _ _ ?_
         refine je (v := .tuple #[.nilFunc, .bool false]) hA rfl (.cons (qj rfl) (.cons (qj rfl) .nil)) rfl ?_
         have hw35 : ¬ s = vv := of_decide_eq_false hb15
         have hw36 : ¬ s = wOr := of_decide_eq_false hb19
         have hw37 : ¬ s = kk := of_decide_eq_false hb24
         have e9 : jg s (ts.map fun x : Dt => jk n x.tr) = none := by unfold jg; rw [hps]; show (if _ then _ else _) = _; rw [if_neg hw35, if_neg hw36, if_neg (fun h => hw37 h.1)]
         exact ⟨_, by rw [e9]; rfl, fun p hp => (by rw [e9] at hp; cases hp), hM.bel⟩
 · refine qz hA rfl rfl rfl (qk rfl rfl (fun w => by kernel_rfl)) (zbj (h0.trans (hM.bel.mono h0.size)) (hR.below hM.bel) hI hl ih (by simpa using hb3)) ?_
   rintro _ w42 ⟨rfl, hb41⟩
   replace hM := hM.call hb41
   refine ⟨_, rfl, ?_⟩
   intro a hA
   refine qb hA rfl rfl rfl (qg rfl) ?_
   intro a hA
   refine qb (v := .slice none 0 0) hA rfl rfl rfl (qi (vs := [.slice none 0 0, .bool false]) rfl rfl) ?_
   intro a hA
   refine qb (v := .bool false) hA rfl rfl rfl (qi (vs := [.slice none 0 0, .bool false]) rfl rfl) ?_
   intro a hA
   refine jl (vs := [.slice none 0 0]) (t := 167) hA hM rfl rfl rfl (fun g => .pointer (some ⟨g, 0, none⟩)) (zv (z := .slice none 0 0) (by kernel_rfl) rfl) (by decide) ?_
   intro g43 w44 hM a hA
   refine ja (us := [.slice none 0 0]) (L' := (.obj g43 (.cells #[.slice none 0 0] 167) :: [])) hA hM rfl rfl (zq rfl rfl rfl (by kernel_rfl) hM 0 rfl rfl rfl) 0 rfl rfl rfl ?_
   intro w45 hM
   refine qb hA rfl rfl rfl (qe rfl) ?_
   intro a hA
   refine qa ?_
   refine hK2 _ _ ?_
   refine wp_seq_k (fun K46 hK46 => ?_)
   refine wp_seq_k (fun K47 hK47 => ?_)
   refine wp_region_lit ?_
   refine qb hA rfl rfl rfl (qg rfl) ?_
   intro a hA
   refine qb (v := .bool true) hA rfl rfl rfl (ql rfl qp) ?_
   intro a hA
   refine qa ?_
   refine hK47 _ _ ?_
   refine wp_cond_true (hA.ev rfl) ?_
   refine wp_seq_k (fun K48 hK48 => ?_)
   refine wp_region_lit ?_
   refine qb hA rfl rfl rfl (qe rfl) ?_
   intro a hA
   refine qb hA rfl rfl rfl (qe rfl) ?_
   intro a hA
   refine qa ?_
   refine hK48 _ _ ?_
   refine wp_ret ?_
   refine hret _ _ ?_
   refine je (v := .tuple #[.nilFunc, .bool false]) hA rfl (.cons (qj rfl) (.cons (qj rfl) .nil)) rfl ?_
   have e9 : jg s (ts.map fun x : Dt => jk n x.tr) = none := by unfold jg; rw [show jz (ts.map fun x : Dt => jk n x.tr) = none from by simpa using hb3]
   exact ⟨_, by rw [e9]; rfl, fun p hp => (by rw [e9] at hp; cases hp), hM.bel⟩
theorem zgg {w0 w : World} {n : Nat} {so : Option Addr} {ca : Nat} {ts : List Dt} (h0 : Below w0.heap.size w0 w) (hR : Rt w so ts) (hI : ItOk w0 n ts) (hl : ts.length ≤ 4000000) (ih : Subs n) : Calls Tryz.prog 68 #[.slice so ts.length ca] w fun e w' => ∃ fv, e = .returned (.tuple #[fv, .bool ((jz (ts.map fun x : Dt => zx n x.tr)).map uf).isSome]) ∧ (∀ p, (jz (ts.map fun x : Dt => zx n x.tr)).map uf = some p → TV RV w0 (made w w') fv p) ∧ Below w.heap.size w w' := by
 have hM : Mg w w ([]) := Mg.start w
 refine qx (l := [(0, .slice so ts.length ca)]) Tryz.func68 rfl Tryz.ntmps68 rfl rfl ?_
 intro Q hret hnorm hP a hA
 refine wp_seq_k (fun K1 hK1 => ?_)
 refine wp_region_lit ?_
 refine qb hA rfl rfl rfl (qe rfl) ?_
 intro a hA
 refine qb hA rfl rfl rfl (qe rfl) ?_
 intro a hA
 refine qa ?_
 refine hK1 _ _ ?_
 refine wp_seq_k (fun K2 hK2 => ?_)
 refine wp_region_lit ?_
 refine qb hA rfl rfl rfl (qg rfl) ?_
 intro a hA
 rcases Bool.eq_false_or_eq_true ((jz (ts.map fun x : Dt => zx n x.tr)).isSome) with hb3 | hb3
 · obtain ⟨ps, hps⟩ := Option.isSome_iff_exists.1 hb3
   refine qz hA rfl rfl rfl (qk rfl rfl (fun w => by kernel_rfl)) (qki (h0.trans (hM.bel.mono h0.size)) (hR.below hM.bel) hI hl ih hps) ?_
   rintro _ w7 ⟨so4, ca5, fvs, T, rfl, ⟨hTs, hTb⟩, hM6⟩
   replace hM : Mg w w7 (.row 175 1 (.slice so4 fvs.length ca5) fvs.length fvs :: T) := (by have h9 := hM.both hM6 (qw za) (qr (by simp) hTb); rw [List.append_nil] at h9; exact h9)
   refine ⟨_, rfl, ?_⟩
   intro a hA
   refine qb hA rfl rfl rfl (qg rfl) ?_
   intro a hA
   refine qb (v := .slice so4 fvs.length ca5) hA rfl rfl rfl (qi (vs := [.slice so4 fvs.length ca5, .bool true]) rfl rfl) ?_
   intro a hA
   refine qb (v := .bool true) hA rfl rfl rfl (qi (vs := [.slice so4 fvs.length ca5, .bool true]) rfl rfl) ?_
   intro a hA
   refine jl (vs := [.slice none 0 0]) (t := 172) hA hM rfl rfl rfl (fun g => .pointer (some ⟨g, 0, none⟩)) (zv (z := .slice none 0 0) (by kernel_rfl) rfl) (by decide) ?_
   intro g8 w9 hM a hA
   refine ja (us := [.slice so4 fvs.length ca5]) (L' := (.obj g8 (.cells #[.slice so4 fvs.length ca5] 172) :: .row 175 1 (.slice so4 fvs.length ca5) fvs.length fvs :: T)) hA hM rfl rfl (zq rfl rfl rfl (by kernel_rfl) hM 0 rfl rfl rfl) 0 rfl rfl rfl ?_
   intro w10 hM
   refine qb hA rfl rfl rfl (qe rfl) ?_
   intro a hA
   refine qa ?_
   refine hK2 _ _ ?_
   refine wp_seq_k (fun K11 hK11 => ?_)
   refine wp_region_lit ?_
   refine qb (v := .func (.func 120) #[] [.pointer (some ⟨g8, 0, none⟩)].toArray) hA rfl rfl rfl (jj rfl) ?_
   intro a hA
   refine qb hA rfl rfl rfl (qg rfl) ?_
   intro a hA
   refine qb hA rfl rfl rfl (qe rfl) ?_
   intro a hA
   refine qb hA rfl rfl rfl (qe rfl) ?_
   intro a hA
   refine qa ?_
   refine hK11 _ _ ?_
   refine wp_ret ?_
   refine hret _ _ ?_
   refine je (v := .tuple #[.func (.func 120) #[] [.pointer (some ⟨g8, 0, none⟩)].toArray, .bool true]) hA rfl (.cons (qj rfl) (.cons (qj rfl) .nil)) rfl ?_
   have hlf : fvs.length ≤ 4000000 := by rw [hTs.1, ka hps, List.length_map]; exact hl
   exact ⟨_, by rw [hps]; rfl, fun p hp => (by rw [hps] at hp; cases hp; exact tvR hM hTs hlf), hM.bel⟩
 · refine qz hA rfl rfl rfl (qk rfl rfl (fun w => by kernel_rfl)) (qkj (h0.trans (hM.bel.mono h0.size)) (hR.below hM.bel) hI hl ih (by simpa using hb3)) ?_
   rintro _ w16 ⟨rfl, hb15⟩
   replace hM := hM.call hb15
   refine ⟨_, rfl, ?_⟩
   intro a hA
   refine qb hA rfl rfl rfl (qg rfl) ?_
   intro a hA
   refine qb (v := .slice none 0 0) hA rfl rfl rfl (qi (vs := [.slice none 0 0, .bool false]) rfl rfl) ?_
   intro a hA
   refine qb (v := .bool false) hA rfl rfl rfl (qi (vs := [.slice none 0 0, .bool false]) rfl rfl) ?_
   intro a hA
   refine jl (vs := [.slice none 0 0]) (t := 172) hA hM rfl rfl rfl (fun g => .pointer (some ⟨g, 0, none⟩)) (zv (z := .slice none 0 0) (by kernel_rfl) rfl) (by decide) ?_
   intro g17 w18 hM a hA
   refine ja (us := [.slice none 0 0]) (L' := (.obj g17 (.cells #[.slice none 0 0] 172) :: [])) hA hM rfl rfl (zq rfl rfl rfl (by kernel_rfl) hM 0 rfl rfl rfl) 0 rfl rfl rfl ?_
   intro w19 hM
   refine qb hA rfl rfl rfl (qe rfl) ?_
   intro a hA
   refine qa ?_
   refine hK2 _ _ ?_
   refine wp_seq_k (fun K20 hK20 => ?_)
   refine wp_region_lit ?_
   refine qb (v := .func (.func 120) #[] [.pointer (some ⟨g17, 0, none⟩)].toArray) hA rfl rfl rfl (jj rfl) ?_
   intro a hA
   refine qb hA rfl rfl rfl (qg rfl) ?_
   intro a hA
   refine qb hA rfl rfl rfl (qe rfl) ?_
   intro a hA
   refine qb hA rfl rfl rfl (qe rfl) ?_
   intro a hA
   refine qa ?_
   refine hK20 _ _ ?_
   refine wp_ret ?_
   refine hret _ _ ?_
   refine je (v := .tuple #[.func (.func 120) #[] [.pointer (some ⟨g17, 0, none⟩)].toArray, .bool false]) hA rfl (.cons (qj rfl) (.cons (qj rfl) .nil)) rfl ?_
   have e9 : jz (ts.map fun x : Dt => zx n x.tr) = none := by simpa using hb3
   exact ⟨_, by rw [e9]; rfl, fun p hp => (by rw [e9] at hp; cases hp), hM.bel⟩
theorem qsj {w0 w : World} {n : Nat} {so : Option Addr} {ca : Nat} {ts : List Dt} (h0 : Below w0.heap.size w0 w) (hR : Rt w so ts) (hI : ItOk w0 n ts) (hl : ts.length ≤ 4000000) : Calls Tryz.prog 149 #[.slice so ts.length ca, .func (.func 150) #[] #[]] w fun e w' => ∃ fv, e = .returned (.tuple #[fv, .bool ((jv (ts.map fun x : Dt => jb x.tr)).map (fun b => fun z => decide (b ≤ z))).isSome]) ∧ (∀ p, (jv (ts.map fun x : Dt => jb x.tr)).map (fun b => fun z => decide (b ≤ z)) = some p → TV RN w0 (made w w') fv p) ∧ Below w.heap.size w w' := by
 have hM : Mg w w ([]) := Mg.start w
 refine qx (l := [(0, .slice so ts.length ca), (1, .func (.func 150) #[] #[])]) Tryz.func149 rfl Tryz.ntmps149 rfl rfl ?_
 intro Q hret hnorm hP a hA
 refine wp_seq_k (fun K1 hK1 => ?_)
 refine wp_region_lit ?_
 refine jl (vs := [.func (.func 150) #[] #[]]) (t := 131) hA hM rfl rfl rfl (fun g => .pointer (some ⟨g, 0, none⟩)) (zd rfl rfl) (by decide) ?_
 intro g2 w3 hM a hA
 refine qb hA rfl rfl rfl (qe rfl) ?_
 intro a hA
 refine qb hA rfl rfl rfl (qe rfl) ?_
 intro a hA
 refine qa ?_
 refine hK1 _ _ ?_
 refine wp_seq_k (fun K4 hK4 => ?_)
 refine wp_region_lit ?_
 refine qb hA rfl rfl rfl (qg rfl) ?_
 intro a hA
 rcases Bool.eq_false_or_eq_true ((jz (ts.map fun x : Dt => jb x.tr)).isSome) with hb5 | hb5
 · obtain ⟨ps, hps⟩ := Option.isSome_iff_exists.1 hb5
   refine qz hA rfl rfl rfl (qk rfl rfl (fun w => by kernel_rfl)) (qla (h0.trans (hM.bel.mono h0.size)) (hR.below hM.bel) hI hl hps) ?_
   rintro _ w9 ⟨so6, ca7, rfl, hM8⟩
   replace hM : Mg w w9 (.row 3 1 (.slice so6 ps.length ca7) ps.length (izC ps) :: .obj g2 (.cells #[.func (.func 150) #[] #[]] 131) :: []) := (hM.both hM8 (qr (by simp) (qw za)) (qr (by simp) (qw za)))
   refine ⟨_, rfl, ?_⟩
   intro a hA
   refine qb hA rfl rfl rfl (qg rfl) ?_
   intro a hA
   refine qb (v := .slice so6 ps.length ca7) hA rfl rfl rfl (qi (vs := [.slice so6 ps.length ca7, .bool true]) rfl rfl) ?_
   intro a hA
   refine qb (v := .bool true) hA rfl rfl rfl (qi (vs := [.slice so6 ps.length ca7, .bool true]) rfl rfl) ?_
   intro a hA
   refine jl (vs := [.slice none 0 0]) (t := 38) hA hM rfl rfl rfl (fun g => .pointer (some ⟨g, 0, none⟩)) (zv (z := .slice none 0 0) (by kernel_rfl) rfl) (by decide) ?_
   intro g10 w11 hM a hA
   refine ja (us := [.slice so6 ps.length ca7]) (L' := (.obj g10 (.cells #[.slice so6 ps.length ca7] 38) :: .row 3 1 (.slice so6 ps.length ca7) ps.length (izC ps) :: .obj g2 (.cells #[.func (.func 150) #[] #[]] 131) :: [])) hA hM rfl rfl (zq rfl rfl rfl (by kernel_rfl) hM 0 rfl rfl rfl) 0 rfl rfl rfl ?_
   intro w12 hM
   refine qb hA rfl rfl rfl (qe rfl) ?_
   intro a hA
   refine qa ?_
   refine hK4 _ _ ?_
   refine wp_seq_k (fun K13 hK13 => ?_)
   refine wp_seq_k (fun K14 hK14 => ?_)
   refine wp_region_lit ?_
   refine qb hA rfl rfl rfl (qg rfl) ?_
   intro a hA
   refine qb (v := .bool false) hA rfl rfl rfl (ql rfl qp) ?_
   intro a hA
   refine qb hA rfl rfl rfl (qg rfl) ?_
   intro a hA
   refine qb hA rfl rfl rfl (zi hM JcE_is1_38 rfl 0 rfl rfl) ?_
   intro a hA
   refine qb (v := .int .i64 (((ps.length : Nat) : Int))) hA rfl rfl rfl (qy Tryz.underlying38 rfl) ?_
   intro a hA
   rcases Bool.eq_false_or_eq_true ((((ps.length : Nat) : Int) != 1)) with hb15 | hb15
   · have hb15' := bne_iff_ne.1 hb15
     refine qb (v := .bool true) hA rfl rfl rfl (qh rfl rfl (fun w => (jm w).trans (by rw [hb15]))) ?_
     intro a hA
     refine qb (v := .bool true) hA rfl rfl rfl (zm rfl rfl rfl rfl) ?_
     intro a hA
     refine qa ?_
     refine hK14 _ _ ?_
     refine wp_cond_true (hA.ev rfl) ?_
     refine wp_seq_k (fun K16 hK16 => ?_)
     refine wp_region_lit ?_
     refine qb hA rfl rfl rfl (qe rfl) ?_
     intro a hA
     refine qb hA rfl rfl rfl (qe rfl) ?_
     intro a hA
     refine qa ?_
     refine hK16 _ _ ?_
     refine wp_ret ?_
     refine hret _ _ ?_
     refine je (v := .tuple #[.nilFunc, .bool false]) hA rfl (.cons (qj rfl) (.cons (qj rfl) .nil)) rfl ?_
     have hn9 : ps.length ≠ 1 := by have h8 := hb15'; omega
     have e9 : jv (ts.map fun x : Dt => jb x.tr) = none := by
       unfold jv; rw [hps]
       match ps, hn9 with
       | [], _ => rfl
       | [a], h => exact absurd rfl h
       | a :: b :: l, _ => rfl
     exact ⟨_, by rw [e9]; rfl, fun p hp => (by rw [e9] at hp; cases hp), hM.bel⟩
   · have hb15' := bne_eq_false_iff_eq.1 hb15
     refine qb (v := .bool false) hA rfl rfl rfl (qh rfl rfl (fun w => (jm w).trans (by rw [hb15]))) ?_
     intro a hA
     refine qb (v := .bool false) hA rfl rfl rfl (zm rfl rfl rfl rfl) ?_
     intro a hA
     refine qa ?_
     refine hK14 _ _ ?_
     refine wp_cond_false (hA.ev rfl) ?_
     refine wp_skip ?_
     refine hK13 _ _ ?_
     refine wp_seq_k (fun K17 hK17 => ?_)
     refine wp_region_lit ?_
     refine qb (v := .func (.func 180) #[] [.pointer (some ⟨g2, 0, none⟩), .pointer (some ⟨g10, 0, none⟩)].toArray) hA rfl rfl rfl (jj rfl) ?_
     intro a hA
     refine qb hA rfl rfl rfl (qe rfl) ?_
     intro a hA
     refine qb hA rfl rfl rfl (qe rfl) ?_
     intro a hA
     refine qa ?_
     refine hK17 _ _ ?_
     refine wp_ret ?_
     refine hret _ _ ?_
     refine je (v := .tuple #[.func (.func 180) #[] [.pointer (some ⟨g2, 0, none⟩), .pointer (some ⟨g10, 0, none⟩)].toArray, .bool true]) hA rfl (.cons (qj rfl) (.cons (qj rfl) .nil)) rfl ?_
     obtain ⟨b9, rfl⟩ := List.length_eq_one_iff.1 (show ps.length = 1 by have h8 := hb15'; omega)
     have e9 : jv (ts.map fun x : Dt => jb x.tr) = some b9 := by unfold jv; rw [hps]
     exact ⟨_, by rw [e9]; rfl, fun p hp => (by rw [e9] at hp; cases hp; exact zug hM), hM.bel⟩
 · refine qz hA rfl rfl rfl (qk rfl rfl (fun w => by kernel_rfl)) (qlb (h0.trans (hM.bel.mono h0.size)) (hR.below hM.bel) hI hl (by simpa using hb5)) ?_
   rintro _ w22 ⟨rfl, hb21⟩
   replace hM := hM.call hb21
   refine ⟨_, rfl, ?_⟩
   intro a hA
   refine qb hA rfl rfl rfl (qg rfl) ?_
   intro a hA
   refine qb (v := .slice none 0 0) hA rfl rfl rfl (qi (vs := [.slice none 0 0, .bool false]) rfl rfl) ?_
   intro a hA
   refine qb (v := .bool false) hA rfl rfl rfl (qi (vs := [.slice none 0 0, .bool false]) rfl rfl) ?_
   intro a hA
   refine jl (vs := [.slice none 0 0]) (t := 38) hA hM rfl rfl rfl (fun g => .pointer (some ⟨g, 0, none⟩)) (zv (z := .slice none 0 0) (by kernel_rfl) rfl) (by decide) ?_
   intro g23 w24 hM a hA
   refine ja (us := [.slice none 0 0]) (L' := (.obj g23 (.cells #[.slice none 0 0] 38) :: .obj g2 (.cells #[.func (.func 150) #[] #[]] 131) :: [])) hA hM rfl rfl (zq rfl rfl rfl (by kernel_rfl) hM 0 rfl rfl rfl) 0 rfl rfl rfl ?_
   intro w25 hM
   refine qb hA rfl rfl rfl (qe rfl) ?_
   intro a hA
   refine qa ?_
   refine hK4 _ _ ?_
   refine wp_seq_k (fun K26 hK26 => ?_)
   refine wp_seq_k (fun K27 hK27 => ?_)
   refine wp_region_lit ?_
   refine qb hA rfl rfl rfl (qg rfl) ?_
   intro a hA
   refine qb (v := .bool true) hA rfl rfl rfl (ql rfl qp) ?_
   intro a hA
   refine qb hA rfl rfl rfl (qg rfl) ?_
   intro a hA
   refine qm hA rfl rfl rfl ?_
   intro a hA
   refine qm hA rfl rfl rfl ?_
   intro a hA
   refine qm hA rfl rfl rfl ?_
   intro a hA
   refine qb (v := .bool true) hA rfl rfl rfl (zm rfl rfl rfl rfl) ?_
   intro a hA
   refine qa ?_
   refine hK27 _ _ ?_
   refine wp_cond_true (hA.ev rfl) ?_
   refine wp_seq_k (fun K28 hK28 => ?_)
   refine wp_region_lit ?_
   refine qb hA rfl rfl rfl (qe rfl) ?_
   intro a hA
   refine qb hA rfl rfl rfl (qe rfl) ?_
   intro a hA
   refine qa ?_
   refine hK28 _ _ ?_
   refine wp_ret ?_
   refine hret _ _ ?_
   refine je (v := .tuple #[.nilFunc, .bool false]) hA rfl (.cons (qj rfl) (.cons (qj rfl) .nil)) rfl ?_
   have e9 : jv (ts.map fun x : Dt => jb x.tr) = none := by unfold jv; rw [show jz (ts.map fun x : Dt => jb x.tr) = none from by simpa using hb5]
   exact ⟨_, by rw [e9]; rfl, fun p hp => (by rw [e9] at hp; cases hp), hM.bel⟩
theorem qta {w0 w : World} {n : Nat} {so : Option Addr} {ca : Nat} {ts : List Dt} (h0 : Below w0.heap.size w0 w) (hR : Rt w so ts) (hI : ItOk w0 n ts) (hl : ts.length ≤ 4000000) : Calls Tryz.prog 149 #[.slice so ts.length ca, .func (.func 151) #[] #[]] w fun e w' => ∃ fv, e = .returned (.tuple #[fv, .bool ((jv (ts.map fun x : Dt => jb x.tr)).map (fun b => fun z => decide (z ≤ b))).isSome]) ∧ (∀ p, (jv (ts.map fun x : Dt => jb x.tr)).map (fun b => fun z => decide (z ≤ b)) = some p → TV RN w0 (made w w') fv p) ∧ Below w.heap.size w w' := by
 have hM : Mg w w ([]) := Mg.start w
 refine qx (l := [(0, .slice so ts.length ca), (1, .func (.func 151) #[] #[])]) Tryz.func149 rfl Tryz.ntmps149 rfl rfl ?_
 intro Q hret hnorm hP a hA
 refine wp_seq_k (fun K1 hK1 => ?_)
 refine wp_region_lit ?_
 refine jl (vs := [.func (.func 151) #[] #[]]) (t := 131) hA hM rfl rfl rfl (fun g => .pointer (some ⟨g, 0, none⟩)) (zd rfl rfl) (by decide) ?_
 intro g2 w3 hM a hA
 refine qb hA rfl rfl rfl (qe rfl) ?_
 intro a hA
 refine qb hA rfl rfl rfl (qe rfl) ?_
 intro a hA
 refine qa ?_
 refine hK1 _ _ ?_
 refine wp_seq_k (fun K4 hK4 => ?_)
 refine wp_region_lit ?_
 refine qb hA rfl rfl rfl (qg rfl) ?_
 intro a hA
 rcases Bool.eq_false_or_eq_true ((jz (ts.map fun x : Dt => jb x.tr)).isSome) with hb5 | hb5
 · obtain ⟨ps, hps⟩ := Option.isSome_iff_exists.1 hb5
   refine qz hA rfl rfl rfl (qk rfl rfl (fun w => by kernel_rfl)) (qla (h0.trans (hM.bel.mono h0.size)) (hR.below hM.bel) hI hl hps) ?_
   rintro _ w9 ⟨so6, ca7, rfl, hM8⟩
   replace hM : Mg w w9 (.row 3 1 (.slice so6 ps.length ca7) ps.length (izC ps) :: .obj g2 (.cells #[.func (.func 151) #[] #[]] 131) :: []) := (hM.both hM8 (qr (by simp) (qw za)) (qr (by simp) (qw za)))
   refine ⟨_, rfl, ?_⟩
   intro a hA
   refine qb hA rfl rfl rfl (qg rfl) ?_
   intro a hA
   refine qb (v := .slice so6 ps.length ca7) hA rfl rfl rfl (qi (vs := [.slice so6 ps.length ca7, .bool true]) rfl rfl) ?_
   intro a hA
   refine qb (v := .bool true) hA rfl rfl rfl (qi (vs := [.slice so6 ps.length ca7, .bool true]) rfl rfl) ?_
   intro a hA
   refine jl (vs := [.slice none 0 0]) (t := 38) hA hM rfl rfl rfl (fun g => .pointer (some ⟨g, 0, none⟩)) (zv (z := .slice none 0 0) (by kernel_rfl) rfl) (by decide) ?_
   intro g10 w11 hM a hA
   refine ja (us := [.slice so6 ps.length ca7]) (L' := (.obj g10 (.cells #[.slice so6 ps.length ca7] 38) :: .row 3 1 (.slice so6 ps.length ca7) ps.length (izC ps) :: .obj g2 (.cells #[.func (.func 151) #[] #[]] 131) :: [])) hA hM rfl rfl (zq rfl rfl rfl (by kernel_rfl) hM 0 rfl rfl rfl) 0 rfl rfl rfl ?_
   intro w12 hM
   refine qb hA rfl rfl rfl (qe rfl) ?_
   intro a hA
   refine qa ?_
   refine hK4 _ _ ?_
   refine wp_seq_k (fun K13 hK13 => ?_)
   refine wp_seq_k (fun K14 hK14 => ?_)
   refine wp_region_lit ?_
   refine qb hA rfl rfl rfl (qg rfl) ?_
   intro a hA
   refine qb (v := .bool false) hA rfl rfl rfl (ql rfl qp) ?_
   intro a hA
   refine qb hA rfl rfl rfl (qg rfl) ?_
   intro a hA
   refine qb hA rfl rfl rfl (zi hM JcE_is1_38 rfl 0 rfl rfl) ?_
   intro a hA
   refine qb (v := .int .i64 (((ps.length : Nat) : Int))) hA rfl rfl rfl (qy Tryz.underlying38 rfl) ?_
   intro a hA
   rcases Bool.eq_false_or_eq_true ((((ps.length : Nat) : Int) != 1)) with hb15 | hb15
   · have hb15' := bne_iff_ne.1 hb15
     refine qb (v := .bool true) hA rfl rfl rfl (qh rfl rfl (fun w => (jm w).trans (by rw [hb15]))) ?_
     intro a hA
     refine qb (v := .bool true) hA rfl rfl rfl (zm rfl rfl rfl rfl) ?_
     intro a hA
     refine qa ?_
     refine hK14 _ _ ?_
     refine wp_cond_true (hA.ev rfl) ?_
     refine wp_seq_k (fun K16 hK16 => ?_)
     refine wp_region_lit ?_
     refine qb hA rfl rfl rfl (qe rfl) ?_
     intro a hA
     refine qb hA rfl rfl rfl (qe rfl) ?_
     intro a hA
     refine qa ?_
     refine hK16 _ _ ?_
     refine wp_ret ?_
     refine hret _ _ ?_
     refine je (v := .tuple #[.nilFunc, .bool false]) hA rfl (.cons (qj rfl) (.cons (qj rfl) .nil)) rfl ?_
     have hn9 : ps.length ≠ 1 := by have h8 := hb15'; omega
     have e9 : jv (ts.map fun x : Dt => jb x.tr) = none := by
       unfold jv; rw [hps]
       match ps, hn9 with
       | [], _ => rfl
       | [a], h => exact absurd rfl h
       | a :: b :: l, _ => rfl
     exact ⟨_, by rw [e9]; rfl, fun p hp => (by rw [e9] at hp; cases hp), hM.bel⟩
   · have hb15' := bne_eq_false_iff_eq.1 hb15
     refine qb (v := .bool false) hA rfl rfl rfl (qh rfl rfl (fun w => (jm w).trans (by rw [hb15]))) ?_
     intro a hA
     refine qb (v := .bool false) hA rfl rfl rfl (zm rfl rfl rfl rfl) ?_
     intro a hA
     refine qa ?_
     refine hK14 _ _ ?_
     refine wp_cond_false (hA.ev rfl) ?_
     refine wp_skip ?_
     refine hK13 _ _ ?_
     refine wp_seq_k (fun K17 hK17 => ?_)
     refine wp_region_lit ?_
     refine qb (v := .func (.func 180) #[] [.pointer (some ⟨g2, 0, none⟩), .pointer (some ⟨g10, 0, none⟩)].toArray) hA rfl rfl rfl (jj rfl) ?_
     intro a hA
     refine qb hA rfl rfl rfl (qe rfl) ?_
     intro a hA
     refine qb hA rfl rfl rfl (qe rfl) ?_
     intro a hA
     refine qa ?_
     refine hK17 _ _ ?_
     refine wp_ret ?_
     refine hret _ _ ?_
     refine je (v := .tuple #[.func (.func 180) #[] [.pointer (some ⟨g2, 0, none⟩), .pointer (some ⟨g10, 0, none⟩)].toArray, .bool true]) hA rfl (.cons (qj rfl) (.cons (qj rfl) .nil)) rfl ?_
     obtain ⟨b9, rfl⟩ := List.length_eq_one_iff.1 (show ps.length = 1 by have h8 := hb15'; omega)
     have e9 : jv (ts.map fun x : Dt => jb x.tr) = some b9 := by unfold jv; rw [hps]
     exact ⟨_, by rw [e9]; rfl, fun p hp => (by rw [e9] at hp; cases hp; exact zuh hM), hM.bel⟩
 · refine qz hA rfl rfl rfl (qk rfl rfl (fun w => by kernel_rfl)) (qlb (h0.trans (hM.bel.mono h0.size)) (hR.below hM.bel) hI hl (by simpa using hb5)) ?_
   rintro _ w22 ⟨rfl, hb21⟩
   replace hM := hM.call hb21
   refine ⟨_, rfl, ?_⟩
   intro a hA
   refine qb hA rfl rfl rfl (qg rfl) ?_
   intro a hA
   refine qb (v := .slice none 0 0) hA rfl rfl rfl (qi (vs := [.slice none 0 0, .bool false]) rfl rfl) ?_
   intro a hA
   refine qb (v := .bool false) hA rfl rfl rfl (qi (vs := [.slice none 0 0, .bool false]) rfl rfl) ?_
   intro a hA
   refine jl (vs := [.slice none 0 0]) (t := 38) hA hM rfl rfl rfl (fun g => .pointer (some ⟨g, 0, none⟩)) (zv (z := .slice none 0 0) (by kernel_rfl) rfl) (by decide) ?_
   intro g23 w24 hM a hA
   refine ja (us := [.slice none 0 0]) (L' := (.obj g23 (.cells #[.slice none 0 0] 38) :: .obj g2 (.cells #[.func (.func 151) #[] #[]] 131) :: [])) hA hM rfl rfl (zq rfl rfl rfl (by kernel_rfl) hM 0 rfl rfl rfl) 0 rfl rfl rfl ?_
   intro w25 hM
   refine qb hA rfl rfl rfl (qe rfl) ?_
   intro a hA
   refine qa ?_
   refine hK4 _ _ ?_
   refine wp_seq_k (fun K26 hK26 => ?_)
   refine wp_seq_k (fun K27 hK27 => ?_)
   refine wp_region_lit ?_
   refine qb hA rfl rfl rfl (qg rfl) ?_
   intro a hA
   refine qb (v := .bool true) hA rfl rfl rfl (ql rfl qp) ?_
   intro a hA
   refine qb hA rfl rfl rfl (qg rfl) ?_
   intro a hA
   refine qm hA rfl rfl rfl ?_
   intro a hA
   refine qm hA rfl rfl rfl ?_
   intro a hA
   refine qm hA rfl rfl rfl ?_
   intro a hA
   refine qb (v := .bool true) hA rfl rfl rfl (zm rfl rfl rfl rfl) ?_
   intro a hA
   refine qa ?_
   refine hK27 _ _ ?_
   refine wp_cond_true (hA.ev rfl) ?_
   refine wp_seq_k (fun K28 hK28 => ?_)
   refine wp_region_lit ?_
   refine qb hA rfl rfl rfl (qe rfl) ?_
   intro a hA
   refine qb hA rfl rfl rfl (qe rfl) ?_
   intro a hA
   refine qa ?_
   refine hK28 _ _ ?_
   refine wp_ret ?_
   refine hret _ _ ?_
   refine je (v := .tuple #[.nilFunc, .bool false]) hA rfl (.cons (qj rfl) (.cons (qj rfl) .nil)) rfl ?_
   have e9 : jv (ts.map fun x : Dt => jb x.tr) = none := by unfold jv; rw [show jz (ts.map fun x : Dt => jb x.tr) = none from by simpa using hb5]
   exact ⟨_, by rw [e9]; rfl, fun p hp => (by rw [e9] at hp; cases hp), hM.bel⟩
theorem qdi : Is1 Tryz.prog 28 := ⟨⟨_, Tryz.underlying28, rfl⟩, by kernel_rfl⟩
theorem o93 : Is1 Tryz.prog 3 := ⟨⟨_, Tryz.underlying3, rfl⟩, by kernel_rfl⟩
theorem vm : FieldAt Tryz.prog 30 0 0 := ⟨_, _, Tryz.underlying30, rfl, rfl, by kernel_rfl⟩
theorem vt : FieldAt Tryz.prog 30 5 10 := ⟨_, _, Tryz.underlying30, rfl, rfl, by kernel_rfl⟩
theorem zoj : Is1 Tryz.prog 22 := ⟨⟨_, Tryz.underlying22, rfl⟩, by kernel_rfl⟩
theorem ztg : Is1 Tryz.prog 27 := ⟨⟨_, Tryz.underlying27, rfl⟩, by kernel_rfl⟩
theorem o94 : Is1 Tryz.prog 4 := ⟨⟨_, Tryz.underlying4, rfl⟩, by kernel_rfl⟩
theorem o99 : Is1 Tryz.prog 9 := ⟨⟨_, Tryz.underlying9, rfl⟩, by kernel_rfl⟩
theorem zkb : FieldAt Tryz.prog 24 0 0 := ⟨_, _, Tryz.underlying24, rfl, rfl, by kernel_rfl⟩
theorem zkc : FieldAt Tryz.prog 24 1 1 := ⟨_, _, Tryz.underlying24, rfl, rfl, by kernel_rfl⟩
theorem zkd : FieldAt Tryz.prog 24 2 2 := ⟨_, _, Tryz.underlying24, rfl, rfl, by kernel_rfl⟩
theorem zke : FieldAt Tryz.prog 26 0 0 := ⟨_, _, Tryz.underlying26, rfl, rfl, by kernel_rfl⟩
theorem zkf : FieldAt Tryz.prog 26 1 3 := ⟨_, _, Tryz.underlying26, rfl, rfl, by kernel_rfl⟩
theorem ye : FieldAt Tryz.prog 30 1 1 := ⟨_, _, Tryz.underlying30, rfl, rfl, by kernel_rfl⟩
theorem qab : FieldAt Tryz.prog 30 2 2 := ⟨_, _, Tryz.underlying30, rfl, rfl, by kernel_rfl⟩
theorem ki : FieldAt Tryz.prog 30 3 8 := ⟨_, _, Tryz.underlying30, rfl, rfl, by kernel_rfl⟩
theorem zca : FieldAt Tryz.prog 30 4 9 := ⟨_, _, Tryz.underlying30, rfl, rfl, by kernel_rfl⟩
theorem zpa : IsS Tryz.prog 24 3 := ⟨⟨_, Tryz.underlying24⟩, by kernel_rfl⟩
theorem zrj : IsS Tryz.prog 26 6 := ⟨⟨_, Tryz.underlying26⟩, by kernel_rfl⟩
theorem xi : IsS Tryz.prog 30 11 := ⟨⟨_, Tryz.underlying30⟩, by kernel_rfl⟩
theorem zpb : FieldAt Tryz.prog 219 1 1 := ⟨_, _, Tryz.underlying219, rfl, rfl, by kernel_rfl⟩
theorem zth : Is1 Tryz.prog 31 := ⟨⟨_, Tryz.underlying31, rfl⟩, by kernel_rfl⟩
theorem zsa : Is1 Tryz.prog 32 := ⟨⟨_, Tryz.underlying32, rfl⟩, by kernel_rfl⟩
theorem zui : Is1 Tryz.prog 39 := ⟨⟨_, Tryz.underlying39, rfl⟩, by kernel_rfl⟩
theorem qlc : FieldAt Tryz.prog 34 0 0 := ⟨_, _, Tryz.underlying34, rfl, rfl, by kernel_rfl⟩
theorem zcb : FieldAt Tryz.prog 34 3 13 := ⟨_, _, Tryz.underlying34, rfl, rfl, by kernel_rfl⟩
theorem zkg : FieldAt Tryz.prog 34 4 14 := ⟨_, _, Tryz.underlying34, rfl, rfl, by kernel_rfl⟩
theorem zsb : FieldAt Tryz.prog 66 0 0 := ⟨_, _, Tryz.underlying66, rfl, rfl, by kernel_rfl⟩
theorem qtb : FieldAt Tryz.prog 81 0 0 := ⟨_, _, Tryz.underlying81, rfl, rfl, by kernel_rfl⟩
theorem zsc : FieldAt Tryz.prog 81 1 1 := ⟨_, _, Tryz.underlying81, rfl, rfl, by kernel_rfl⟩
theorem zkh : IsS Tryz.prog 34 15 := ⟨⟨_, Tryz.underlying34⟩, by kernel_rfl⟩
theorem zsd : IsS Tryz.prog 66 2 := ⟨⟨_, Tryz.underlying66⟩, by kernel_rfl⟩
theorem zse : IsS Tryz.prog 81 2 := ⟨⟨_, Tryz.underlying81⟩, by kernel_rfl⟩
def FitsAt (t : Dt) : Prop := ∀ {w0 w : World} {b o gl : Nat} {left dp : Int} {T : List Ck}, t.rd w0 → Here w0 b o t.cells → Mg w0 w (.obj gl (.cells #[iV left] 3) :: T) → 0 ≤ left → left ≤ 20000 → 0 ≤ dp → dp ≤ 201 → Calls Tryz.prog 81 #[pA b o, iV dp, pA gl 0] w fun e w' => e = .returned (bV (xf dp left t.tr).1) ∧ Mg w0 w' (.obj gl (.cells #[iV (xf dp left t.tr).2] 3) :: T)
theorem zcc : ∀ t : Dt, FitsAt t := Dt.indT fun d ts ih => by
 intro w0 w b o gl left dp T hrd hH hM0 hl0 hl1 hd0 hd1
 replace hH : Here w0 b o (d.cells ts.length) := hH
 have hok := (Dt.rd_iff.1 hrd)
 have hk0 := hok.1.k0
 have hk1 := hok.1.k1
 have hlen : ts.length ≤ 9223372036854775807 := Nat.le_trans hok.2.1 hok.2.2.1
 have M : Mg w0 w (.obj gl (.cells #[iV left] 3) :: T) := hM0
 refine qx (l := [(0, pA b o), (1, iV dp), (2, pA gl 0)]) Tryz.func81 rfl Tryz.ntmps81 rfl rfl ?_
 intro Q hret hnorm hP a A
 refine wsk fun K1 hK1 => wrl (sda A λa A↦?_)
 refine qa (hK1 _ _ (wsk fun K2 hK2 => wrl (sdm A λa A↦?_)))
 refine sdo A (kr rfl) λa A↦?_
 refine sdo A (zi M o93 rfl 0 rfl rfl) λa A↦?_
 refine sdo (v := iV (left - 1)) A (qh rfl rfl (qhg (yk (by omega) (by omega)))) λa A↦?_
 refine sdo A (kr rfl) λa A↦?_
 refine ja (L' := (.obj gl (.cells #[iV (left - 1)] 3) :: T)) A M rfl rfl (zq rfl rfl rfl (by kernel_rfl) M 0 rfl rfl rfl) 0 rfl rfl rfl ?_
 intro w3 M
 refine qa (hK2 _ _ (wsk fun K4 hK4 => wsk fun K5 hK5 => wrl (sdm A λa A↦?_)))
 refine sdo A (kr rfl) λa A↦?_
 refine sdo A (zi M o93 rfl 0 rfl rfl) λa A↦?_
 rcases tf (decide (left - 1 < 0)) with hb6 | hb6
 ·
  have hb6' := of_decide_eq_true hb6
  refine sdc A zh hb6 λa A↦?_
  refine sdm A λa A↦?_
  iterate 2 refine qm A rfl rfl rfl λa A↦?_
  refine sdk (v := bV true) A λa A↦?_
  refine qa (hK5 _ _ (ct A ?_))
  refine wsk fun K7 hK7 => wrl (sda A λa A↦?_)
  refine qa (hK7 _ _ (wr1 hret A ?_))
  rw [zec (by omega)]
  exact ⟨rfl, M⟩
 ·
  have hb6' := of_decide_eq_false hb6
  refine sdc A zh hb6 λa A↦?_
  iterate 2 refine sdm A λa A↦?_
  rcases tf (decide (200 < dp)) with hb8 | hb8
  ·
   have hb8' := of_decide_eq_true hb8
   refine sdc A ji hb8 λa A↦?_
   refine sdk (v := bV true) A λa A↦?_
   refine qa (hK5 _ _ (ct A ?_))
   refine wsk fun K9 hK9 => wrl (sda A λa A↦?_)
   refine qa (hK9 _ _ (wr1 hret A ?_))
   rw [zec (by omega)]
   exact ⟨rfl, M⟩
  ·
   have hb8' := of_decide_eq_false hb8
   refine sdc A ji hb8 λa A↦?_
   refine sdk (v := bV false) A λa A↦?_
   refine qa (hK5 _ _ (cf A ?_))
   refine wp_skip (hK4 _ _ (wsk fun K10 hK10 => wsk fun K11 hK11 => wrl (sdm A λa A↦?_)))
   refine sdo A (kr rfl) λa A↦?_
   refine sdo (v := pA b (o + 10)) A (qf vt rfl rfl) λa A↦?_
   refine sdo A (vl (j := 10) M hH qdi rfl rfl rfl) λa A↦?_
   refine sdo A (qy Tryz.underlying28 rfl) λa A↦?_
   refine sdm A λa A↦?_
   refine qa (hK11 _ _ (wp_block (jc (fun m_ a w1 => ∃ (i : Nat) (m : Int), m_ = 1 + (ts.length - i) ∧ (i ≤ ts.length ∧ uj dp (decide (d.k = 8)) 0 (left - 1) ((ts.map Dt.tr).drop 0) = uj dp (decide (d.k = 8)) i m ((ts.map Dt.tr).drop i) ∧ 0 ≤ m ∧ m ≤ 20000) ∧ Sl a 53 [(0, pA b o), (1, iV dp), (2, pA gl 0), (9, pA gl 0), (10, pA gl 0), (11, iV left), (12, iV (left - 1)), (13, pA gl 0), (14, pA gl 0), (15, pA gl 0), (16, iV (left - 1)), (17, bV false), (18, bV false), (19, iV dp), (20, bV false), (21, bV false), (22, pA b o), (23, pA b o), (24, pA b (o + 10)), (25, .slice d.lo ts.length d.lc), (26, iV (((ts.length : Nat) : Int))), (27, iV (((i : Nat) : Int)))] ∧ Mg w0 w1 (.obj gl (.cells #[iV m] 3) :: T)) _ ⟨0, left - 1, rfl, ⟨Nat.zero_le _, rfl, by omega, by omega⟩, A.keep _ (by repeat' constructor), M⟩ ?_)))
   clear M A
   rintro m_ a w12 ⟨i, m, rfl, hinv14, A, M⟩ K13 hK13
   obtain ⟨hi0, hin9, hm0, hm1⟩ := hinv14
   refine wsk fun K15 hK15 => wrl ?_
   rcases tf (decide (((i : Nat) : Int) < ((ts.length : Nat) : Int))) with hb16 | hb16
   ·
    have hb16' := of_decide_eq_true hb16
    refine sdc A zh hb16 λa A↦?_
    refine qa (hK15 _ _ (wsk fun K17 hK17 => wp_cond_true (A.ev rfl) ?_))
    refine wp_skip (hK17 _ _ (wsk fun K18 hK18 => wp_block (wsk fun K19 hK19 => wrl (sdm A λa A↦?_))))
    refine sda A λa A↦?_
    refine qa (hK19 _ _ (wsk fun K20 hK20 => wrl (sdm A λa A↦?_)))
    refine sdo (v := iV (dp + 1)) A (qh rfl rfl (kw (yk (by omega) (by omega)))) λa A↦?_
    refine sda A λa A↦?_
    refine qa (hK20 _ _ (wsk fun K21 hK21 => wsk fun K22 hK22 => wrl (sdm A λa A↦?_)))
    refine sdo A (kr rfl) λa A↦?_
    refine sdo (v := pA b o) A (qf vm rfl rfl) λa A↦?_
    refine sdo A (vl (j := 0) M hH o93 rfl rfl rfl) λa A↦?_
    rcases tf ((d.k == 8)) with hb23 | hb23
    ·
     have hb23' := eq_of_beq hb23
     refine sdc A qt hb23 λa A↦?_
     iterate 2 refine sdm A λa A↦?_
     rcases tf ((((i : Nat) : Int) == 1)) with hb24 | hb24
     ·
      have hb24' := eq_of_beq hb24
      refine sdc A qt hb24 λa A↦?_
      refine sdk (v := bV true) A λa A↦?_
      refine qa (hK22 _ _ (ct A ?_))
      refine wrl (sdm A λa A↦?_)
      refine sda A λa A↦?_
      refine qa (hK21 _ _ (wsk fun K25 hK25 => ?_))
      obtain ⟨t1, b1, o1, hi1, hm1, hr1, hl1, hH1⟩ := kid hrd (i := i) (by omega)
      have hD : (if decide (d.k = 8) = true ∧ i = 1 then dp else dp + 1) = dp := if_pos ⟨decide_eq_true hb23', by omega⟩
      refine wrl (sdm A λa A↦?_)
      refine sdo A (kr rfl) λa A↦?_
      refine sdo (v := pA b (o + 10)) A (qf vt rfl rfl) λa A↦?_
      refine sdo A (vl (j := 10) M hH qdi rfl rfl rfl) λa A↦?_
      refine sdm A λa A↦?_
      refine sdo (v := pA b1 (o1 + i * 11)) A (ze (k := i) Tryz.underlying28 (by kernel_rfl) rfl rfl rfl hl1 (by omega)) λa A↦?_
      iterate 2 refine sdm A λa A↦?_
      refine sct A (ef rfl rfl) (ih t1 hm1 hr1 hH1 M (by omega) (by omega) (by omega) (by omega)) ?_
      rintro _ w27 ⟨rfl, hM26⟩
      replace M : Mg w0 w27 (.obj gl (.cells #[iV ((xf (dp) m t1.tr).2)] 3) :: T) := hM26
      refine ⟨_, rfl, ?_⟩
      intro a A
      refine sdo (v := bV (!((xf (dp) m t1.tr).1))) A (ql rfl qp) λa A↦?_
      refine qa (hK25 _ _ ?_)
      refine wp_cond_split (t := !((xf (dp) m t1.tr).1)) (A.ev rfl) (fun hc28 => ?_) (fun hc28 => ?_)
      ·
       refine wsk fun K29 hK29 => wrl (sda A λa A↦?_)
       refine qa (hK29 _ _ (wr1 hret A ?_))
       have hr9 : (xf (dp) m t1.tr).1 = false := by simpa using hc28
       have e9 : xf dp left (Dt.mk d ts).tr = (false, (xf (dp) m t1.tr).2) := by rw [qhh (by omega) (by omega), hin9, qga hi1 hD hr9]
       rw [e9]
       exact ⟨rfl, M⟩
      ·
       refine wp_skip (hK18 _ _ (wrl (sdo (v := iV (((i + 1 : Nat) : Int))) A (qh rfl rfl (fun w => (kw (yk (by omega) (by omega)) w).trans (by rw [show (((i : Nat) : Int) + 1 : Int) = ((i + 1 : Nat) : Int) from by omega]))) λa A↦?_)))
       refine sdm A λa A↦?_
       refine qa ?_
       have hr9 : (xf (dp) m t1.tr).1 = true := by simpa using hc28
       have hp9 := qbc t1.tr _ _ hr9
       have hl9 := qrg t1.tr (dp) m
       refine hK13 _ _ _ (by omega) ⟨i + 1, (xf (dp) m t1.tr).2, rfl, ⟨by omega, by rw [hin9, qrh hi1 hD hr9], by omega, by omega⟩, A.keep _ (by repeat' constructor), M⟩
     ·
      have hb24' := ne_of_beq_false hb24
      refine sdc A qt hb24 λa A↦?_
      refine sdk (v := bV false) A λa A↦?_
      refine qa (hK22 _ _ (cf A ?_))
      refine wp_skip (hK21 _ _ (wsk fun K30 hK30 => ?_))
      obtain ⟨t1, b1, o1, hi1, hm1, hr1, hl1, hH1⟩ := kid hrd (i := i) (by omega)
      have hD : (if decide (d.k = 8) = true ∧ i = 1 then dp else dp + 1) = dp + 1 := if_neg (fun e => by omega)
      refine wrl (sdm A λa A↦?_)
      refine sdo A (kr rfl) λa A↦?_
      refine sdo (v := pA b (o + 10)) A (qf vt rfl rfl) λa A↦?_
      refine sdo A (vl (j := 10) M hH qdi rfl rfl rfl) λa A↦?_
      refine sdm A λa A↦?_
      refine sdo (v := pA b1 (o1 + i * 11)) A (ze (k := i) Tryz.underlying28 (by kernel_rfl) rfl rfl rfl hl1 (by omega)) λa A↦?_
      iterate 2 refine sdm A λa A↦?_
      refine sct A (ef rfl rfl) (ih t1 hm1 hr1 hH1 M (by omega) (by omega) (by omega) (by omega)) ?_
      rintro _ w32 ⟨rfl, hM31⟩
      replace M : Mg w0 w32 (.obj gl (.cells #[iV ((xf (dp + 1) m t1.tr).2)] 3) :: T) := hM31
      refine ⟨_, rfl, ?_⟩
      intro a A
      refine sdo (v := bV (!((xf (dp + 1) m t1.tr).1))) A (ql rfl qp) λa A↦?_
      refine qa (hK30 _ _ ?_)
      refine wp_cond_split (t := !((xf (dp + 1) m t1.tr).1)) (A.ev rfl) (fun hc33 => ?_) (fun hc33 => ?_)
      ·
       refine wsk fun K34 hK34 => wrl (sda A λa A↦?_)
       refine qa (hK34 _ _ (wr1 hret A ?_))
       have hr9 : (xf (dp + 1) m t1.tr).1 = false := by simpa using hc33
       have e9 : xf dp left (Dt.mk d ts).tr = (false, (xf (dp + 1) m t1.tr).2) := by rw [qhh (by omega) (by omega), hin9, qga hi1 hD hr9]
       rw [e9]
       exact ⟨rfl, M⟩
      ·
       refine wp_skip (hK18 _ _ (wrl (sdo (v := iV (((i + 1 : Nat) : Int))) A (qh rfl rfl (fun w => (kw (yk (by omega) (by omega)) w).trans (by rw [show (((i : Nat) : Int) + 1 : Int) = ((i + 1 : Nat) : Int) from by omega]))) λa A↦?_)))
       refine sdm A λa A↦?_
       refine qa ?_
       have hr9 : (xf (dp + 1) m t1.tr).1 = true := by simpa using hc33
       have hp9 := qbc t1.tr _ _ hr9
       have hl9 := qrg t1.tr (dp + 1) m
       refine hK13 _ _ _ (by omega) ⟨i + 1, (xf (dp + 1) m t1.tr).2, rfl, ⟨by omega, by rw [hin9, qrh hi1 hD hr9], by omega, by omega⟩, A.keep _ (by repeat' constructor), M⟩
    ·
     have hb23' := ne_of_beq_false hb23
     refine sdc A qt hb23 λa A↦?_
     refine sdm A λa A↦?_
     iterate 2 refine qm A rfl rfl rfl λa A↦?_
     refine sdk (v := bV false) A λa A↦?_
     refine qa (hK22 _ _ (cf A ?_))
     refine wp_skip (hK21 _ _ (wsk fun K35 hK35 => ?_))
     obtain ⟨t1, b1, o1, hi1, hm1, hr1, hl1, hH1⟩ := kid hrd (i := i) (by omega)
     have hD : (if decide (d.k = 8) = true ∧ i = 1 then dp else dp + 1) = dp + 1 := if_neg (fun e => hb23' (of_decide_eq_true e.1))
     refine wrl (sdm A λa A↦?_)
     refine sdo A (kr rfl) λa A↦?_
     refine sdo (v := pA b (o + 10)) A (qf vt rfl rfl) λa A↦?_
     refine sdo A (vl (j := 10) M hH qdi rfl rfl rfl) λa A↦?_
     refine sdm A λa A↦?_
     refine sdo (v := pA b1 (o1 + i * 11)) A (ze (k := i) Tryz.underlying28 (by kernel_rfl) rfl rfl rfl hl1 (by omega)) λa A↦?_
     iterate 2 refine sdm A λa A↦?_
     refine sct A (ef rfl rfl) (ih t1 hm1 hr1 hH1 M (by omega) (by omega) (by omega) (by omega)) ?_
     rintro _ w37 ⟨rfl, hM36⟩
     replace M : Mg w0 w37 (.obj gl (.cells #[iV ((xf (dp + 1) m t1.tr).2)] 3) :: T) := hM36
     refine ⟨_, rfl, ?_⟩
     intro a A
     refine sdo (v := bV (!((xf (dp + 1) m t1.tr).1))) A (ql rfl qp) λa A↦?_
     refine qa (hK35 _ _ ?_)
     refine wp_cond_split (t := !((xf (dp + 1) m t1.tr).1)) (A.ev rfl) (fun hc38 => ?_) (fun hc38 => ?_)
     ·
      refine wsk fun K39 hK39 => wrl (sda A λa A↦?_)
      refine qa (hK39 _ _ (wr1 hret A ?_))
      have hr9 : (xf (dp + 1) m t1.tr).1 = false := by simpa using hc38
      have e9 : xf dp left (Dt.mk d ts).tr = (false, (xf (dp + 1) m t1.tr).2) := by rw [qhh (by omega) (by omega), hin9, qga hi1 hD hr9]
      rw [e9]
      exact ⟨rfl, M⟩
     ·
      refine wp_skip (hK18 _ _ (wrl (sdo (v := iV (((i + 1 : Nat) : Int))) A (qh rfl rfl (fun w => (kw (yk (by omega) (by omega)) w).trans (by rw [show (((i : Nat) : Int) + 1 : Int) = ((i + 1 : Nat) : Int) from by omega]))) λa A↦?_)))
      refine sdm A λa A↦?_
      refine qa ?_
      have hr9 : (xf (dp + 1) m t1.tr).1 = true := by simpa using hc38
      have hp9 := qbc t1.tr _ _ hr9
      have hl9 := qrg t1.tr (dp + 1) m
      refine hK13 _ _ _ (by omega) ⟨i + 1, (xf (dp + 1) m t1.tr).2, rfl, ⟨by omega, by rw [hin9, qrh hi1 hD hr9], by omega, by omega⟩, A.keep _ (by repeat' constructor), M⟩
   ·
    have hb16' := of_decide_eq_false hb16
    refine sdc A zh hb16 λa A↦?_
    refine qa (hK15 _ _ (wsk fun K40 hK40 => wp_cond_false (A.ev rfl) ?_))
    refine wp_exit (hK10 _ _ (wsk fun K41 hK41 => wrl (sda A λa A↦?_)))
    refine qa (hK41 _ _ (wr1 hret A ?_))
    have e9 : xf dp left (Dt.mk d ts).tr = (true, m) := by rw [qhh (by omega) (by omega), hin9, qfj (by omega), uj]
    rw [e9]
    exact ⟨rfl, M⟩
end Go.Proofs.YtoopkbedjbnhhaaGreatDoor.G
namespace Go.Proofs
open Go.Shelf
def Tryz.lays119_ren : Go.Shelf.Ren := ⟨fun | 119 => 167 | n => n, fun | 21 => 21 | 4 => 4 | n => n, fun | n => n⟩
theorem Tryz.lays119 : Go.Proofs.Lays.n119 Tryz.prog Tryz.lays119_ren := {
  mixed := by kernel_rfl
  f119 := Tryz.func167.trans (congrArg some (by kernel_rfl))
  t4 := Tryz.underlying4
  a4 := Tryz.isAgg4
  z4 := Tryz.sizeOf4
  v4 := Tryz.zeroValue4
  t21 := Tryz.underlying21
  a21 := Tryz.isAgg21
  z21 := Tryz.sizeOf21
  v21 := Tryz.zeroValue21 }
theorem Tryz.utf8_ValidRune (r : Int) (w : World) :
    Calls Tryz.prog 167 #[.int .i32 r] w fun e w' => e = .returned (.bool (Lib.validRune r)) ∧ w' = w := Any.utf8_ValidRune Tryz.lays119 r w
def Tryz.laysValid_ren : Go.Shelf.Ren := ⟨fun | 196 => 130 | 259 => 168 | n => n, fun | 9 => 9 | 4 => 4 | 3 => 3 | 5 => 5 | 12 => 12 | 119 => 211 | 0 => 0 | 46 => 180 | 139 => 214 | 138 => 213 | 53 => 160 | n => n, fun | 3 => 0 | 4 => 1 | n => n⟩
theorem Tryz.laysValid : Go.Proofs.Lays.n196 Tryz.prog Tryz.laysValid_ren := {
  mixed := by kernel_rfl
  f196 := Tryz.func130.trans (congrArg some (by kernel_rfl))
  f259 := Tryz.func168.trans (congrArg some (by kernel_rfl))
  t0 := Tryz.underlying0
  a0 := Tryz.isAgg0
  z0 := Tryz.sizeOf0
  v0 := Tryz.zeroValue0
  t3 := Tryz.underlying3
  a3 := Tryz.isAgg3
  z3 := Tryz.sizeOf3
  v3 := Tryz.zeroValue3
  t4 := Tryz.underlying4
  a4 := Tryz.isAgg4
  z4 := Tryz.sizeOf4
  v4 := Tryz.zeroValue4
  t5 := Tryz.underlying5
  a5 := Tryz.isAgg5
  z5 := Tryz.sizeOf5
  v5 := Tryz.zeroValue5
  t9 := Tryz.underlying9
  a9 := Tryz.isAgg9
  z9 := Tryz.sizeOf9
  v9 := Tryz.zeroValue9
  t12 := Tryz.underlying12
  a12 := Tryz.isAgg12
  z12 := Tryz.sizeOf12
  v12 := Tryz.zeroValue12
  t46 := Tryz.underlying180
  a46 := Tryz.isAgg180
  z46 := Tryz.sizeOf180
  v46 := Tryz.zeroValue180
  t53 := Tryz.underlying160
  a53 := Tryz.isAgg160
  z53 := Tryz.sizeOf160
  v53 := Tryz.zeroValue160
  t119 := Tryz.underlying211
  a119 := Tryz.isAgg211
  z119 := Tryz.sizeOf211
  t138 := Tryz.underlying213
  a138 := Tryz.isAgg213
  z138 := Tryz.sizeOf213
  v138 := Tryz.zeroValue213
  t139 := Tryz.underlying214
  a139 := Tryz.isAgg214
  z139 := Tryz.sizeOf214
  v139 := Tryz.zeroValue214
  g3 := by kernel_rfl
  g4 := by kernel_rfl }
end Go.Proofs
