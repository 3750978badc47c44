/- Rows of elements of some cells: stored into, cut, made, copied, appended to; texts compared. Bytes copied into rows of the call's own, and parts of rows of bytes. Walks of what bytevec copies. The walk of SameBytes. Walks of what a number is read by: zeros cut off. Walks of bytes the other way round. The walk of a copy of bytes, turned round or not. -/
import Derived.Test.YtbhdnpbbmpemnaaGreatDoorPbyteve12e
import Derived.Lib.AppendZerosOnto
import Derived.Lib.Bytealg
import Derived.Laws.OwnMore
import Derived.Laws.Strings
import Derived.Test.YtbhdnpbbmpemnaaGreatDoorProg
namespace Go.Proofs.YtbhdnpbbmpemnaaGreatDoor.G
open Go.RowKit Go.Lib
set_option linter.unusedVariables false
set_option linter.unusedSimpArgs false
section
variable {w0 w : World} {L : List Ck} {e : TypeId} {sz g n cap : Nat} {xs : List Value}
theorem Mg.rowPut (h : Mg w0 w L) (k : Nat) (hk : L[k]? = some (.row e sz (.slice (some ⟨g, 0, none⟩) n cap) n xs)) (j : Nat) (u : Value) : Mg w0 (w.setCell ⟨g, j, none⟩ u) (L.set k (.row e sz (.slice (some ⟨g, 0, none⟩) n cap) n (xs.set j u))) := by
  have hs := World.ownsRow.stored (show w.ownsRow w0.heap.size e sz (.slice (some ⟨g, 0, none⟩) n cap) n xs from h.has k hk) j u
  exact h.turn k hk (by simp) hs.2 hs.1 (fun d _ ha => by cases d <;> exact ha)
theorem Mg.rowPuts : ∀ (cs : List Value) (w : World) (L : List Ck) (xs : List Value) (o : Nat), Mg w0 w L → ∀ k, L[k]? = some (.row e sz (.slice (some ⟨g, 0, none⟩) n cap) n xs) → Mg w0 (w.setCells g o cs) (L.set k (.row e sz (.slice (some ⟨g, 0, none⟩) n cap) n (over xs o cs)))
  | [], w, L, xs, o, h, k, hk => by
    rw [show L.set k (.row e sz (.slice (some ⟨g, 0, none⟩) n cap) n (over xs o [])) = L from zbb hk]
    exact h
  | c :: cs, w, L, xs, o, h, k, hk => by
    have h1 := h.rowPut k hk o c
    have hk1 : (L.set k (.row e sz (.slice (some ⟨g, 0, none⟩) n cap) n (xs.set o c)))[k]? = some (.row e sz (.slice (some ⟨g, 0, none⟩) n cap) n (xs.set o c)) := List.getElem?_set_self (List.getElem?_eq_some_iff.1 hk).1
    have h2 := Mg.rowPuts cs _ _ (xs.set o c) (o + 1) h1 k hk1
    rw [List.set_set] at h2
    exact h2
/-- Fewer of a row's elements. -/
theorem Mg.rowCut (h : Mg w0 w L) (k : Nat) (hk : L[k]? = some (.row e sz (.slice (some ⟨g, 0, none⟩) n cap) n xs)) {m : Nat} (hm : m ≤ n) : Mg w0 w (L.set k (.row e sz (.slice (some ⟨g, 0, none⟩) m cap) m (xs.take (m * sz)))) := by
  have hr := h.has k hk
  refine ⟨h.bel, fun d hd => ?_, qvi h.dis hk (fun d _ ha => by cases d <;> exact ha)⟩
  rcases qvj h.dis hk hd with rfl | ⟨hd, _⟩
  · have hml : m * sz ≤ n * sz := Nat.mul_le_mul_right _ hm
    refine ⟨by rw [List.length_take, hr.1]; omega, ?_⟩
    rcases hr.2 with ⟨he, _⟩ | ⟨g', cap', cur, he, a, b, c, d, f, ht⟩
    · cases he
    · cases he
      exact .inr ⟨g, cap, cur, rfl, a, b, by omega, d, f, by rw [← ht, List.take_take, Nat.min_eq_left hml]⟩
  · exact h.all d hd
theorem qwa : ∀ (cs : List Value) (xs : List Value) (o i : Nat), o + cs.length ≤ xs.length → (over xs o cs)[i]? = if o ≤ i ∧ i < o + cs.length then cs[i - o]? else xs[i]?
  | [], xs, o, i, _ => by
    show xs[i]? = _
    rw [if_neg (by simp only [List.length_nil]; omega)]
  | c :: cs, xs, o, i, h => by
    rw [List.length_cons] at h
    show (over (xs.set o c) (o + 1) cs)[i]? = _
    rw [qwa cs (xs.set o c) (o + 1) i (by rw [List.length_set]; omega)]
    by_cases h1 : o + 1 ≤ i ∧ i < o + 1 + cs.length
    · rw [if_pos h1, if_pos (by rw [List.length_cons]; omega), show i - o = (i - (o + 1)) + 1 from by omega, List.getElem?_cons_succ]
    · rw [if_neg h1]
      by_cases h2 : o = i
      · subst h2
        rw [List.getElem?_set_self (by omega), if_pos (by rw [List.length_cons]; omega), Nat.sub_self, List.getElem?_cons_zero]
      · rw [List.getElem?_set_ne h2, if_neg (by rw [List.length_cons]; omega)]
theorem zhd {xs cs : List Value} {o : Nat} (h : o + cs.length ≤ xs.length) : over xs o cs = xs.take o ++ cs ++ xs.drop (o + cs.length) := by
  apply List.ext_getElem?
  intro i
  rw [qwa cs xs o i h]
  by_cases h1 : i < o
  · rw [if_neg (by omega), List.append_assoc, List.getElem?_append_left (by rw [List.length_take]; omega), List.getElem?_take_of_lt h1]
  · rw [List.append_assoc, List.getElem?_append_right (by rw [List.length_take]; omega), List.length_take, Nat.min_eq_left (by omega)]
    by_cases h2 : i < o + cs.length
    · rw [if_pos ⟨by omega, h2⟩, List.getElem?_append_left (by omega)]
    · rw [if_neg (by omega), List.getElem?_append_right (by omega), List.getElem?_drop]
      congr 1
      omega
end
section
variable {P : Program} {w0 w : World} {L : List Ck} {l : List (Nat × Value)} {dst : Option Tmp} {ty : TypeId} {pos : String} {after : Array Edge} {guard : Option (Nat × Bool)} {v : Value}
theorem jo {t : TypeId} {x y : Operand} {g o : Nat} {u : Value} {cs : List Value} (hx : ev l x = some (.pointer (some ⟨g, o, none⟩))) (hy : ev l y = some u) (hc : u.cells = cs.toArray) (hn : (P.info? t).map (·.size) = some cs.length)
    (hM : Mg w0 w L) (k : Nat) {e : TypeId} {sz n cap : Nat} {xs : List Value} (hk : L[k]? = some (.row e sz (.slice (some ⟨g, 0, none⟩) n cap) n xs)) (hl : o + cs.length ≤ n * sz) (h1 : cs.all Value.oneCell' = true) : Sets P l ⟨dst, .store t x y, ty, pos, after, guard⟩ w (w.setCells g o cs) := fun ρ h => by
  obtain ⟨i, hi, hsz⟩ := xb hn
  have hr : w.ownsRow w0.heap.size e sz (.slice (some ⟨g, 0, none⟩) n cap) n xs := hM.has k hk
  have hxl : xs.length = n * sz := hr.1
  have h2 : (sizeOf t).run P w = .ok cs.length w := by simp [sizeOf, typeInfo, hi, hsz]
  have h3 := run_storeCells_cells (P := P) g o cs 0 w (fun j hj => by
      rw [World.ownsRow.cellAt hr (o + 0 + j) (by omega), List.getElem?_eq_getElem (by omega)]; rfl) (fun j hj => World.ownsRow.frozenAt hr _) (fun v hv => List.all_eq_true.1 h1 v hv)
  rw [Nat.add_zero] at h3
  have h4 : u.cells.toList = cs := by rw [hc]
  simp only [execOp, h x _ hx, h y _ hy, Instr.storeAt, Instr.sureAddr, Sem.run_bind, Sem.run_pure, Result.andThen_ok, storeVar, h2, hc, List.size_toArray, ne_eq, not_true_eq_false, if_false, List.toList_toArray, h3]
theorem vw (hM : Mg w0 w L) {c : Tmp} {t : TypeId} {m : Nat} (ht : IsS P t m) {g o : Nat} (hx : va l c = some (.pointer (some ⟨g, o, none⟩))) (k : Nat) {vs cs : List Value} {e : TypeId} (hk : L[k]? = some (.obj g (.cells vs.toArray e))) (hcs : (vs.drop o).take m = cs) (hl : cs.length = m) : vk P l w (.cell c t) (.agg cs.toArray) :=
  ⟨_, hx, vv ht cs hl (fun j v hj => hM.cell k hk (o + j) (by
    have hjn : j < m := by rw [← hl]; exact (List.getElem?_eq_some_iff.1 hj).1
    rw [← hcs, List.getElem?_take, if_pos hjn, List.getElem?_drop] at hj
    exact hj))⟩
/-! Parts of slices. -/
def ui (so : Option Addr) (cap lo : Nat) : Option Addr := if cap = lo then so else so.map (·.add lo)
theorem qxj {t e : TypeId} (ht : P.underlying t = some (.slice e)) (he : (P.info? e).map (·.size) = some 1) {x y : Operand} {so : Option Addr} {n cap lo : Nat} {z : Int} (hx : ev l x = some (.slice so n cap)) (hy : ev l y = some (.int .i64 z)) (hz : z = ((lo : Nat) : Int)) (hp : lo ≤ n) : Does P l ⟨dst, .slice t x (some y) none none, ty, pos, after, guard⟩ w (.slice (ui so cap lo) (n - lo) (cap - lo)) w := fun ρ h => by
  subst hz
  obtain ⟨i, hi, hs⟩ := xb he
  have h2 : (sizeOf e).run P w = .ok 1 w := by simp [sizeOf, typeInfo, hi, hs]
  have h1 : (0 : Int) ≤ (lo : Nat) ∧ ((lo : Nat) : Int) ≤ (n : Int) := ⟨by omega, by omega⟩
  simp [execOp, h x _ hx, h y _ hy, Instr.sliceAt, Instr.slice, Instr.sliceBounds, Instr.sliceBound, asIntOf, run_underlying ht, h1, h2, ui]
  try (intro hc; omega)
theorem Rb.drop {w : World} {so : Option Addr} {l : List UInt8} (h : Rb w so l) (cap lo : Nat) (hc : l.length ≤ cap) : Rb w (ui so cap lo) (l.drop lo) := by
  refine ⟨fun hne => ?_⟩
  have hlo : lo < l.length := by
    apply Classical.byContradiction
    intro k
    exact hne (List.drop_eq_nil_of_le (by omega))
  obtain ⟨b, off, rfl, h2, h3⟩ := h.pos (fun k => by rw [k] at hlo; exact absurd hlo (Nat.not_lt_zero _))
  unfold ui
  rw [if_neg (by omega)]
  refine ⟨b, off + lo, by simp [xw], h2, fun j hj => ?_⟩
  rw [List.length_drop] at hj
  rw [Nat.add_assoc, h3 (lo + j) (by omega), List.getD_eq_getElem?_getD, List.getD_eq_getElem?_getD, List.getElem?_drop]
theorem qad {t e : TypeId} {sz : Nat} (ht : P.underlying t = some (.slice e)) (he : (P.info? e).map (·.size) = some sz) {x y : Operand} {so : Option Addr} {n cap hi : Nat} {z : Int} (hx : ev l x = some (.slice so n cap)) (hy : ev l y = some (.int .i64 z)) (hz : z = ((hi : Nat) : Int)) (hp : hi ≤ cap) : Does P l ⟨dst, .slice t x none (some y) none, ty, pos, after, guard⟩ w (.slice so hi cap) w := fun ρ h => by
  subst hz
  obtain ⟨i, hii, hs⟩ := xb he
  have h2 : (sizeOf e).run P w = .ok sz w := by simp [sizeOf, typeInfo, hii, hs]
  have h1 : (0 : Int) ≤ (hi : Nat) ∧ ((hi : Nat) : Int) ≤ (cap : Int) := ⟨by omega, by omega⟩
  have ha : ∀ a : Addr, a.add 0 = a := fun a => by unfold Addr.add; simp
  cases so with
  | none => simp [execOp, h x _ hx, h y _ hy, Instr.sliceAt, Instr.slice, Instr.sliceBounds, Instr.sliceBound, asIntOf, run_underlying ht, h1, h2, ha]; try (intro hc; omega)
  | some a => simp [execOp, h x _ hx, h y _ hy, Instr.sliceAt, Instr.slice, Instr.sliceBounds, Instr.sliceBound, asIntOf, run_underlying ht, h1, h2, ha]; try (intro hc; omega)
/-- A row is copied into a row of the call's own. -/
theorem zhe {t t2 e : TypeId} {sz : Nat} (ht : P.underlying t = some (.slice e)) (he : (P.info? e).map (·.size) = some sz) {x y : Operand} (hM : Mg w0 w L) (k : Nat) {g n cap : Nat} {xs : List Value} (hk : L[k]? = some (.row e sz (.slice (some ⟨g, 0, none⟩) n cap) n xs)) {o dl dc : Nat} (hx : ev l x = some (.slice (some ⟨g, o, none⟩) dl dc)) {b o2 sl sc : Nat} (hy : ev l y = some (.slice (some ⟨b, o2, none⟩) sl sc)) (hsl : sl ≤ dl) {news : List Value} (hl : news.length = sl * sz) (hn : ∀ j u, news[j]? = some u → w.cell? ⟨b, o2 + j, none⟩ = some u) (h1 : ∀ u ∈ news, u.oneCell' = true) (hr : o + news.length ≤ n * sz) :
    Does P l ⟨dst, .call ⟨.builtin .copy, #[x, y], #[t, t2]⟩, ty, pos, after, guard⟩ w (.int .i64 ((sl : Nat) : Int)) (w.setCells g o news) := by
  obtain ⟨i, hi, hs⟩ := xb he
  have h2 : ∀ w : World, (sizeOf e).run P w = .ok sz w := fun w => by simp [sizeOf, typeInfo, hi, hs]
  have hrow : w.ownsRow w0.heap.size e sz (.slice (some ⟨g, 0, none⟩) n cap) n xs := hM.has k hk
  have hxl : xs.length = n * sz := hrow.1
  have h3 := run_storeCells_cells (P := P) g o news 0 w (fun j hj => by
      rw [World.ownsRow.cellAt hrow (o + 0 + j) (by omega), List.getElem?_eq_getElem (by omega)]; rfl) (fun j hj => World.ownsRow.frozenAt hrow _) h1
  rw [Nat.add_zero] at h3
  have h4 := run_loadCells_list (P := P) w ⟨b, o2, none⟩ news (fun j u hj => by rw [xw]; exact hn j u hj)
  rw [hl] at h4
  intro ρ h
  simp [execOp, resolve, invoke, builtin, h x _ hx, h y _ hy, Builtin.copy_, run_underlying ht, h2, Builtin.lenOf, Builtin.firstCells, Nat.min_eq_left hsl, h4, h3, goInt]
end
section
variable {P : Program} {w0 w : World} {L : List Ck} {l : List (Nat × Value)} {ops : List Oper} {Q : Exit → Act → World → Prop} {a : Act} {n : Nat} {o : Oper} {rest : List Oper} {d : Nat} {S : World → Prop} {md : Region.Mode} {fuel : Nat} {listed : Array Bool}
theorem qpd (hA : Sl a n l) (hM : Mg w0 w L) (hg : zt l ops o = true) (hdst : o.dst = none) {g q : Nat} {cs us : List Value} {e : TypeId} {sz m cap : Nat} {xs : List Value} (he : Sets P l o w (w.setCells g q cs)) (k : Nat) (hk0 : L[k]? = some (.row e sz (.slice (some ⟨g, 0, none⟩) m cap) m xs)) {L' : List Ck} (hL : L.set k (.row e sz (.slice (some ⟨g, 0, none⟩) m cap) m (over xs q cs)) = L')
    (hk : ∀ w', Mg w0 w' L' → wpList P ops.toArray Q rest a w') : wpList P ops.toArray Q (o :: rest) a w :=
  yk hA hg hdst he (hk _ (by subst hL; exact Mg.rowPuts cs w L xs q hM k hk0))
theorem uq (hA : Sl a n l) (hM : Mg w0 w L) (i : Nat) (hi : ops[i]? = some o) (hg : zt l ops o = true) (hdst : o.dst = none) {g q : Nat} {cs us : List Value} {e : TypeId} {sz m cap : Nat} {xs : List Value} (he : Sets P l o w (w.setCells g q cs)) (k : Nat) (hk0 : L[k]? = some (.row e sz (.slice (some ⟨g, 0, none⟩) m cap) m xs)) {L' : List Ck} (hL : L.set k (.row e sz (.slice (some ⟨g, 0, none⟩) m cap) m (over xs q cs)) = L')
    (hk : ∀ w', Mg w0 w' L' → S w' ∧ wpAnyH P md ops.toArray Q S fuel (listed.setIfInBounds i true) a w') : wpOp P ops.toArray Q i (fun a' w' => S w' ∧ wpAnyH P md ops.toArray Q S fuel (listed.setIfInBounds i true) a' w') a w := by
  have h := hk _ (by subst hL; exact Mg.rowPuts cs w L xs q hM k hk0)
  exact qhi hA i hi hg hdst he h.1 h.2
theorem qmh (hA : Sl a n l) (hM : Mg w0 w L) (hg : zt l ops o = true) (hdst : o.dst = some d) (hd : Nat.blt d n = true) {g q : Nat} {cs : List Value} {v : Value} {e : TypeId} {sz m cap : Nat} {xs : List Value} (he : Does P l o w v (w.setCells g q cs)) (k : Nat) (hk0 : L[k]? = some (.row e sz (.slice (some ⟨g, 0, none⟩) m cap) m xs)) {L' : List Ck} (hL : L.set k (.row e sz (.slice (some ⟨g, 0, none⟩) m cap) m (over xs q cs)) = L')
    (hk : ∀ w', Mg w0 w' L' → ∀ a', Sl a' n ((d, v) :: l) → wpList P ops.toArray Q rest a' w') : wpList P ops.toArray Q (o :: rest) a w :=
  vf hA hg hdst hd he (hk _ (by subst hL; exact Mg.rowPuts cs w L xs q hM k hk0))
/-- A row is made. -/
theorem qgf (hA : Sl a n l) (hM : Mg w0 w L) {t e ty : TypeId} {z : Value} {sz by_ : Nat} {dst : Option Tmp} {pos : String} {after : Array Edge} {guard : Option (Nat × Bool)} (ht : P.underlying t = some (.slice e)) (hinfo : (P.info? e).map (fun i => (i.zero, i.size, i.bytes)) = some (some z, sz, by_)) {x y : Operand} {m : Nat} (hx : ev l x = some (.int .i64 ((m : Nat) : Int))) (hy : ev l y = some (.int .i64 ((m : Nat) : Int))) (ho : o = ⟨dst, .makeSlice t x y, ty, pos, after, guard⟩) (hg : zt l ops o = true) (hdst : o.dst = some d) (hd : Nat.blt d n = true) (hb : by_ * m ≤ 281474976710656) (h63 : m ≤ 9223372036854775807) (hnb : e ≠ BY ∨ yt L)
    (hk : ∀ g w', Mg w0 w' (.row e sz (.slice (some ⟨g, 0, none⟩) m m) m (madeCells z.cells (m * sz)).toList :: L) → ∀ a', Sl a' n ((d, .slice (some ⟨g, 0, none⟩) m m) :: l) → wpList P ops.toArray Q rest a' w') : wpList P ops.toArray Q (o :: rest) a w := by
  subst ho
  obtain ⟨i, hi, hzz⟩ := Option.map_eq_some_iff.1 hinfo
  simp only [Prod.mk.injEq] at hzz
  obtain ⟨hz, hs, hbb⟩ := hzz
  obtain ⟨w', hr, hown, hgr⟩ := run_make_full (P := P) (w := w) w0.heap.size t e i z sz ht hi hz hs .i64 .i64 m (by rw [hbb]; exact hb) (by unfold maxLen; omega) hM.bel.size
  have hbel : Below w.heap.size w w' := ⟨hgr.os, hgr.tape, hgr.output, hgr.size, fun k hk => hgr.block k hk (by simp)⟩
  refine vf hA hg hdst hd (v := .slice (some ⟨w.heap.size, 0, none⟩) m m) (w' := w') (fun ρ h => ?_) (hk w.heap.size w' (hM.add hbel hown (fun k e => by simp [Ck.at_, Value.ownBlock] at e; omega) (.inr (.inl ⟨_, _, _, _, _, rfl, hnb⟩))))
  simp only [execOp, h x _ hx, h y _ hy, Sem.run_bind, hr, Result.andThen_ok, Sem.run_pure]
end
/-! ### Names -/
def cmpN (a b : ByteArray) : Int := compareBytes a.data.toList b.data.toList
section
variable {P : Program} {t : TypeId} {x y : Operand} {a b : ByteArray}
end
end Go.Proofs.YtbhdnpbbmpemnaaGreatDoor.G
namespace Go.Proofs.YtbhdnpbbmpemnaaGreatDoor.G
open Go.RowKit Go.Lib
set_option linter.unusedVariables false
set_option linter.unusedSimpArgs false
theorem Rb.takeZ {w : World} {so : Option Addr} {l : List UInt8} (h : Rb w so l) (n : Nat) : Rb w so (l.take n) := by
  refine ⟨fun hne => ?_⟩
  obtain ⟨b, off, h1, h2, h3⟩ := h.pos (fun k => hne (by rw [k]; simp))
  refine ⟨b, off, h1, h2, fun j hj => ?_⟩
  rw [List.length_take] at hj
  rw [h3 j (by omega), List.getD_eq_getElem?_getD, List.getD_eq_getElem?_getD, List.getElem?_take_of_lt (by omega)]
theorem qce (l : List UInt8) : (Lib.byteCells l).length = l.length := by simp [Lib.byteCells]
theorem zhf {l : List UInt8} : ∀ u ∈ Lib.byteCells l, u.oneCell' = true := by
  intro u hu
  unfold Lib.byteCells at hu
  obtain ⟨b, _, rfl⟩ := List.mem_map.1 hu
  rfl
theorem zma {l : List UInt8} {j : Nat} {u : Value} (h : (Lib.byteCells l)[j]? = some u) : j < l.length ∧ u = .int .u8 (((l.getD j 0).toNat : Nat) : Int) := by
  have hj := (List.getElem?_eq_some_iff.1 h).1
  rw [qce] at hj
  unfold Lib.byteCells at h
  rw [List.getElem?_map, List.getElem?_eq_getElem hj] at h
  refine ⟨hj, ?_⟩
  simp only [Option.map_some, Option.some.injEq] at h
  rw [← h, List.getD_eq_getElem?_getD, List.getElem?_eq_getElem hj]
  rfl
section
variable {P : Program} {w0 w : World} {L : List Ck} {l : List (Nat × Value)} {dst : Option Tmp} {ty : TypeId} {pos : String} {after : Array Edge} {guard : Option (Nat × Bool)}
/-- Bytes are copied into a row of the call's own. -/
theorem qmi {t t2 : TypeId} (ht : P.underlying t = some (.slice BY)) (he : (P.info? BY).map (·.size) = some 1) {x y : Operand} (hM : Mg w0 w L) (k : Nat) {g n cap : Nat} {xs : List Value} (hk : L[k]? = some (.row BY 1 (.slice (some ⟨g, 0, none⟩) n cap) n xs)) {o dl dc : Nat} (hx : ev l x = some (.slice (some ⟨g, o, none⟩) dl dc)) {so : Option Addr} {sc : Nat} {bs : List UInt8} (hb : Rb w so bs) (hy : ev l y = some (.slice so bs.length sc)) (hsl : bs.length ≤ dl) (hr : o + bs.length ≤ n) :
    Does P l ⟨dst, .call ⟨.builtin .copy, #[x, y], #[t, t2]⟩, ty, pos, after, guard⟩ w (.int .i64 ((bs.length : Nat) : Int)) (w.setCells g o (Lib.byteCells bs)) := by
  by_cases hne : bs = []
  · subst hne
    obtain ⟨i, hi, hs⟩ := xb he
    have h2 : ∀ w : World, (sizeOf BY).run P w = .ok 1 w := fun w => by simp [sizeOf, typeInfo, hi, hs]
    have h3 : w.setCells g o (Lib.byteCells []) = w := rfl
    rw [h3]
    intro ρ h
    cases so <;> simp [execOp, resolve, invoke, builtin, h x _ hx, h y _ hy, Builtin.copy_, run_underlying ht, h2, Builtin.lenOf, Builtin.firstCells, loadCells, loadCellsFrom, storeCells, goInt]
  · obtain ⟨b, off, rfl, _, hc⟩ := hb.pos hne
    exact zhe (sz := 1) ht he hM k hk hx hy hsl (by rw [qce]; omega) (fun j u hj => by
      obtain ⟨h1, rfl⟩ := zma hj
      exact hc j h1) zhf (by rw [qce]; omega)
/-- A part of bytes, from and to. -/
theorem zhg {t e : TypeId} (ht : P.underlying t = some (.slice e)) (he : (P.info? e).map (·.size) = some 1) {x y1 y2 : Operand} {so : Option Addr} {n cap lo hi q : Nat} {z1 z2 : Int} (hx : ev l x = some (.slice so n cap)) (hy1 : ev l y1 = some (.int .i64 z1)) (hy2 : ev l y2 = some (.int .i64 z2)) (hz1 : z1 = ((lo : Nat) : Int)) (hz2 : z2 = ((hi : Nat) : Int)) (h1 : lo ≤ hi) (h2 : hi ≤ cap) (hq : hi - lo = q) : Does P l ⟨dst, .slice t x (some y1) (some y2) none, ty, pos, after, guard⟩ w (.slice (ui so cap lo) q (cap - lo)) w := fun ρ h => by
  subst hz1 hz2 hq
  obtain ⟨i, hii, hs⟩ := xb he
  have k2 : (sizeOf e).run P w = .ok 1 w := by simp [sizeOf, typeInfo, hii, hs]
  have g1 : (0 : Int) ≤ (lo : Nat) ∧ ((lo : Nat) : Int) ≤ (hi : Int) := ⟨by omega, by omega⟩
  have g2 : (0 : Int) ≤ (hi : Nat) ∧ ((hi : Nat) : Int) ≤ (cap : Int) := ⟨by omega, by omega⟩
  simp only [execOp, h x _ hx, h y1 _ hy1, h y2 _ hy2, Option.map_some, Option.map_none, Instr.sliceAt, Instr.slice, Instr.sliceBounds, Instr.sliceBound, asIntOf, run_underlying ht, Sem.run_bind, Sem.run_pure, Result.andThen_ok, g1, g2, k2, and_self, if_true, Int.toNat_natCast, Nat.mul_one, ui]
end
/-- Do the n bytes from a place on lie in m bytes? -/
def inB (m : Nat) (a n : Int) : Bool := decide (0 ≤ a ∧ 0 ≤ n ∧ a ≤ (m : Int) - n)
theorem qpe {l : List UInt8} {xs : List Value} (h : xs.length = l.length) : over xs 0 (Lib.byteCells l) = Lib.byteCells l := by
  rw [zhd (by rw [qce]; omega), List.take_zero, List.nil_append, List.drop_eq_nil_of_le (by rw [qce]; omega), List.append_nil]
end Go.Proofs.YtbhdnpbbmpemnaaGreatDoor.G
namespace Go.Proofs.YtbhdnpbbmpemnaaGreatDoor.G
open Go.RowKit
set_option linter.unusedVariables false
set_option linter.unusedSimpArgs false
set_option maxRecDepth 100000

theorem qth {w : World} {so : Option Addr} {ca : Nat} {l : List UInt8} {ap n : Int} (hl : l.length ≤ 140737488351232) (hap0 : -9223372036854775808 ≤ ap) (hap1 : ap ≤ 9223372036854775807) (hn0 : -9223372036854775808 ≤ n) (hn1 : n ≤ 9223372036854775807) : Calls Tryz.prog 39 #[.slice so l.length ca, .int .i64 ap, .int .i64 n] w fun e w' => e = .returned (.bool (inB l.length ap n)) ∧ Below w.heap.size w w' := by
 have hM : Mg w w ([]) := Mg.start w
 refine za (l := [(0, .slice so l.length ca), (1, .int .i64 ap), (2, .int .i64 n)]) Tryz.func39 rfl Tryz.ntmps39 rfl rfl ?_
 intro Q hret hnorm hP a hA
 refine wsk fun K1 hK1 => wrl (sdo hA (qb rfl) fun a hA => ?_)
 refine qe (hK1 _ _ (wsk fun K2 hK2 => wrl (sdo hA (qa rfl) fun a hA => ?_)))
 rcases tf (decide (0 ≤ ap)) with hb3 | hb3
 ·
  have hb3' := of_decide_eq_true hb3
  refine sdo (v := .bool true) hA (qg rfl rfl (fun w => (ju w).trans (by rw [hb3]))) fun a hA => ?_
  iterate 2 refine sdo hA (qa rfl) fun a hA => ?_
  rcases tf (decide (0 ≤ n)) with hb4 | hb4
  ·
   have hb4' := of_decide_eq_true hb4
   refine sdo (v := .bool true) hA (qg rfl rfl (fun w => (ju w).trans (by rw [hb4]))) fun a hA => ?_
   refine sdo (v := .bool true) hA (qj rfl rfl rfl rfl) fun a hA => ?_
   iterate 3 refine sdo hA (qa rfl) fun a hA => ?_
   refine sdo hA (zb Tryz.underlying22 rfl) fun a hA => ?_
   refine sdo hA (qa rfl) fun a hA => ?_
   refine sdo (v := .int .i64 (((l.length : Nat) : Int) - n)) hA (qg rfl rfl (ar_sub (in_i64 (by omega) (by omega)))) fun a hA => ?_
   rcases tf (decide (ap ≤ ((l.length : Nat) : Int) - n)) with hb5 | hb5
   ·
    have hb5' := of_decide_eq_true hb5
    refine sdo (v := .bool true) hA (qg rfl rfl (fun w => (kx w).trans (by rw [hb5]))) fun a hA => ?_
    refine sdo (v := .bool true) hA (qj rfl rfl rfl rfl) fun a hA => ?_
    refine sdo hA (qb rfl) fun a hA => ?_
    refine qe (hK2 _ _ (wp_ret (hret _ _ (en1 hA rfl (ql rfl) ?_))))
    exact ⟨by rw [show inB l.length ap n = true from by unfold inB; apply decide_eq_true; omega], hM.bel⟩
   ·
    have hb5' := of_decide_eq_false hb5
    refine sdo (v := .bool false) hA (qg rfl rfl (fun w => (kx w).trans (by rw [hb5]))) fun a hA => ?_
    refine sdo (v := .bool false) hA (qj rfl rfl rfl rfl) fun a hA => ?_
    refine sdo hA (qb rfl) fun a hA => ?_
    refine qe (hK2 _ _ (wp_ret (hret _ _ (en1 hA rfl (ql rfl) ?_))))
    exact ⟨by rw [show inB l.length ap n = false from by unfold inB; apply decide_eq_false; omega], hM.bel⟩
  ·
   have hb4' := of_decide_eq_false hb4
   refine sdo (v := .bool false) hA (qg rfl rfl (fun w => (ju w).trans (by rw [hb4]))) fun a hA => ?_
   refine sdo (v := .bool false) hA (qj rfl rfl rfl rfl) fun a hA => ?_
   refine sdo hA (qa rfl) fun a hA => ?_
   iterate 6 refine zg hA rfl rfl rfl fun a hA => ?_
   refine sdo (v := .bool false) hA (qj rfl rfl rfl rfl) fun a hA => ?_
   refine sdo hA (qb rfl) fun a hA => ?_
   refine qe (hK2 _ _ (wp_ret (hret _ _ (en1 hA rfl (ql rfl) ?_))))
   exact ⟨by rw [show inB l.length ap n = false from by unfold inB; apply decide_eq_false; omega], hM.bel⟩
 ·
  have hb3' := of_decide_eq_false hb3
  refine sdo (v := .bool false) hA (qg rfl rfl (fun w => (ju w).trans (by rw [hb3]))) fun a hA => ?_
  refine sdo hA (qa rfl) fun a hA => ?_
  iterate 2 refine zg hA rfl rfl rfl fun a hA => ?_
  refine sdo (v := .bool false) hA (qj rfl rfl rfl rfl) fun a hA => ?_
  refine sdo hA (qa rfl) fun a hA => ?_
  iterate 6 refine zg hA rfl rfl rfl fun a hA => ?_
  refine sdo (v := .bool false) hA (qj rfl rfl rfl rfl) fun a hA => ?_
  refine sdo hA (qb rfl) fun a hA => ?_
  refine qe (hK2 _ _ (wp_ret (hret _ _ (en1 hA rfl (ql rfl) ?_))))
  exact ⟨by rw [show inB l.length ap n = false from by unfold inB; apply decide_eq_false; omega], hM.bel⟩
theorem qya {w : World} {so : Option Addr} {ca : Nat} {l : List UInt8} {ap n : Int} (hl : l.length ≤ 140737488351232) (hap0 : -9223372036854775808 ≤ ap) (hap1 : ap ≤ 9223372036854775807) (hn0 : -9223372036854775808 ≤ n) (hn1 : n ≤ 9223372036854775807) {b : Bool} (h : inB l.length ap n = b) : Calls Tryz.prog 39 #[.slice so l.length ca, .int .i64 ap, .int .i64 n] w fun e w' => e = .returned (.bool b) ∧ Below w.heap.size w w' := h ▸ qth hl hap0 hap1 hn0 hn1
end Go.Proofs.YtbhdnpbbmpemnaaGreatDoor.G
namespace Go.Proofs.YtbhdnpbbmpemnaaGreatDoor.G
open Go.RowKit
set_option linter.unusedVariables false
set_option linter.unusedSimpArgs false
set_option maxRecDepth 100000
theorem ByB_is1_5 : Is1 Tryz.prog 5 := ⟨⟨_, Tryz.underlying5, rfl⟩, by kernel_rfl⟩
theorem qpf {xs ys : List UInt8} (hl : xs.length = ys.length) (h : ∀ j, j < xs.length → xs.getD j 0 = ys.getD j 0) : xs = ys := by
 apply List.ext_getElem hl
 intro j h1 h2
 have := h j h1
 rwa [List.getD_eq_getElem?_getD, List.getD_eq_getElem?_getD, List.getElem?_eq_getElem h1, List.getElem?_eq_getElem h2] at this
theorem qyb {xs ys : List UInt8} {i : Nat} (h : ∀ j, j < i → xs.getD j 0 = ys.getD j 0) (h1 : (((xs.getD i 0).toNat : Nat) : Int) = (((ys.getD i 0).toNat : Nat) : Int)) : ∀ j, j < i + 1 → xs.getD j 0 = ys.getD j 0 := by
 intro j hj
 by_cases e : j = i
 ·
  subst e; exact UInt8.toNat_inj.1 (by omega)
 ·
  exact h j (by omega)
theorem qgg {w : World} {so : Option Addr} {l : List UInt8} {i : Nat} (h : Rb w so l) (hi : i < l.length) : ∃ b off, so = some ⟨b, off, none⟩ ∧ b < w.heap.size ∧ ∀ j, j < l.length → w.cell? ⟨b, off + j, none⟩ = some (.int .u8 (((l.getD j 0).toNat : Nat) : Int)) :=
 h.pos (fun k => by rw [k] at hi; exact absurd hi (Nat.not_lt_zero _))
theorem ko {w0 w : World} {L : List Ck} (hM : Mg w0 w L) (k : Nat) {e : TypeId} {sz n cap : Nat} {so : Option Addr} {xs : List Value} (hk : L[k]? = some (.row e sz (.slice so n cap) n xs)) : n ≤ cap := by
 rcases (hM.has k hk).2 with ⟨he, h0⟩ | ⟨g, c, cur, he, _, _, h3, _⟩
 ·
  simp only [Value.slice.injEq] at he; omega
 ·
  cases he; exact h3
theorem same_any {w : World} {so to_ : Option Addr} {ca cb : Nat} {xs ys : List UInt8} (hx : Rb w so xs) (hy : Rb w to_ ys) (hl : xs.length ≤ 140737488351232) : Calls Tryz.prog 9 #[.slice so xs.length ca, .slice to_ ys.length cb] w fun e w' => e = .returned (.bool (decide (xs = ys))) ∧ Below w.heap.size w w' := by
 have hM : Mg w w ([]) := Mg.start w
 refine za (l := [(0, .slice so xs.length ca), (1, .slice to_ ys.length cb)]) Tryz.func9 rfl Tryz.ntmps9 rfl rfl ?_
 intro Q hret hnorm hP a hA
 refine wsk fun K1 hK1 => wrl (sdo hA (qb rfl) fun a hA => ?_)
 refine qe (hK1 _ _ (wsk fun K2 hK2 => wsk fun K3 hK3 => wrl (sdo hA (qa rfl) fun a hA => ?_)))
 refine sdo hA (zb Tryz.underlying22 rfl) fun a hA => ?_
 refine sdo hA (qa rfl) fun a hA => ?_
 refine sdo hA (zb Tryz.underlying22 rfl) fun a hA => ?_
 rcases tf ((((xs.length : Nat) : Int) != ((ys.length : Nat) : Int))) with hb4 | hb4
 ·
  have hb4' := bne_iff_ne.1 hb4
  refine sdo (v := .bool true) hA (qg rfl rfl (fun w => (jm w).trans (by rw [hb4]))) fun a hA => ?_
  refine qe (hK3 _ _ (wp_cond_true (hA.ev rfl) ?_))
  refine wsk fun K5 hK5 => wrl (sdo hA (qb rfl) fun a hA => ?_)
  refine qe (hK5 _ _ (wp_ret (hret _ _ (en1 hA rfl (ql rfl) ?_))))
  rw [show decide (xs = ys) = false from decide_eq_false (fun h9 => by subst h9; omega)]
  exact ⟨rfl, hM.bel⟩
 ·
  have hb4' := bne_eq_false_iff_eq.1 hb4
  refine sdo (v := .bool false) hA (qg rfl rfl (fun w => (jm w).trans (by rw [hb4]))) fun a hA => ?_
  refine qe (hK3 _ _ (wp_cond_false (hA.ev rfl) ?_))
  refine wp_skip (hK2 _ _ (wsk fun K6 hK6 => wsk fun K7 hK7 => wrl (sdo hA (qb rfl) fun a hA => ?_)))
  refine qe (hK7 _ _ (wp_block (jb (fun m_ a w1 => ∃ (i : Nat), m_ = xs.length - i ∧ (i ≤ xs.length ∧ ∀ j, j < i → xs.getD j 0 = ys.getD j 0) ∧ Sl a 26 [(0, .slice so xs.length ca), (1, .slice to_ ys.length cb), (5, .int .i64 (((i : Nat) : Int))), (6, .slice so xs.length ca), (7, .int .i64 (((xs.length : Nat) : Int))), (8, .slice to_ ys.length cb), (9, .int .i64 (((ys.length : Nat) : Int))), (10, .bool false)] ∧ Mg w w1 ([])) _ ⟨0, rfl, ⟨Nat.zero_le _, fun j hj => absurd hj (Nat.not_lt_zero _)⟩, hA.keep _ ⟨rfl, rfl, rfl, rfl, rfl, rfl, rfl, rfl, trivial⟩, hM⟩ ?_)))
  clear hM hA
  rintro m_ a w8 ⟨i, rfl, hinv10, hA, hM⟩ K9 hK9
  obtain ⟨hi9, hall⟩ := hinv10
  refine wsk fun K11 hK11 => wsk fun K12 hK12 => wrl ?_
  iterate 2 refine sdo hA (qa rfl) fun a hA => ?_
  refine sdo hA (zb Tryz.underlying22 rfl) fun a hA => ?_
  rcases tf (decide (((i : Nat) : Int) < ((xs.length : Nat) : Int))) with hb13 | hb13
  ·
   have hb13' := of_decide_eq_true hb13
   refine sdo (v := .bool true) hA (qg rfl rfl (fun w => (zi w).trans (by rw [hb13]))) fun a hA => ?_
   refine qe (hK12 _ _ (wp_cond_true (hA.ev rfl) ?_))
   refine wp_skip (hK11 _ _ (wsk fun K14 hK14 => wp_block (wsk fun K15 hK15 => ?_)))
   obtain ⟨bx, ox, hx1, hx2, hx3⟩ := qgg (i := i) hx (by omega)
   obtain ⟨by_, oy, hy1, hy2, hy3⟩ := qgg (i := i) hy (by omega)
   refine je (S := fun w1 => Mg w w1 ([])) (by kernel_rfl) ?_
   replace hM := hM.drew
   refine qk hA 0 rfl rfl rfl rfl hP (hM.sub (List.nil_sublist _)) (fun w1 hM => qa rfl) fun a hA => ?_
   refine qk hA 1 rfl rfl rfl rfl hP (hM.sub (List.nil_sublist _)) (fun w1 hM => qa rfl) fun a hA => ?_
   refine qk (v := .pointer (some ⟨bx, ox + i, none⟩)) hA 2 rfl rfl rfl rfl hP (hM.sub (List.nil_sublist _)) (fun w1 hM => zk Tryz.underlying22 (by kernel_rfl) rfl rfl rfl hx1 (by omega)) fun a hA => ?_
   refine qk (v := .int .u8 ((((xs.getD i 0).toNat : Nat) : Int))) hA 3 rfl rfl rfl rfl hP (hM.sub (List.nil_sublist _)) (fun w1 hM => yn hM hx2 (hx3 i (by omega)) ByB_is1_5 rfl) fun a hA => ?_
   refine qk hA 4 rfl rfl rfl rfl hP (hM.sub (List.nil_sublist _)) (fun w1 hM => qa rfl) fun a hA => ?_
   refine qk hA 5 rfl rfl rfl rfl hP (hM.sub (List.nil_sublist _)) (fun w1 hM => qa rfl) fun a hA => ?_
   refine qk (v := .pointer (some ⟨by_, oy + i, none⟩)) hA 6 rfl rfl rfl rfl hP (hM.sub (List.nil_sublist _)) (fun w1 hM => zk Tryz.underlying22 (by kernel_rfl) rfl rfl rfl hy1 (by omega)) fun a hA => ?_
   refine qk (v := .int .u8 ((((ys.getD i 0).toNat : Nat) : Int))) hA 7 rfl rfl rfl rfl hP (hM.sub (List.nil_sublist _)) (fun w1 hM => yn hM hy2 (hy3 i (by omega)) ByB_is1_5 rfl) fun a hA => ?_
   rcases tf (((((xs.getD i 0).toNat : Nat) : Int) != (((ys.getD i 0).toNat : Nat) : Int))) with hb16 | hb16
   ·
    have hb16' := bne_iff_ne.1 hb16
    refine qk (v := .bool true) hA 8 rfl rfl rfl rfl hP (hM.sub (List.nil_sublist _)) (fun w1 hM => qg rfl rfl (fun w => (jm w).trans (by rw [hb16]))) fun a hA => ?_
    refine zn (by kernel_rfl) ?_
    refine hK15 _ _ (wp_cond_true (hA.ev rfl) ?_)
    refine wsk fun K17 hK17 => wrl (sdo hA (qb rfl) fun a hA => ?_)
    refine qe (hK17 _ _ (wp_ret (hret _ _ (en1 hA rfl (ql rfl) ?_))))
    rw [show decide (xs = ys) = false from decide_eq_false (fun h9 => by subst h9; omega)]
    exact ⟨rfl, hM.bel⟩
   ·
    have hb16' := bne_eq_false_iff_eq.1 hb16
    refine qk (v := .bool false) hA 8 rfl rfl rfl rfl hP (hM.sub (List.nil_sublist _)) (fun w1 hM => qg rfl rfl (fun w => (jm w).trans (by rw [hb16]))) fun a hA => ?_
    refine zn (by kernel_rfl) ?_
    refine hK15 _ _ (wp_cond_false (hA.ev rfl) ?_)
    refine wp_skip (hK14 _ _ (wrl (sdo hA (qa rfl) fun a hA => ?_)))
    refine sdo (v := .int .i64 (((i + 1 : Nat) : Int))) hA (qg rfl rfl (ar_add ((in_i64 (by omega) (by omega)).trans (by omega)))) fun a hA => ?_
    refine sdo hA (qb rfl) fun a hA => ?_
    refine qe ?_
    refine hK9 _ _ _ (by omega) ⟨i + 1, rfl, ⟨by omega, qyb hall (by omega)⟩, hA.keep _ ⟨rfl, rfl, rfl, rfl, rfl, rfl, rfl, rfl, trivial⟩, hM⟩
  ·
   have hb13' := of_decide_eq_false hb13
   refine sdo (v := .bool false) hA (qg rfl rfl (fun w => (zi w).trans (by rw [hb13]))) fun a hA => ?_
   refine qe (hK12 _ _ (wp_cond_false (hA.ev rfl) ?_))
   refine wp_exit (hK6 _ _ (wsk fun K18 hK18 => wrl (sdo hA (qb rfl) fun a hA => ?_)))
   refine qe (hK18 _ _ (wp_ret (hret _ _ (en1 hA rfl (ql rfl) ?_))))
   rw [show decide (xs = ys) = true from decide_eq_true (qpf (by omega) (fun j hj => hall j (by omega)))]
   exact ⟨rfl, hM.bel⟩
theorem qae {w : World} {so to_ : Option Addr} {ca cb : Nat} {xs ys : List UInt8} {b : Bool} (hx : Rb w so xs) (hy : Rb w to_ ys) (hl : xs.length ≤ 140737488351232) (h : decide (xs = ys) = b) : Calls Tryz.prog 9 #[.slice so xs.length ca, .slice to_ ys.length cb] w fun e w' => e = .returned (.bool b) ∧ Below w.heap.size w w' := h ▸ same_any hx hy hl
end Go.Proofs.YtbhdnpbbmpemnaaGreatDoor.G
namespace Go.Proofs.YtbhdnpbbmpemnaaGreatDoor.G
open Go.RowKit
set_option linter.unusedVariables false
set_option linter.unusedSimpArgs false
set_option maxRecDepth 100000
theorem ByC_is1_3 : Is1 Tryz.prog 3 := ⟨⟨_, Tryz.underlying3, rfl⟩, by kernel_rfl⟩
theorem ByC_is1_5 : Is1 Tryz.prog 5 := ⟨⟨_, Tryz.underlying5, rfl⟩, by kernel_rfl⟩
theorem ByC_fld_39_0 : FieldAt Tryz.prog 39 0 0 := ⟨_, _, Tryz.underlying39, rfl, rfl, by kernel_rfl⟩
/-- Bytes without the zeros at their end. -/
def vb (l : List UInt8) : List UInt8 := (l.reverse.dropWhile (· == 0)).reverse
theorem qti {l : List UInt8} {k : Nat} (hk : k < l.length) (h : l.getD k 0 = 0) : vb (l.take (k + 1)) = vb (l.take k) := by
 unfold vb
 have e : l.take (k + 1) = l.take k ++ [0] := by
  rw [List.take_add_one, List.getElem?_eq_getElem hk]
  rw [List.getD_eq_getElem?_getD, List.getElem?_eq_getElem hk] at h
  simp only [Option.getD_some] at h
  rw [h]
  rfl
 rw [e, List.reverse_append]
 simp
theorem qtj {l : List UInt8} {k : Nat} (hk : k < l.length) (h : l.getD k 0 ≠ 0) : vb (l.take (k + 1)) = l.take (k + 1) := by
 unfold vb
 rw [List.getD_eq_getElem?_getD, List.getElem?_eq_getElem hk] at h
 simp only [Option.getD_some] at h
 have e : l.take (k + 1) = l.take k ++ [l[k]] := by rw [List.take_add_one, List.getElem?_eq_getElem hk]; rfl
 rw [e, List.reverse_append]
 simp only [List.reverse_cons, List.reverse_nil, List.nil_append, List.cons_append]
 rw [List.dropWhile_cons_of_neg (by simpa using h), List.reverse_cons, List.reverse_reverse]
theorem qyc : vb [] = [] := rfl
theorem qmj {w : World} {so : Option Addr} {ca : Nat} {l : List UInt8} (hb : Rb w so l) (hl : l.length ≤ 140737488351232) (hca : l.length ≤ ca) : Calls Tryz.prog 66 #[.slice so l.length ca, .int .u8 0] w fun e w' => e = .returned (.slice so (vb l).length ca) ∧ Below w.heap.size w w' := by
 have hM : Mg w w ([]) := Mg.start w
 refine za (l := [(0, .slice so l.length ca), (1, .int .u8 0)]) Tryz.func66 rfl Tryz.ntmps66 rfl rfl ?_
 intro Q hret hnorm hP a hA
 refine wsk fun K1 hK1 => wrl (sdo hA (qb rfl) fun a hA => ?_)
 refine qe (hK1 _ _ (wsk fun K2 hK2 => wp_block (jb (fun m_ a w1 => ∃ (q : Nat), m_ = 1 + q ∧ (q ≤ l.length ∧ vb (l.take q) = vb l) ∧ Sl a 24 [(0, .slice so q ca), (1, .int .u8 0), (4, .slice none 0 0)] ∧ Mg w w1 ([])) _ ⟨l.length, rfl, ⟨Nat.le_refl _, by rw [List.take_of_length_le (Nat.le_refl _)]⟩, hA.keep _ ⟨rfl, rfl, rfl, trivial⟩, hM⟩ ?_)))
 clear hM hA
 rintro m_ a w3 ⟨q, rfl, hinv5, hA, hM⟩ K4 hK4
 obtain ⟨hq9, htz⟩ := hinv5
 refine wsk fun K6 hK6 => wsk fun K7 hK7 => wrl (sdo hA (qa rfl) fun a hA => ?_)
 refine sdo hA (zb Tryz.underlying22 rfl) fun a hA => ?_
 rcases tf (decide (0 < ((q : Nat) : Int))) with hb8 | hb8
 ·
  have hb8' := of_decide_eq_true hb8
  refine sdo (v := .bool true) hA (qg rfl rfl (fun w => (ja w).trans (by rw [hb8]))) fun a hA => ?_
  iterate 3 refine sdo hA (qa rfl) fun a hA => ?_
  refine sdo hA (zb Tryz.underlying22 rfl) fun a hA => ?_
  refine sdo (v := .int .i64 (((q - 1 : Nat) : Int))) hA (qg rfl rfl (ar_sub ((in_i64 (by omega) (by omega)).trans (by omega)))) fun a hA => ?_
  obtain ⟨bx, ox, hx1, hx2, hx3⟩ := qgg (i := q - 1) hb (by omega)
  refine sdo (v := .pointer (some ⟨bx, ox + (q - 1), none⟩)) hA (zk Tryz.underlying22 (by kernel_rfl) rfl rfl rfl hx1 (show q - 1 < q by omega)) fun a hA => ?_
  refine sdo (v := .int .u8 ((((l.getD (q - 1) 0).toNat : Nat) : Int))) hA (yn hM hx2 (hx3 (q - 1) (by omega)) ByC_is1_5 rfl) fun a hA => ?_
  refine sdo hA (qa rfl) fun a hA => ?_
  rcases tf (((((l.getD (q - 1) 0).toNat : Nat) : Int) == 0)) with hb9 | hb9
  ·
   have hb9' := eq_of_beq hb9
   refine sdo (v := .bool true) hA (qg rfl rfl (fun w => (xt w).trans (by rw [hb9]))) fun a hA => ?_
   refine sdo (v := .bool true) hA (qj rfl rfl rfl rfl) fun a hA => ?_
   refine qe (hK7 _ _ (wp_cond_true (hA.ev rfl) ?_))
   refine wp_skip (hK6 _ _ (wp_block (wrl ?_)))
   iterate 2 refine sdo hA (qa rfl) fun a hA => ?_
   refine sdo hA (zb Tryz.underlying22 rfl) fun a hA => ?_
   refine sdo (v := .int .i64 (((q - 1 : Nat) : Int))) hA (qg rfl rfl (ar_sub ((in_i64 (by omega) (by omega)).trans (by omega)))) fun a hA => ?_
   refine sdo (v := .slice so ((q - 1)) ca) hA (qad (sz := 1) (hi := q - 1) Tryz.underlying22 (by kernel_rfl) rfl rfl rfl (by omega)) fun a hA => ?_
   refine sdo hA (qb rfl) fun a hA => ?_
   refine qe ?_
   refine hK4 _ _ _ (by omega) ⟨q - 1, rfl, ⟨by omega, by rw [← htz, show l.take q = l.take (q - 1 + 1) from by rw [show q - 1 + 1 = q from by omega], qti (by omega) (UInt8.toNat_inj.1 (by show _ = 0; omega))]⟩, hA.keep _ ⟨rfl, rfl, rfl, trivial⟩, hM⟩
  ·
   have hb9' := ne_of_beq_false hb9
   refine sdo (v := .bool false) hA (qg rfl rfl (fun w => (xt w).trans (by rw [hb9]))) fun a hA => ?_
   refine sdo (v := .bool false) hA (qj rfl rfl rfl rfl) fun a hA => ?_
   refine qe (hK7 _ _ (wp_cond_false (hA.ev rfl) ?_))
   refine wp_exit (hK2 _ _ (wsk fun K10 hK10 => wrl (sdo hA (qa rfl) fun a hA => ?_)))
   refine sdo hA (qb rfl) fun a hA => ?_
   refine qe (hK10 _ _ (wp_ret (hret _ _ (en1 hA rfl (ql rfl) ?_))))
   have e9 := qtj (l := l) (k := q - 1) (by omega) (fun k9 => by rw [k9] at hb9'; exact hb9' rfl)
   rw [show q - 1 + 1 = q from by omega] at e9
   rw [e9] at htz
   exact ⟨by rw [← htz]; first | (simp; done) | (simp; omega), hM.bel⟩
 ·
  have hb8' := of_decide_eq_false hb8
  refine sdo (v := .bool false) hA (qg rfl rfl (fun w => (ja w).trans (by rw [hb8]))) fun a hA => ?_
  refine sdo hA (qa rfl) fun a hA => ?_
  iterate 8 refine zg hA rfl rfl rfl fun a hA => ?_
  refine sdo (v := .bool false) hA (qj rfl rfl rfl rfl) fun a hA => ?_
  refine qe (hK7 _ _ (wp_cond_false (hA.ev rfl) ?_))
  refine wp_exit (hK2 _ _ (wsk fun K11 hK11 => wrl (sdo hA (qa rfl) fun a hA => ?_)))
  refine sdo hA (qb rfl) fun a hA => ?_
  refine qe (hK11 _ _ (wp_ret (hret _ _ (en1 hA rfl (ql rfl) ?_))))
  obtain rfl : q = 0 := by omega
  rw [List.take_zero, qyc] at htz
  exact ⟨by rw [← htz]; first | (simp; done) | (simp; omega), hM.bel⟩
theorem qkf {w : World} {so : Option Addr} {ca : Nat} {l : List UInt8} (hb : Rb w so l) (hl : l.length ≤ 140737488351232) (hca : l.length ≤ ca) : Calls Tryz.prog 45 #[.slice so l.length ca, .string ⟨#[0]⟩] w fun e w' => e = .returned (.slice so (vb l).length ca) ∧ Below w.heap.size w w' := by
 have hM : Mg w w ([]) := Mg.start w
 refine za (l := [(0, .slice so l.length ca), (1, .string (⟨#[0]⟩))]) Tryz.func45 rfl Tryz.ntmps45 rfl rfl ?_
 intro Q hret hnorm hP a hA
 refine wsk fun K1 hK1 => wrl (sdo hA (qb rfl) fun a hA => ?_)
 refine qe (hK1 _ _ (wsk fun K2 hK2 => wsk fun K3 hK3 => wrl (sdo hA (qa rfl) fun a hA => ?_)))
 refine sdo hA (zb Tryz.underlying22 rfl) fun a hA => ?_
 rcases tf ((((l.length : Nat) : Int) == 0)) with hb4 | hb4
 ·
  have hb4' := eq_of_beq hb4
  refine sdo (v := .bool true) hA (qg rfl rfl (fun w => (xt w).trans (by rw [hb4]))) fun a hA => ?_
  refine sdo hA (qa rfl) fun a hA => ?_
  iterate 2 refine zg hA rfl rfl rfl fun a hA => ?_
  refine sdo (v := .bool true) hA (qj rfl rfl rfl rfl) fun a hA => ?_
  refine qe (hK3 _ _ (wp_cond_true (hA.ev rfl) ?_))
  refine wsk fun K5 hK5 => wrl (sdo hA (qa rfl) fun a hA => ?_)
  refine sdo hA (qb rfl) fun a hA => ?_
  refine qe (hK5 _ _ (wp_ret (hret _ _ (en1 hA rfl (ql rfl) ?_))))
  obtain rfl : l = [] := List.length_eq_zero_iff.1 (by omega)
  exact ⟨rfl, hM.bel⟩
 ·
  have hb4' := ne_of_beq_false hb4
  refine sdo (v := .bool false) hA (qg rfl rfl (fun w => (xt w).trans (by rw [hb4]))) fun a hA => ?_
  iterate 2 refine sdo hA (qa rfl) fun a hA => ?_
  refine sdo (v := .bool false) hA (qg rfl rfl (fun w => by kernel_rfl)) fun a hA => ?_
  refine sdo (v := .bool false) hA (qj rfl rfl rfl rfl) fun a hA => ?_
  refine qe (hK3 _ _ (wp_cond_false (hA.ev rfl) ?_))
  refine wp_skip (hK2 _ _ (wsk fun K6 hK6 => wsk fun K7 hK7 => wrl (sdo hA (qa rfl) fun a hA => ?_)))
  refine sdo (v := .int .i64 1) hA (vz rfl (zhb Tryz.underlying9)) fun a hA => ?_
  refine sdo (v := .bool true) hA (qg rfl rfl (fun w => by kernel_rfl)) fun a hA => ?_
  iterate 2 refine sdo hA (qa rfl) fun a hA => ?_
  refine sdo (v := .int .u8 0) hA (un (s := ⟨#[0]⟩) (i := 0) Tryz.underlying9 rfl rfl rfl (by decide)) fun a hA => ?_
  refine sdo (v := .bool true) hA (qg rfl rfl (fun w => by kernel_rfl)) fun a hA => ?_
  refine sdo (v := .bool true) hA (qj rfl rfl rfl rfl) fun a hA => ?_
  refine qe (hK7 _ _ (wp_cond_true (hA.ev rfl) ?_))
  refine wsk fun K8 hK8 => wrl ?_
  iterate 2 refine sdo hA (qa rfl) fun a hA => ?_
  refine sdo (v := .int .u8 0) hA (un (s := ⟨#[0]⟩) (i := 0) Tryz.underlying9 rfl rfl rfl (by decide)) fun a hA => ?_
  refine qi hA rfl rfl rfl (qf rfl rfl (fun w => by kernel_rfl)) (qmj (hb.below hM.bel) hl hca) ?_
  rintro _ w10 ⟨rfl, hb9⟩
  replace hM := hM.call hb9
  refine ⟨_, rfl, ?_⟩
  intro a hA
  refine sdo hA (qb rfl) fun a hA => ?_
  refine qe (hK8 _ _ (wp_ret (hret _ _ (en1 hA rfl (ql rfl) ?_))))
  exact ⟨rfl, hM.bel⟩
def js (size : Int) : Bool := decide (1 ≤ size ∧ size ≤ 64)
theorem qfd {w : World} {size : Int} {bg sg : Bool} : Calls Tryz.prog 11 #[.agg #[.int .i64 size, .bool bg, .bool sg]] w fun e w' => e = .returned (.bool (js size)) ∧ Below w.heap.size w w' := by
 have hM : Mg w w ([]) := Mg.start w
 refine za (l := [(0, .agg #[.int .i64 size, .bool bg, .bool sg])]) Tryz.func11 rfl Tryz.ntmps11 rfl rfl ?_
 intro Q hret hnorm hP a hA
 refine wsk fun K1 hK1 => wrl (xr (vs := [.int .i64 size, .bool bg, .bool sg]) (t := 39) hA hM rfl rfl rfl (fun g => .pointer (some ⟨g, 0, none⟩)) (zf rfl rfl) (by decide) ?_)
 intro g2 w3 hM a hA
 refine sdo hA (qb rfl) fun a hA => ?_
 refine qe (hK1 _ _ (wsk fun K4 hK4 => wrl (sdo (v := .pointer (some ⟨g2, 0, none⟩)) hA (qh ByC_fld_39_0 rfl rfl) fun a hA => ?_)))
 refine sdo hA (zx hM ByC_is1_3 rfl 0 rfl rfl) fun a hA => ?_
 rcases tf (decide (1 ≤ size)) with hb5 | hb5
 ·
  have hb5' := of_decide_eq_true hb5
  refine sdo (v := .bool true) hA (qg rfl rfl (fun w => (ju w).trans (by rw [hb5]))) fun a hA => ?_
  refine sdo hA (qa rfl) fun a hA => ?_
  refine sdo (v := .pointer (some ⟨g2, 0, none⟩)) hA (qh ByC_fld_39_0 rfl rfl) fun a hA => ?_
  refine sdo hA (zx hM ByC_is1_3 rfl 0 rfl rfl) fun a hA => ?_
  rcases tf (decide (size ≤ 64)) with hb6 | hb6
  ·
   have hb6' := of_decide_eq_true hb6
   refine sdo (v := .bool true) hA (qg rfl rfl (fun w => (kx w).trans (by rw [hb6]))) fun a hA => ?_
   refine sdo (v := .bool true) hA (qj rfl rfl rfl rfl) fun a hA => ?_
   refine sdo hA (qb rfl) fun a hA => ?_
   refine qe (hK4 _ _ (wp_ret (hret _ _ (en1 hA rfl (ql rfl) ?_))))
   exact ⟨by rw [show js size = true from by unfold js; apply decide_eq_true; omega], hM.bel⟩
  ·
   have hb6' := of_decide_eq_false hb6
   refine sdo (v := .bool false) hA (qg rfl rfl (fun w => (kx w).trans (by rw [hb6]))) fun a hA => ?_
   refine sdo (v := .bool false) hA (qj rfl rfl rfl rfl) fun a hA => ?_
   refine sdo hA (qb rfl) fun a hA => ?_
   refine qe (hK4 _ _ (wp_ret (hret _ _ (en1 hA rfl (ql rfl) ?_))))
   exact ⟨by rw [show js size = false from by unfold js; apply decide_eq_false; omega], hM.bel⟩
 ·
  have hb5' := of_decide_eq_false hb5
  refine sdo (v := .bool false) hA (qg rfl rfl (fun w => (ju w).trans (by rw [hb5]))) fun a hA => ?_
  refine sdo hA (qa rfl) fun a hA => ?_
  iterate 3 refine zg hA rfl rfl rfl fun a hA => ?_
  refine sdo (v := .bool false) hA (qj rfl rfl rfl rfl) fun a hA => ?_
  refine sdo hA (qb rfl) fun a hA => ?_
  refine qe (hK4 _ _ (wp_ret (hret _ _ (en1 hA rfl (ql rfl) ?_))))
  exact ⟨by rw [show js size = false from by unfold js; apply decide_eq_false; omega], hM.bel⟩
end Go.Proofs.YtbhdnpbbmpemnaaGreatDoor.G
namespace Go.Proofs.YtbhdnpbbmpemnaaGreatDoor.G
open Go.RowKit
set_option linter.unusedVariables false
set_option linter.unusedSimpArgs false
set_option maxRecDepth 100000
theorem ByE_is1_5 : Is1 Tryz.prog 5 := ⟨⟨_, Tryz.underlying5, rfl⟩, by kernel_rfl⟩
/-- How far a row is turned round. -/
def Rv (l cur : List UInt8) (i : Nat) : Prop := cur.length = l.length ∧ ∀ k, k < l.length → cur.getD k 0 = if k < i ∨ l.length ≤ k + i then l.getD (l.length - 1 - k) 0 else l.getD k 0
theorem Rv.start (l : List UInt8) : Rv l l 0 := ⟨rfl, fun k hk => by rw [if_neg (by omega)]⟩
theorem qla {cur : List UInt8} {k j : Nat} {b : UInt8} (hj : j < cur.length) : (cur.set j b).getD k 0 = if k = j then b else cur.getD k 0 := by
 rw [List.getD_eq_getElem?_getD, List.getD_eq_getElem?_getD]
 by_cases h : k = j
 ·
  subst h; rw [List.getElem?_set_self hj, if_pos rfl]; rfl
 ·
  rw [List.getElem?_set_ne (fun e => h e.symm), if_neg h]
theorem Rv.step {l cur : List UInt8} {i j : Nat} (h : Rv l cur i) (hj : j + i + 1 = l.length) (hij : i < j) : Rv l ((cur.set i (cur.getD j 0)).set j (cur.getD i 0)) (i + 1) := by
 obtain ⟨h1, h2⟩ := h
 refine ⟨by rw [List.length_set, List.length_set]; exact h1, fun k hk => ?_⟩
 rw [qla (by rw [List.length_set]; omega), qla (by omega)]
 by_cases e1 : k = j
 ·
  rw [if_pos e1, if_pos (by omega), h2 i (by omega), if_neg (by omega)]
  congr 1
  omega
 ·
  rw [if_neg e1]
  by_cases e2 : k = i
  ·
   rw [if_pos e2, if_pos (by omega), h2 j (by omega), if_neg (by omega)]
   congr 1
   omega
  ·
   rw [if_neg e2, h2 k hk]
   by_cases e3 : k < i ∨ l.length ≤ k + i
   ·
    rw [if_pos e3, if_pos (by omega)]
   ·
    rw [if_neg e3, if_neg (by omega)]
theorem Rv.done {l cur : List UInt8} {i : Nat} (h : Rv l cur i) (hi : l.length ≤ 2 * i + 1) (hi2 : 2 * i ≤ l.length + 1) : cur = l.reverse := by
 obtain ⟨h1, h2⟩ := h
 refine qpf (by rw [List.length_reverse]; exact h1) (fun k hk => ?_)
 rw [h2 k (by omega)]
 have e : l.reverse.getD k 0 = l.getD (l.length - 1 - k) 0 := by
  rw [List.getD_eq_getElem?_getD, List.getD_eq_getElem?_getD, List.getElem?_reverse (by omega)]
 rw [e]
 by_cases h3 : k < i ∨ l.length ≤ k + i
 ·
  rw [if_pos h3]
 ·
  rw [if_neg h3]
  congr 1
  omega
theorem qna {l : List UInt8} {k : Nat} (h : k < l.length) : (Lib.byteCells l)[k * 1]? = some (.int .u8 (((l.getD k 0).toNat : Nat) : Int)) := by
 rw [Nat.mul_one]
 unfold Lib.byteCells
 rw [List.getElem?_map, List.getElem?_eq_getElem h, List.getD_eq_getElem?_getD, List.getElem?_eq_getElem h]
 rfl
theorem qnb {l : List UInt8} {k : Nat} {b : UInt8} : over (Lib.byteCells l) (k * 1) [.int .u8 ((b.toNat : Nat) : Int)] = Lib.byteCells (l.set k b) := by
 rw [Nat.mul_one]
 show (Lib.byteCells l).set k _ = _
 unfold Lib.byteCells
 rw [List.map_set]
theorem ky {P : Program} {w0 w : World} {L : List Ck} {l : List (Nat × Value)} {dst : Option Tmp} {ty : TypeId} {pos : String} {after : Array Edge} {guard : Option (Nat × Bool)} {v : Value} (hM : Mg w0 w L) (k : Nat) {e : TypeId} {sz g n c j : Nat} {xs : List Value} (hk : L[k]? = some (.row e sz (.slice (some ⟨g, 0, none⟩) n c) n xs)) (hj : xs[j]? = some v) {t : TypeId} (ht : Is1 P t) {x : Operand} (hx : ev l x = some (.pointer (some ⟨g, j, none⟩))) : Does P l ⟨dst, .load t x, ty, pos, after, guard⟩ w v w := zhc hM k hk hj ht hx
theorem reverse_any {w0 w : World} {gx cx : Nat} {l : List UInt8} {X : List Ck} (hnX : yt X) (hl : l.length ≤ 140737488351232) (hM0 : Mg w0 w (.row BY 1 (.slice (some ⟨gx, 0, none⟩) l.length cx) l.length (Lib.byteCells l) :: X)) : Calls Tryz.prog 44 #[.slice (some ⟨gx, 0, none⟩) l.length cx] w fun e w' => e = .returned (.tuple #[]) ∧ Mg w0 w' (.row BY 1 (.slice (some ⟨gx, 0, none⟩) l.length cx) l.length (Lib.byteCells l.reverse) :: X) := by
 have hM : Mg w0 w (.row BY 1 (.slice (some ⟨gx, 0, none⟩) l.length cx) l.length ((Lib.byteCells l)) :: X) := hM0
 refine za (l := [(0, .slice (some ⟨gx, 0, none⟩) l.length cx)]) Tryz.func44 rfl Tryz.ntmps44 rfl rfl ?_
 intro Q hret hnorm hP a hA
 refine wsk fun K1 hK1 => wrl (sdo hA (qa rfl) fun a hA => ?_)
 refine sdo hA (zb Tryz.underlying22 rfl) fun a hA => ?_
 refine sdo (v := .int .i64 (((l.length : Nat) : Int) - 1)) hA (qg rfl rfl (ar_sub (in_i64 (by omega) (by omega)))) fun a hA => ?_
 iterate 2 refine sdo hA (qb rfl) fun a hA => ?_
 refine qe (hK1 _ _ (wp_block (jb (fun m_ a w1 => ∃ (i : Nat) (cur : List UInt8) (z : Int), m_ = l.length - i ∧ (Rv l cur i ∧ z = ((l.length : Nat) : Int) - 1 - ((i : Nat) : Int) ∧ 2 * i ≤ l.length + 1 ∧ i ≤ l.length) ∧ Sl a 28 [(0, .slice (some ⟨gx, 0, none⟩) l.length cx), (2, .int .i64 (((i : Nat) : Int))), (3, .int .i64 z), (4, .slice (some ⟨gx, 0, none⟩) l.length cx), (5, .int .i64 (((l.length : Nat) : Int))), (6, .int .i64 (((l.length : Nat) : Int) - 1))] ∧ Mg w0 w1 (.row BY 1 (.slice (some ⟨gx, 0, none⟩) l.length cx) l.length ((Lib.byteCells cur)) :: X)) _ ⟨0, l, (((l.length : Nat) : Int) - 1), rfl, ⟨Rv.start l, by omega, by omega, by omega⟩, hA.keep _ ⟨rfl, rfl, rfl, rfl, rfl, rfl, trivial⟩, hM⟩ ?_)))
 clear hM hA
 rintro m_ a w2 ⟨i, cur, z, rfl, hinv4, hA, hM⟩ K3 hK3
 obtain ⟨hrv, hz, hi2, hi3⟩ := hinv4
 refine wsk fun K5 hK5 => wsk fun K6 hK6 => wrl ?_
 iterate 2 refine sdo hA (qa rfl) fun a hA => ?_
 rcases tf (decide (((i : Nat) : Int) < z)) with hb7 | hb7
 ·
  have hb7' := of_decide_eq_true hb7
  refine sdo (v := .bool true) hA (qg rfl rfl (fun w => (zi w).trans (by rw [hb7]))) fun a hA => ?_
  refine qe (hK6 _ _ (wp_cond_true (hA.ev rfl) ?_))
  refine wp_skip (hK5 _ _ (wsk fun K8 hK8 => wp_block ?_))
  obtain ⟨jn, hjn⟩ : ∃ jn : Nat, z = ((jn : Nat) : Int) := ⟨z.toNat, by omega⟩
  have hcl := hrv.1
  refine je (S := fun w1 => Mg w0 w1 ([])) (by kernel_rfl) ?_
  replace hM := hM.drew
  refine qk hA 0 rfl rfl rfl rfl hP (hM.sub (.cons _ (List.nil_sublist _))) (fun w1 hM => qa rfl) fun a hA => ?_
  refine qk hA 1 rfl rfl rfl rfl hP (hM.sub (.cons _ (List.nil_sublist _))) (fun w1 hM => qa rfl) fun a hA => ?_
  refine qk hA 2 rfl rfl rfl rfl hP (hM.sub (.cons _ (List.nil_sublist _))) (fun w1 hM => qa rfl) fun a hA => ?_
  refine qk hA 3 rfl rfl rfl rfl hP (hM.sub (.cons _ (List.nil_sublist _))) (fun w1 hM => qa rfl) fun a hA => ?_
  refine qk hA 4 rfl rfl rfl rfl hP (hM.sub (.cons _ (List.nil_sublist _))) (fun w1 hM => qa rfl) fun a hA => ?_
  refine qk hA 5 rfl rfl rfl rfl hP (hM.sub (.cons _ (List.nil_sublist _))) (fun w1 hM => qa rfl) fun a hA => ?_
  refine qk (v := .pointer (some ⟨gx, jn * 1, none⟩)) hA 6 rfl rfl rfl rfl hP (hM.sub (.cons _ (List.nil_sublist _))) (fun w1 hM => jd Tryz.underlying22 (by kernel_rfl) rfl rfl hjn (show jn < l.length by omega)) fun a hA => ?_
  refine qk hA 8 rfl rfl rfl rfl hP (hM.sub (.cons _ (List.nil_sublist _))) (fun w1 hM => qa rfl) fun a hA => ?_
  refine qk hA 9 rfl rfl rfl rfl hP (hM.sub (.cons _ (List.nil_sublist _))) (fun w1 hM => qa rfl) fun a hA => ?_
  refine qk (v := .pointer (some ⟨gx, i * 1, none⟩)) hA 10 rfl rfl rfl rfl hP (hM.sub (.cons _ (List.nil_sublist _))) (fun w1 hM => jd Tryz.underlying22 (by kernel_rfl) rfl rfl rfl (show i < l.length by omega)) fun a hA => ?_
  refine xj (rs := [7, 11]) (by kernel_rfl) (by simp) ⟨?_, ?_, trivial⟩
  ·
   refine qbc (v := .int .u8 ((((cur.getD jn 0).toNat : Nat) : Int))) hA 7 rfl rfl rfl rfl (ky hM 0 rfl (qna (show jn < cur.length by omega)) ByE_is1_5 rfl) (hM.sub (.cons _ (List.nil_sublist _))) fun a hA => ?_
   refine qt (by kernel_rfl) (qbc (v := .int .u8 ((((cur.getD i 0).toNat : Nat) : Int))) hA 11 rfl rfl rfl rfl (ky hM 0 rfl (qna (show i < cur.length by omega)) ByE_is1_5 rfl) (hM.sub (.cons _ (List.nil_sublist _))) ?_)
   intro a hA
   refine qk (v := .pointer (some ⟨gx, i * 1, none⟩)) hA 12 rfl rfl rfl rfl hP (hM.sub (.cons _ (List.nil_sublist _))) (fun w1 hM => jd Tryz.underlying22 (by kernel_rfl) rfl rfl rfl (show i < l.length by omega)) fun a hA => ?_
   refine qt (by kernel_rfl) (uq (cs := [.int .u8 ((((cur.getD jn 0).toNat : Nat) : Int))]) (L' := (.row BY 1 (.slice (some ⟨gx, 0, none⟩) l.length cx) l.length ((over (Lib.byteCells cur) (i * 1) [.int .u8 ((((cur.getD jn 0).toNat : Nat) : Int))])) :: X)) (us := []) hA hM 13 rfl rfl rfl (jo rfl rfl rfl (by kernel_rfl) hM 0 rfl (show i * 1 + 1 ≤ l.length * 1 by omega) rfl) 0 rfl rfl ?_)
   intro w9 hM
   replace hM : Mg w0 w9 (.row BY 1 (.slice (some ⟨gx, 0, none⟩) l.length cx) l.length ((Lib.byteCells (cur.set i (cur.getD jn 0)))) :: X) := by
    have h9 := hM
    rw [qnb] at h9
    exact h9
   refine ⟨(hM.sub (.cons _ (List.nil_sublist _))), ?_⟩
   refine qk (v := .pointer (some ⟨gx, jn * 1, none⟩)) hA 14 rfl rfl rfl rfl hP (hM.sub (.cons _ (List.nil_sublist _))) (fun w1 hM => jd Tryz.underlying22 (by kernel_rfl) rfl rfl hjn (show jn < l.length by omega)) fun a hA => ?_
   refine qt (by kernel_rfl) (uq (cs := [.int .u8 ((((cur.getD i 0).toNat : Nat) : Int))]) (L' := (.row BY 1 (.slice (some ⟨gx, 0, none⟩) l.length cx) l.length ((over (Lib.byteCells (cur.set i (cur.getD jn 0))) (jn * 1) [.int .u8 ((((cur.getD i 0).toNat : Nat) : Int))])) :: X)) (us := []) hA hM 15 rfl rfl rfl (jo rfl rfl rfl (by kernel_rfl) hM 0 rfl (show jn * 1 + 1 ≤ l.length * 1 by omega) rfl) 0 rfl rfl ?_)
   intro w10 hM
   replace hM : Mg w0 w10 (.row BY 1 (.slice (some ⟨gx, 0, none⟩) l.length cx) l.length ((Lib.byteCells ((cur.set i (cur.getD jn 0)).set jn (cur.getD i 0)))) :: X) := by
    have h9 := hM
    rw [qnb] at h9
    exact h9
   refine ⟨(hM.sub (.cons _ (List.nil_sublist _))), ?_⟩
   refine zn (by kernel_rfl) ?_
   refine hK8 _ _ (wrl (sdo hA (qa rfl) fun a hA => ?_))
   refine sdo (v := .int .i64 (((i + 1 : Nat) : Int))) hA (qg rfl rfl (ar_add ((in_i64 (by omega) (by omega)).trans (by omega)))) fun a hA => ?_
   refine sdo hA (qa rfl) fun a hA => ?_
   refine sdo (v := .int .i64 (z - 1)) hA (qg rfl rfl (ar_sub (in_i64 (by omega) (by omega)))) fun a hA => ?_
   iterate 2 refine sdo hA (qb rfl) fun a hA => ?_
   refine qe ?_
   refine hK3 _ _ _ (by omega) ⟨i + 1, (cur.set i (cur.getD jn 0)).set jn (cur.getD i 0), z - 1, rfl, ⟨hrv.step (j := jn) (by omega) (by omega), by omega, by omega, by omega⟩, hA.keep _ ⟨rfl, rfl, rfl, rfl, rfl, rfl, trivial⟩, hM⟩
  ·
   refine qbc (v := .int .u8 ((((cur.getD i 0).toNat : Nat) : Int))) hA 11 rfl rfl rfl rfl (ky hM 0 rfl (qna (show i < cur.length by omega)) ByE_is1_5 rfl) (hM.sub (.cons _ (List.nil_sublist _))) fun a hA => ?_
   refine qt (by kernel_rfl) (qbc (v := .int .u8 ((((cur.getD jn 0).toNat : Nat) : Int))) hA 7 rfl rfl rfl rfl (ky hM 0 rfl (qna (show jn < cur.length by omega)) ByE_is1_5 rfl) (hM.sub (.cons _ (List.nil_sublist _))) ?_)
   intro a hA
   refine qk (v := .pointer (some ⟨gx, i * 1, none⟩)) hA 12 rfl rfl rfl rfl hP (hM.sub (.cons _ (List.nil_sublist _))) (fun w1 hM => jd Tryz.underlying22 (by kernel_rfl) rfl rfl rfl (show i < l.length by omega)) fun a hA => ?_
   refine qt (by kernel_rfl) (uq (cs := [.int .u8 ((((cur.getD jn 0).toNat : Nat) : Int))]) (L' := (.row BY 1 (.slice (some ⟨gx, 0, none⟩) l.length cx) l.length ((over (Lib.byteCells cur) (i * 1) [.int .u8 ((((cur.getD jn 0).toNat : Nat) : Int))])) :: X)) (us := []) hA hM 13 rfl rfl rfl (jo rfl rfl rfl (by kernel_rfl) hM 0 rfl (show i * 1 + 1 ≤ l.length * 1 by omega) rfl) 0 rfl rfl ?_)
   intro w11 hM
   replace hM : Mg w0 w11 (.row BY 1 (.slice (some ⟨gx, 0, none⟩) l.length cx) l.length ((Lib.byteCells (cur.set i (cur.getD jn 0)))) :: X) := by
    have h9 := hM
    rw [qnb] at h9
    exact h9
   refine ⟨(hM.sub (.cons _ (List.nil_sublist _))), ?_⟩
   refine qk (v := .pointer (some ⟨gx, jn * 1, none⟩)) hA 14 rfl rfl rfl rfl hP (hM.sub (.cons _ (List.nil_sublist _))) (fun w1 hM => jd Tryz.underlying22 (by kernel_rfl) rfl rfl hjn (show jn < l.length by omega)) fun a hA => ?_
   refine qt (by kernel_rfl) (uq (cs := [.int .u8 ((((cur.getD i 0).toNat : Nat) : Int))]) (L' := (.row BY 1 (.slice (some ⟨gx, 0, none⟩) l.length cx) l.length ((over (Lib.byteCells (cur.set i (cur.getD jn 0))) (jn * 1) [.int .u8 ((((cur.getD i 0).toNat : Nat) : Int))])) :: X)) (us := []) hA hM 15 rfl rfl rfl (jo rfl rfl rfl (by kernel_rfl) hM 0 rfl (show jn * 1 + 1 ≤ l.length * 1 by omega) rfl) 0 rfl rfl ?_)
   intro w12 hM
   replace hM : Mg w0 w12 (.row BY 1 (.slice (some ⟨gx, 0, none⟩) l.length cx) l.length ((Lib.byteCells ((cur.set i (cur.getD jn 0)).set jn (cur.getD i 0)))) :: X) := by
    have h9 := hM
    rw [qnb] at h9
    exact h9
   refine ⟨(hM.sub (.cons _ (List.nil_sublist _))), ?_⟩
   refine zn (by kernel_rfl) ?_
   refine hK8 _ _ (wrl (sdo hA (qa rfl) fun a hA => ?_))
   refine sdo (v := .int .i64 (((i + 1 : Nat) : Int))) hA (qg rfl rfl (ar_add ((in_i64 (by omega) (by omega)).trans (by omega)))) fun a hA => ?_
   refine sdo hA (qa rfl) fun a hA => ?_
   refine sdo (v := .int .i64 (z - 1)) hA (qg rfl rfl (ar_sub (in_i64 (by omega) (by omega)))) fun a hA => ?_
   iterate 2 refine sdo hA (qb rfl) fun a hA => ?_
   refine qe ?_
   refine hK3 _ _ _ (by omega) ⟨i + 1, (cur.set i (cur.getD jn 0)).set jn (cur.getD i 0), z - 1, rfl, ⟨hrv.step (j := jn) (by omega) (by omega), by omega, by omega, by omega⟩, hA.keep _ ⟨rfl, rfl, rfl, rfl, rfl, rfl, trivial⟩, hM⟩
 ·
  have hb7' := of_decide_eq_false hb7
  refine sdo (v := .bool false) hA (qg rfl rfl (fun w => (zi w).trans (by rw [hb7]))) fun a hA => ?_
  refine qe (hK6 _ _ (wp_cond_false (hA.ev rfl) ?_))
  refine wp_exit (hnorm _ _ (qmg (v := .tuple #[]) hA rfl .nil rfl ?_))
  rw [← hrv.done (by omega) (by omega)]
  exact ⟨rfl, hM⟩
end Go.Proofs.YtbhdnpbbmpemnaaGreatDoor.G
namespace Go.Proofs.YtbhdnpbbmpemnaaGreatDoor.G
open Go.RowKit
set_option linter.unusedVariables false
set_option linter.unusedSimpArgs false
set_option maxRecDepth 100000
theorem ByF_is1_3 : Is1 Tryz.prog 3 := ⟨⟨_, Tryz.underlying3, rfl⟩, by kernel_rfl⟩
theorem ByF_is1_4 : Is1 Tryz.prog 4 := ⟨⟨_, Tryz.underlying4, rfl⟩, by kernel_rfl⟩
theorem ByF_fld_39_0 : FieldAt Tryz.prog 39 0 0 := ⟨_, _, Tryz.underlying39, rfl, rfl, by kernel_rfl⟩
theorem ByF_fld_39_1 : FieldAt Tryz.prog 39 1 1 := ⟨_, _, Tryz.underlying39, rfl, rfl, by kernel_rfl⟩
theorem ye {w : World} {sp : Option Addr} {cp : Nat} {p : List UInt8} {sg : Bool} (hp : Rb w sp p) (hl : p.length ≤ 140737488351232) : Calls Tryz.prog 20 #[.agg #[.int .i64 ((p.length : Nat) : Int), .bool true, .bool sg], .slice sp p.length cp] w fun e w' => ∃ g, e = .returned (.slice (some ⟨g, 0, none⟩) p.length p.length) ∧ Mg w w' [.row BY 1 (.slice (some ⟨g, 0, none⟩) p.length p.length) p.length (Lib.byteCells p.reverse)] := by
 have hM : Mg w w ([]) := Mg.start w
 refine za (l := [(0, .agg #[.int .i64 (((p.length : Nat) : Int)), .bool true, .bool sg]), (1, .slice sp p.length cp)]) Tryz.func20 rfl Tryz.ntmps20 rfl rfl ?_
 intro Q hret hnorm hP a hA
 refine wsk fun K1 hK1 => wrl (xr (vs := [.int .i64 (((p.length : Nat) : Int)), .bool true, .bool sg]) (t := 39) hA hM rfl rfl rfl (fun g => .pointer (some ⟨g, 0, none⟩)) (zf rfl rfl) (by decide) ?_)
 intro g2 w3 hM a hA
 refine sdo hA (qb rfl) fun a hA => ?_
 refine qe (hK1 _ _ (wsk fun K4 hK4 => wrl (sdo (v := .pointer (some ⟨g2, 0, none⟩)) hA (qh ByF_fld_39_0 rfl rfl) fun a hA => ?_)))
 refine sdo hA (zx hM ByF_is1_3 rfl 0 rfl rfl) fun a hA => ?_
 refine qgf (z := .int .u8 0) (sz := 1) (by_ := 1) (m := p.length) hA hM Tryz.underlying22 (by kernel_rfl) rfl rfl rfl rfl rfl rfl (by omega) (by omega) (.inr (qn (by simp) (qy zd))) ?_
 intro gx w5 hM a hA
 obtain ⟨mz, hmz⟩ : ∃ mz, (madeCells (.int .u8 0 : Value).cells (p.length * 1)).toList = mz := ⟨_, rfl⟩
 rw [hmz] at hM
 have hml : mz.length = p.length := by rw [← hmz, Array.length_toList, size_madeCells, Nat.mul_one]
 refine sdo hA (qb rfl) fun a hA => ?_
 refine qe (hK4 _ _ (wsk fun K6 hK6 => wrl ?_))
 iterate 2 refine sdo hA (qa rfl) fun a hA => ?_
 refine qmh (v := .int .i64 (((p.length : Nat) : Int))) (cs := Lib.byteCells p) (L' := (.row BY 1 (.slice (some ⟨gx, 0, none⟩) p.length p.length) p.length ((over mz 0 (Lib.byteCells p))) :: .obj g2 (.cells #[.int .i64 (((p.length : Nat) : Int)), .bool true, .bool sg] 39) :: [])) hA hM rfl rfl rfl (qmi Tryz.underlying22 (by kernel_rfl) hM 0 rfl rfl (hp.below hM.bel) rfl (by omega) (by omega)) 0 rfl rfl ?_
 intro w7 hM a hA
 replace hM : Mg w w7 (.row BY 1 (.slice (some ⟨gx, 0, none⟩) p.length p.length) p.length ((Lib.byteCells p)) :: .obj g2 (.cells #[.int .i64 (((p.length : Nat) : Int)), .bool true, .bool sg] 39) :: []) := by
  have h9 := hM
  rw [qpe hml] at h9
  exact h9
 refine qe (hK6 _ _ (wsk fun K8 hK8 => wsk fun K9 hK9 => wrl (sdo (v := .pointer (some ⟨g2, 1, none⟩)) hA (qh ByF_fld_39_1 rfl rfl) fun a hA => ?_)))
 refine sdo hA (zx hM ByF_is1_4 rfl 1 rfl rfl) fun a hA => ?_
 refine qe (hK9 _ _ (wp_cond_true (hA.ev rfl) ?_))
 refine wrl (sdo hA (qa rfl) fun a hA => ?_)
 refine qi hA rfl rfl rfl (qf rfl rfl (fun w => by kernel_rfl)) (reverse_any (qn (by simp) (qy zd)) hl hM) ?_
 rintro _ w11 ⟨rfl, hM10⟩
 replace hM : Mg w w11 (.row BY 1 (.slice (some ⟨gx, 0, none⟩) p.length p.length) p.length ((Lib.byteCells p.reverse)) :: .obj g2 (.cells #[.int .i64 (((p.length : Nat) : Int)), .bool true, .bool sg] 39) :: []) := hM10
 refine ⟨_, rfl, ?_⟩
 intro a hA
 refine qe (hK8 _ _ (wsk fun K12 hK12 => wrl (sdo hA (qa rfl) fun a hA => ?_)))
 refine sdo hA (qb rfl) fun a hA => ?_
 refine qe (hK12 _ _ (wp_ret (hret _ _ (en1 hA rfl (ql rfl) ?_))))
 exact ⟨gx, rfl, hM.sub (.cons_cons _ (.cons _ (.refl _)))⟩
theorem kt {w : World} {sp : Option Addr} {cp : Nat} {p : List UInt8} {sg : Bool} (hp : Rb w sp p) (hl : p.length ≤ 140737488351232) : Calls Tryz.prog 20 #[.agg #[.int .i64 ((p.length : Nat) : Int), .bool false, .bool sg], .slice sp p.length cp] w fun e w' => ∃ g, e = .returned (.slice (some ⟨g, 0, none⟩) p.length p.length) ∧ Mg w w' [.row BY 1 (.slice (some ⟨g, 0, none⟩) p.length p.length) p.length (Lib.byteCells p)] := by
 have hM : Mg w w ([]) := Mg.start w
 refine za (l := [(0, .agg #[.int .i64 (((p.length : Nat) : Int)), .bool false, .bool sg]), (1, .slice sp p.length cp)]) Tryz.func20 rfl Tryz.ntmps20 rfl rfl ?_
 intro Q hret hnorm hP a hA
 refine wsk fun K1 hK1 => wrl (xr (vs := [.int .i64 (((p.length : Nat) : Int)), .bool false, .bool sg]) (t := 39) hA hM rfl rfl rfl (fun g => .pointer (some ⟨g, 0, none⟩)) (zf rfl rfl) (by decide) ?_)
 intro g2 w3 hM a hA
 refine sdo hA (qb rfl) fun a hA => ?_
 refine qe (hK1 _ _ (wsk fun K4 hK4 => wrl (sdo (v := .pointer (some ⟨g2, 0, none⟩)) hA (qh ByF_fld_39_0 rfl rfl) fun a hA => ?_)))
 refine sdo hA (zx hM ByF_is1_3 rfl 0 rfl rfl) fun a hA => ?_
 refine qgf (z := .int .u8 0) (sz := 1) (by_ := 1) (m := p.length) hA hM Tryz.underlying22 (by kernel_rfl) rfl rfl rfl rfl rfl rfl (by omega) (by omega) (.inr (qn (by simp) (qy zd))) ?_
 intro gx w5 hM a hA
 obtain ⟨mz, hmz⟩ : ∃ mz, (madeCells (.int .u8 0 : Value).cells (p.length * 1)).toList = mz := ⟨_, rfl⟩
 rw [hmz] at hM
 have hml : mz.length = p.length := by rw [← hmz, Array.length_toList, size_madeCells, Nat.mul_one]
 refine sdo hA (qb rfl) fun a hA => ?_
 refine qe (hK4 _ _ (wsk fun K6 hK6 => wrl ?_))
 iterate 2 refine sdo hA (qa rfl) fun a hA => ?_
 refine qmh (v := .int .i64 (((p.length : Nat) : Int))) (cs := Lib.byteCells p) (L' := (.row BY 1 (.slice (some ⟨gx, 0, none⟩) p.length p.length) p.length ((over mz 0 (Lib.byteCells p))) :: .obj g2 (.cells #[.int .i64 (((p.length : Nat) : Int)), .bool false, .bool sg] 39) :: [])) hA hM rfl rfl rfl (qmi Tryz.underlying22 (by kernel_rfl) hM 0 rfl rfl (hp.below hM.bel) rfl (by omega) (by omega)) 0 rfl rfl ?_
 intro w7 hM a hA
 replace hM : Mg w w7 (.row BY 1 (.slice (some ⟨gx, 0, none⟩) p.length p.length) p.length ((Lib.byteCells p)) :: .obj g2 (.cells #[.int .i64 (((p.length : Nat) : Int)), .bool false, .bool sg] 39) :: []) := by
  have h9 := hM
  rw [qpe hml] at h9
  exact h9
 refine qe (hK6 _ _ (wsk fun K8 hK8 => wsk fun K9 hK9 => wrl (sdo (v := .pointer (some ⟨g2, 1, none⟩)) hA (qh ByF_fld_39_1 rfl rfl) fun a hA => ?_)))
 refine sdo hA (zx hM ByF_is1_4 rfl 1 rfl rfl) fun a hA => ?_
 refine qe (hK9 _ _ (wp_cond_false (hA.ev rfl) ?_))
 refine wp_skip (hK8 _ _ (wsk fun K10 hK10 => wrl (sdo hA (qa rfl) fun a hA => ?_)))
 refine sdo hA (qb rfl) fun a hA => ?_
 refine qe (hK10 _ _ (wp_ret (hret _ _ (en1 hA rfl (ql rfl) ?_))))
 exact ⟨gx, rfl, hM.sub (.cons_cons _ (.cons _ (.refl _)))⟩
end Go.Proofs.YtbhdnpbbmpemnaaGreatDoor.G
