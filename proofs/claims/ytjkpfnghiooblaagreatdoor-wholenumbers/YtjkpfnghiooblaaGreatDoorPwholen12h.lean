/- Rows of elements of some cells: stored into, cut, made, copied, appended to; texts compared. Bytes copied into rows of the call's own, and parts of rows of bytes. Walks of what bytevec copies. The walk of SameBytes. Walks of what a number is read by: zeros cut off. Walks of bytes the other way round. The walk of a copy of bytes, turned round or not. -/
import Derived.Test.YtjkpfnghiooblaaGreatDoorPwholen12g
import Derived.Lib.AppendZerosOnto
import Derived.Lib.Bytealg
import Derived.Laws.OwnMore
import Derived.Laws.Strings
import Derived.Test.YtjkpfnghiooblaaGreatDoorProg
namespace Go.Proofs.YtjkpfnghiooblaaGreatDoor.G
open Go.RowKit Go.Lib
set_option linter.unusedVariables false
set_option linter.unusedSimpArgs false
section
variable {w0 w : World} {L : List Ck} {e : TypeId} {sz g n cap : Nat} {xs : List Value}
theorem Mg.rowPut (h : Mg w0 w L) (k : Nat) (hk : L[k]? = some (.row e sz (.slice (some ⟨g, 0, none⟩) n cap) n xs)) (j : Nat) (u : Value) : Mg w0 (w.setCell ⟨g, j, none⟩ u) (L.set k (.row e sz (.slice (some ⟨g, 0, none⟩) n cap) n (xs.set j u))) := by
  have hs := World.ownsRow.stored (show w.ownsRow w0.heap.size e sz (.slice (some ⟨g, 0, none⟩) n cap) n xs from h.has k hk) j u
  exact h.turn k hk (by simp) hs.2 hs.1 (fun d _ ha => by cases d <;> exact ha)
theorem Mg.rowPuts : ∀ (cs : List Value) (w : World) (L : List Ck) (xs : List Value) (o : Nat), Mg w0 w L → ∀ k, L[k]? = some (.row e sz (.slice (some ⟨g, 0, none⟩) n cap) n xs) → Mg w0 (w.setCells g o cs) (L.set k (.row e sz (.slice (some ⟨g, 0, none⟩) n cap) n (over xs o cs)))
  | [], w, L, xs, o, h, k, hk => by
    rw [show L.set k (.row e sz (.slice (some ⟨g, 0, none⟩) n cap) n (over xs o [])) = L from zta hk]
    exact h
  | c :: cs, w, L, xs, o, h, k, hk => by
    have h1 := h.rowPut k hk o c
    have hk1 : (L.set k (.row e sz (.slice (some ⟨g, 0, none⟩) n cap) n (xs.set o c)))[k]? = some (.row e sz (.slice (some ⟨g, 0, none⟩) n cap) n (xs.set o c)) := List.getElem?_set_self (List.getElem?_eq_some_iff.1 hk).1
    have h2 := Mg.rowPuts cs _ _ (xs.set o c) (o + 1) h1 k hk1
    rw [List.set_set] at h2
    exact h2
/-- Fewer of a row's elements. -/
theorem Mg.rowCut (h : Mg w0 w L) (k : Nat) (hk : L[k]? = some (.row e sz (.slice (some ⟨g, 0, none⟩) n cap) n xs)) {m : Nat} (hm : m ≤ n) : Mg w0 w (L.set k (.row e sz (.slice (some ⟨g, 0, none⟩) m cap) m (xs.take (m * sz)))) := by
  have hr := h.has k hk
  refine ⟨h.bel, fun d hd => ?_, zig h.dis hk (fun d _ ha => by cases d <;> exact ha)⟩
  rcases zih h.dis hk hd with rfl | ⟨hd, _⟩
  · have hml : m * sz ≤ n * sz := Nat.mul_le_mul_right _ hm
    refine ⟨by rw [List.length_take, hr.1]; omega, ?_⟩
    rcases hr.2 with ⟨he, _⟩ | ⟨g', cap', cur, he, a, b, c, d, f, ht⟩
    · cases he
    · cases he
      exact .inr ⟨g, cap, cur, rfl, a, b, by omega, d, f, by rw [← ht, List.take_take, Nat.min_eq_left hml]⟩
  · exact h.all d hd
theorem zij : ∀ (cs : List Value) (xs : List Value) (o i : Nat), o + cs.length ≤ xs.length → (over xs o cs)[i]? = if o ≤ i ∧ i < o + cs.length then cs[i - o]? else xs[i]?
  | [], xs, o, i, _ => by
    show xs[i]? = _
    rw [if_neg (by simp only [List.length_nil]; omega)]
  | c :: cs, xs, o, i, h => by
    rw [List.length_cons] at h
    show (over (xs.set o c) (o + 1) cs)[i]? = _
    rw [zij cs (xs.set o c) (o + 1) i (by rw [List.length_set]; omega)]
    by_cases h1 : o + 1 ≤ i ∧ i < o + 1 + cs.length
    · rw [if_pos h1, if_pos (by rw [List.length_cons]; omega), show i - o = (i - (o + 1)) + 1 from by omega, List.getElem?_cons_succ]
    · rw [if_neg h1]
      by_cases h2 : o = i
      · subst h2
        rw [List.getElem?_set_self (by omega), if_pos (by rw [List.length_cons]; omega), Nat.sub_self, List.getElem?_cons_zero]
      · rw [List.getElem?_set_ne h2, if_neg (by rw [List.length_cons]; omega)]
theorem zja {xs cs : List Value} {o : Nat} (h : o + cs.length ≤ xs.length) : over xs o cs = xs.take o ++ cs ++ xs.drop (o + cs.length) := by
  apply List.ext_getElem?
  intro i
  rw [zij cs xs o i h]
  by_cases h1 : i < o
  · rw [if_neg (by omega), List.append_assoc, List.getElem?_append_left (by rw [List.length_take]; omega), List.getElem?_take_of_lt h1]
  · rw [List.append_assoc, List.getElem?_append_right (by rw [List.length_take]; omega), List.length_take, Nat.min_eq_left (by omega)]
    by_cases h2 : i < o + cs.length
    · rw [if_pos ⟨by omega, h2⟩, List.getElem?_append_left (by omega)]
    · rw [if_neg (by omega), List.getElem?_append_right (by omega), List.getElem?_drop]
      congr 1
      omega
end
section
variable {P : Program} {w0 w : World} {L : List Ck} {l : List (Nat × Value)} {dst : Option Tmp} {ty : TypeId} {pos : String} {after : Array Edge} {guard : Option (Nat × Bool)} {v : Value}
theorem kt {t : TypeId} {x y : Operand} {g o : Nat} {u : Value} {cs : List Value} (hx : ev l x = some (.pointer (some ⟨g, o, none⟩))) (hy : ev l y = some u) (hc : u.cells = cs.toArray) (hn : (P.info? t).map (·.size) = some cs.length)
    (hM : Mg w0 w L) (k : Nat) {e : TypeId} {sz n cap : Nat} {xs : List Value} (hk : L[k]? = some (.row e sz (.slice (some ⟨g, 0, none⟩) n cap) n xs)) (hl : o + cs.length ≤ n * sz) (h1 : cs.all Value.oneCell' = true) : Sets P l ⟨dst, .store t x y, ty, pos, after, guard⟩ w (w.setCells g o cs) := fun ρ h => by
  obtain ⟨i, hi, hsz⟩ := jq hn
  have hr : w.ownsRow w0.heap.size e sz (.slice (some ⟨g, 0, none⟩) n cap) n xs := hM.has k hk
  have hxl : xs.length = n * sz := hr.1
  have h2 : (sizeOf t).run P w = .ok cs.length w := by simp [sizeOf, typeInfo, hi, hsz]
  have h3 := run_storeCells_cells (P := P) g o cs 0 w (fun j hj => by
      rw [World.ownsRow.cellAt hr (o + 0 + j) (by omega), List.getElem?_eq_getElem (by omega)]; rfl) (fun j hj => World.ownsRow.frozenAt hr _) (fun v hv => List.all_eq_true.1 h1 v hv)
  rw [Nat.add_zero] at h3
  have h4 : u.cells.toList = cs := by rw [hc]
  simp only [execOp, h x _ hx, h y _ hy, Instr.storeAt, Instr.sureAddr, Sem.run_bind, Sem.run_pure, Result.andThen_ok, storeVar, h2, hc, List.size_toArray, ne_eq, not_true_eq_false, if_false, List.toList_toArray, h3]
theorem ki (hM : Mg w0 w L) {c : Tmp} {t : TypeId} {m : Nat} (ht : IsS P t m) {g o : Nat} (hx : xz l c = some (.pointer (some ⟨g, o, none⟩))) (k : Nat) {vs cs : List Value} {e : TypeId} (hk : L[k]? = some (.obj g (.cells vs.toArray e))) (hcs : (vs.drop o).take m = cs) (hl : cs.length = m) : vl P l w (.cell c t) (.agg cs.toArray) :=
  ⟨_, hx, yl ht cs hl (fun j v hj => hM.cell k hk (o + j) (by
    have hjn : j < m := by rw [← hl]; exact (List.getElem?_eq_some_iff.1 hj).1
    rw [← hcs, List.getElem?_take, if_pos hjn, List.getElem?_drop] at hj
    exact hj))⟩
/-! Parts of slices. -/
def qib (so : Option Addr) (cap lo : Nat) : Option Addr := if cap = lo then so else so.map (·.add lo)
theorem zmf {t e : TypeId} (ht : P.underlying t = some (.slice e)) (he : (P.info? e).map (·.size) = some 1) {x y : Operand} {so : Option Addr} {n cap lo : Nat} {z : Int} (hx : ev l x = some (.slice so n cap)) (hy : ev l y = some (.int .i64 z)) (hz : z = ((lo : Nat) : Int)) (hp : lo ≤ n) : Does P l ⟨dst, .slice t x (some y) none none, ty, pos, after, guard⟩ w (.slice (qib so cap lo) (n - lo) (cap - lo)) w := fun ρ h => by
  subst hz
  obtain ⟨i, hi, hs⟩ := jq he
  have h2 : (sizeOf e).run P w = .ok 1 w := by simp [sizeOf, typeInfo, hi, hs]
  have h1 : (0 : Int) ≤ (lo : Nat) ∧ ((lo : Nat) : Int) ≤ (n : Int) := ⟨by omega, by omega⟩
  simp [execOp, h x _ hx, h y _ hy, Instr.sliceAt, Instr.slice, Instr.sliceBounds, Instr.sliceBound, asIntOf, run_underlying ht, h1, h2, qib]
  try (intro hc; omega)
theorem Rb.drop {w : World} {so : Option Addr} {l : List UInt8} (h : Rb w so l) (cap lo : Nat) (hc : l.length ≤ cap) : Rb w (qib so cap lo) (l.drop lo) := by
  refine ⟨fun hne => ?_⟩
  have hlo : lo < l.length := by
    apply Classical.byContradiction
    intro k
    exact hne (List.drop_eq_nil_of_le (by omega))
  obtain ⟨b, off, rfl, h2, h3⟩ := h.pos (fun k => by rw [k] at hlo; exact absurd hlo (Nat.not_lt_zero _))
  unfold qib
  rw [if_neg (by omega)]
  refine ⟨b, off + lo, by simp [xn], h2, fun j hj => ?_⟩
  rw [List.length_drop] at hj
  rw [Nat.add_assoc, h3 (lo + j) (by omega), List.getD_eq_getElem?_getD, List.getD_eq_getElem?_getD, List.getElem?_drop]
theorem qfb {t e : TypeId} {sz : Nat} (ht : P.underlying t = some (.slice e)) (he : (P.info? e).map (·.size) = some sz) {x y : Operand} {so : Option Addr} {n cap hi : Nat} {z : Int} (hx : ev l x = some (.slice so n cap)) (hy : ev l y = some (.int .i64 z)) (hz : z = ((hi : Nat) : Int)) (hp : hi ≤ cap) : Does P l ⟨dst, .slice t x none (some y) none, ty, pos, after, guard⟩ w (.slice so hi cap) w := fun ρ h => by
  subst hz
  obtain ⟨i, hii, hs⟩ := jq he
  have h2 : (sizeOf e).run P w = .ok sz w := by simp [sizeOf, typeInfo, hii, hs]
  have h1 : (0 : Int) ≤ (hi : Nat) ∧ ((hi : Nat) : Int) ≤ (cap : Int) := ⟨by omega, by omega⟩
  have ha : ∀ a : Addr, a.add 0 = a := fun a => by unfold Addr.add; simp
  cases so with
  | none => simp [execOp, h x _ hx, h y _ hy, Instr.sliceAt, Instr.slice, Instr.sliceBounds, Instr.sliceBound, asIntOf, run_underlying ht, h1, h2, ha]; try (intro hc; omega)
  | some a => simp [execOp, h x _ hx, h y _ hy, Instr.sliceAt, Instr.slice, Instr.sliceBounds, Instr.sliceBound, asIntOf, run_underlying ht, h1, h2, ha]; try (intro hc; omega)
/-- A row is copied into a row of the call's own. -/
theorem zzc {t t2 e : TypeId} {sz : Nat} (ht : P.underlying t = some (.slice e)) (he : (P.info? e).map (·.size) = some sz) {x y : Operand} (hM : Mg w0 w L) (k : Nat) {g n cap : Nat} {xs : List Value} (hk : L[k]? = some (.row e sz (.slice (some ⟨g, 0, none⟩) n cap) n xs)) {o dl dc : Nat} (hx : ev l x = some (.slice (some ⟨g, o, none⟩) dl dc)) {b o2 sl sc : Nat} (hy : ev l y = some (.slice (some ⟨b, o2, none⟩) sl sc)) (hsl : sl ≤ dl) {news : List Value} (hl : news.length = sl * sz) (hn : ∀ j u, news[j]? = some u → w.cell? ⟨b, o2 + j, none⟩ = some u) (h1 : ∀ u ∈ news, u.oneCell' = true) (hr : o + news.length ≤ n * sz) :
    Does P l ⟨dst, .call ⟨.builtin .copy, #[x, y], #[t, t2]⟩, ty, pos, after, guard⟩ w (.int .i64 ((sl : Nat) : Int)) (w.setCells g o news) := by
  obtain ⟨i, hi, hs⟩ := jq he
  have h2 : ∀ w : World, (sizeOf e).run P w = .ok sz w := fun w => by simp [sizeOf, typeInfo, hi, hs]
  have hrow : w.ownsRow w0.heap.size e sz (.slice (some ⟨g, 0, none⟩) n cap) n xs := hM.has k hk
  have hxl : xs.length = n * sz := hrow.1
  have h3 := run_storeCells_cells (P := P) g o news 0 w (fun j hj => by
      rw [World.ownsRow.cellAt hrow (o + 0 + j) (by omega), List.getElem?_eq_getElem (by omega)]; rfl) (fun j hj => World.ownsRow.frozenAt hrow _) h1
  rw [Nat.add_zero] at h3
  have h4 := run_loadCells_list (P := P) w ⟨b, o2, none⟩ news (fun j u hj => by rw [xn]; exact hn j u hj)
  rw [hl] at h4
  intro ρ h
  simp [execOp, resolve, invoke, builtin, h x _ hx, h y _ hy, Builtin.copy_, run_underlying ht, h2, Builtin.lenOf, Builtin.firstCells, Nat.min_eq_left hsl, h4, h3, goInt]
end
section
variable {P : Program} {w0 w : World} {L : List Ck} {l : List (Nat × Value)} {ops : List Oper} {Q : Exit → Act → World → Prop} {a : Act} {n : Nat} {o : Oper} {rest : List Oper} {d : Nat} {S : World → Prop} {md : Region.Mode} {fuel : Nat} {listed : Array Bool}
theorem qzh (hA : Sl a n l) (hM : Mg w0 w L) (hg : zr l ops o = true) (hdst : o.dst = none) {g q : Nat} {cs us : List Value} {e : TypeId} {sz m cap : Nat} {xs : List Value} (he : Sets P l o w (w.setCells g q cs)) (k : Nat) (hk0 : L[k]? = some (.row e sz (.slice (some ⟨g, 0, none⟩) m cap) m xs)) {L' : List Ck} (hL : L.set k (.row e sz (.slice (some ⟨g, 0, none⟩) m cap) m (over xs q cs)) = L')
    (hk : ∀ w', Mg w0 w' L' → wpList P ops.toArray Q rest a w') : wpList P ops.toArray Q (o :: rest) a w :=
  uw hA hg hdst he (hk _ (by subst hL; exact Mg.rowPuts cs w L xs q hM k hk0))
theorem qdh (hA : Sl a n l) (hM : Mg w0 w L) (i : Nat) (hi : ops[i]? = some o) (hg : zr l ops o = true) (hdst : o.dst = none) {g q : Nat} {cs us : List Value} {e : TypeId} {sz m cap : Nat} {xs : List Value} (he : Sets P l o w (w.setCells g q cs)) (k : Nat) (hk0 : L[k]? = some (.row e sz (.slice (some ⟨g, 0, none⟩) m cap) m xs)) {L' : List Ck} (hL : L.set k (.row e sz (.slice (some ⟨g, 0, none⟩) m cap) m (over xs q cs)) = L')
    (hk : ∀ w', Mg w0 w' L' → S w' ∧ wpAnyH P md ops.toArray Q S fuel (listed.setIfInBounds i true) a w') : wpOp P ops.toArray Q i (fun a' w' => S w' ∧ wpAnyH P md ops.toArray Q S fuel (listed.setIfInBounds i true) a' w') a w := by
  have h := hk _ (by subst hL; exact Mg.rowPuts cs w L xs q hM k hk0)
  exact qtg hA i hi hg hdst he h.1 h.2
theorem qli (hA : Sl a n l) (hM : Mg w0 w L) (hg : zr l ops o = true) (hdst : o.dst = some d) (hd : Nat.blt d n = true) {g q : Nat} {cs : List Value} {v : Value} {e : TypeId} {sz m cap : Nat} {xs : List Value} (he : Does P l o w v (w.setCells g q cs)) (k : Nat) (hk0 : L[k]? = some (.row e sz (.slice (some ⟨g, 0, none⟩) m cap) m xs)) {L' : List Ck} (hL : L.set k (.row e sz (.slice (some ⟨g, 0, none⟩) m cap) m (over xs q cs)) = L')
    (hk : ∀ w', Mg w0 w' L' → ∀ a', Sl a' n ((d, v) :: l) → wpList P ops.toArray Q rest a' w') : wpList P ops.toArray Q (o :: rest) a w :=
  kv hA hg hdst hd he (hk _ (by subst hL; exact Mg.rowPuts cs w L xs q hM k hk0))
/-- A row is made. -/
theorem qlj (hA : Sl a n l) (hM : Mg w0 w L) {t e ty : TypeId} {z : Value} {sz by_ : Nat} {dst : Option Tmp} {pos : String} {after : Array Edge} {guard : Option (Nat × Bool)} (ht : P.underlying t = some (.slice e)) (hinfo : (P.info? e).map (fun i => (i.zero, i.size, i.bytes)) = some (some z, sz, by_)) {x y : Operand} {m : Nat} (hx : ev l x = some (.int .i64 ((m : Nat) : Int))) (hy : ev l y = some (.int .i64 ((m : Nat) : Int))) (ho : o = ⟨dst, .makeSlice t x y, ty, pos, after, guard⟩) (hg : zr l ops o = true) (hdst : o.dst = some d) (hd : Nat.blt d n = true) (hb : by_ * m ≤ 281474976710656) (h63 : m ≤ 9223372036854775807) (hnb : e ≠ BY ∨ qbg L)
    (hk : ∀ g w', Mg w0 w' (.row e sz (.slice (some ⟨g, 0, none⟩) m m) m (madeCells z.cells (m * sz)).toList :: L) → ∀ a', Sl a' n ((d, .slice (some ⟨g, 0, none⟩) m m) :: l) → wpList P ops.toArray Q rest a' w') : wpList P ops.toArray Q (o :: rest) a w := by
  subst ho
  obtain ⟨i, hi, hzz⟩ := Option.map_eq_some_iff.1 hinfo
  simp only [Prod.mk.injEq] at hzz
  obtain ⟨hz, hs, hbb⟩ := hzz
  obtain ⟨w', hr, hown, hgr⟩ := run_make_full (P := P) (w := w) w0.heap.size t e i z sz ht hi hz hs .i64 .i64 m (by rw [hbb]; exact hb) (by unfold maxLen; omega) hM.bel.size
  have hbel : Below w.heap.size w w' := ⟨hgr.os, hgr.tape, hgr.output, hgr.size, fun k hk => hgr.block k hk (by simp)⟩
  refine kv hA hg hdst hd (v := .slice (some ⟨w.heap.size, 0, none⟩) m m) (w' := w') (fun ρ h => ?_) (hk w.heap.size w' (hM.add hbel hown (fun k e => by simp [Ck.at_, Value.ownBlock] at e; omega) (.inr (.inl ⟨_, _, _, _, _, rfl, hnb⟩))))
  simp only [execOp, h x _ hx, h y _ hy, Sem.run_bind, hr, Result.andThen_ok, Sem.run_pure]
end
/-! ### Names -/
theorem ztc {a b : ByteArray} (h : a.data.toList = b.data.toList) : a = b := by
  cases a with
  | mk a => cases b with
    | mk b => congr 1; exact Array.ext' h
theorem ztd (a b : ByteArray) : (a.toList == b.toList) = decide (a = b) := by
  rw [ByteArray.toList_eq, ByteArray.toList_eq]
  by_cases h : a = b
  · subst h; simp
  · rw [decide_eq_false h]; exact beq_false_of_ne (fun k => h (ztc k))
def cmpN (a b : ByteArray) : Int := compareBytes a.data.toList b.data.toList
section
variable {P : Program} {t : TypeId} {x y : Operand} {a b : ByteArray}
theorem qyb (hu : P.underlying t = some .string) : ∀ w, (do eqGuard .eql t x y (.string a) (.string b); binOp .eql t (.string a) (.string b) : Sem Value).run P w = .ok (.bool (decide (a = b))) w := fun w => by
  rw [← ztd]
  simp [go_sem, hu, run_underlying hu]
end
theorem Rb.takeZ {w : World} {so : Option Addr} {l : List UInt8} (h : Rb w so l) (n : Nat) : Rb w so (l.take n) := by
  refine ⟨fun hne => ?_⟩
  obtain ⟨b, off, h1, h2, h3⟩ := h.pos (fun k => hne (by rw [k]; simp))
  refine ⟨b, off, h1, h2, fun j hj => ?_⟩
  rw [List.length_take] at hj
  rw [h3 j (by omega), List.getD_eq_getElem?_getD, List.getD_eq_getElem?_getD, List.getElem?_take_of_lt (by omega)]
theorem ud (l : List UInt8) : (Lib.byteCells l).length = l.length := by simp [Lib.byteCells]
theorem zzd {l : List UInt8} : ∀ u ∈ Lib.byteCells l, u.oneCell' = true := by
  intro u hu
  unfold Lib.byteCells at hu
  obtain ⟨b, _, rfl⟩ := List.mem_map.1 hu
  rfl
theorem bcz_at {l : List UInt8} {j : Nat} {u : Value} (h : (Lib.byteCells l)[j]? = some u) : j < l.length ∧ u = .int .u8 (((l.getD j 0).toNat : Nat) : Int) := by
  have hj := (List.getElem?_eq_some_iff.1 h).1
  rw [ud] at hj
  unfold Lib.byteCells at h
  rw [List.getElem?_map, List.getElem?_eq_getElem hj] at h
  refine ⟨hj, ?_⟩
  simp only [Option.map_some, Option.some.injEq] at h
  rw [← h, List.getD_eq_getElem?_getD, List.getElem?_eq_getElem hj]
  rfl
section
variable {P : Program} {w0 w : World} {L : List Ck} {l : List (Nat × Value)} {dst : Option Tmp} {ty : TypeId} {pos : String} {after : Array Edge} {guard : Option (Nat × Bool)}
/-- Bytes are copied into a row of the call's own. -/
theorem qma {t t2 : TypeId} (ht : P.underlying t = some (.slice BY)) (he : (P.info? BY).map (·.size) = some 1) {x y : Operand} (hM : Mg w0 w L) (k : Nat) {g n cap : Nat} {xs : List Value} (hk : L[k]? = some (.row BY 1 (.slice (some ⟨g, 0, none⟩) n cap) n xs)) {o dl dc : Nat} (hx : ev l x = some (.slice (some ⟨g, o, none⟩) dl dc)) {so : Option Addr} {sc : Nat} {bs : List UInt8} (hb : Rb w so bs) (hy : ev l y = some (.slice so bs.length sc)) (hsl : bs.length ≤ dl) (hr : o + bs.length ≤ n) :
    Does P l ⟨dst, .call ⟨.builtin .copy, #[x, y], #[t, t2]⟩, ty, pos, after, guard⟩ w (.int .i64 ((bs.length : Nat) : Int)) (w.setCells g o (Lib.byteCells bs)) := by
  by_cases hne : bs = []
  · subst hne
    obtain ⟨i, hi, hs⟩ := jq he
    have h2 : ∀ w : World, (sizeOf BY).run P w = .ok 1 w := fun w => by simp [sizeOf, typeInfo, hi, hs]
    have h3 : w.setCells g o (Lib.byteCells []) = w := rfl
    rw [h3]
    intro ρ h
    cases so <;> simp [execOp, resolve, invoke, builtin, h x _ hx, h y _ hy, Builtin.copy_, run_underlying ht, h2, Builtin.lenOf, Builtin.firstCells, loadCells, loadCellsFrom, storeCells, goInt]
  · obtain ⟨b, off, rfl, _, hc⟩ := hb.pos hne
    exact zzc (sz := 1) ht he hM k hk hx hy hsl (by rw [ud]; omega) (fun j u hj => by
      obtain ⟨h1, rfl⟩ := bcz_at hj
      exact hc j h1) zzd (by rw [ud]; omega)
end
/-- Do the n bytes from a place on lie in m bytes? -/
def inB (m : Nat) (a n : Int) : Bool := decide (0 ≤ a ∧ 0 ≤ n ∧ a ≤ (m : Int) - n)
/-- Bytes with others laid over them at a place. -/
def ovl (a : Nat) (p l : List UInt8) : List UInt8 := l.take a ++ p ++ l.drop (a + p.length)
theorem zjb {a : Nat} {p l : List UInt8} (h : a + p.length ≤ l.length) : (ovl a p l).length = l.length := by
  unfold ovl
  rw [List.length_append, List.length_append, List.length_take, List.length_drop]
  omega
theorem qph {l : List UInt8} {xs : List Value} (h : xs.length = l.length) : over xs 0 (Lib.byteCells l) = Lib.byteCells l := by
  rw [zja (by rw [ud]; omega), List.take_zero, List.nil_append, List.drop_eq_nil_of_le (by rw [ud]; omega), List.append_nil]
theorem zte {l p : List UInt8} {a o : Nat} (ho : o = a ∨ (o = 0 ∧ a = l.length)) (h : a + p.length ≤ l.length) : over (Lib.byteCells l) o (Lib.byteCells p) = Lib.byteCells (ovl a p l) := by
  rcases ho with rfl | ⟨rfl, rfl⟩
  · rw [zja (by rw [ud, ud]; omega), ud]
    unfold ovl Lib.byteCells
    rw [List.map_append, List.map_append, List.map_take, List.map_drop]
  · have : p = [] := List.length_eq_zero_iff.1 (by omega)
    subst this
    unfold ovl
    rw [List.take_of_length_le (Nat.le_refl _), List.append_nil, List.drop_eq_nil_of_le (by simp), List.append_nil]
    rfl
open Go.RowKit
set_option maxRecDepth 100000
theorem zfc {w : World} {so : Option Addr} {ca : Nat} {l : List UInt8} {ap n : Int} (hl : l.length ≤ 140737488351232) (hap0 : -9223372036854775808 ≤ ap) (hap1 : ap ≤ 9223372036854775807) (hn0 : -9223372036854775808 ≤ n) (hn1 : n ≤ 9223372036854775807) : Calls Tryz.prog 26 #[.slice so l.length ca, .int .i64 ap, .int .i64 n] w fun e w' => e = .returned (.bool (inB l.length ap n)) ∧ Below w.heap.size w w' := by
 have M : Mg w w ([]) := Mg.start w
 refine qy (l := [(0, .slice so l.length ca), (1, .int .i64 ap), (2, .int .i64 n)]) Tryz.func26 rfl Tryz.ntmps26 rfl rfl ?_
 intro Q hret hnorm hP a A
 refine wsk fun K1 hK1 => wrl (sda A λa A↦?_)
 refine qa (hK1 _ _ (wsk fun K2 hK2 => wrl (sdm A λa A↦?_)))
 rcases tf (decide (0 ≤ ap)) with hb3 | hb3
 ·
  have hb3' := of_decide_eq_true hb3
  refine sdo (v := .bool true) A (qe rfl rfl (fun w => (vt w).trans (by rw [hb3]))) λa A↦?_
  iterate 2 refine sdm A λa A↦?_
  rcases tf (decide (0 ≤ n)) with hb4 | hb4
  ·
   have hb4' := of_decide_eq_true hb4
   refine sdo (v := .bool true) A (qe rfl rfl (fun w => (vt w).trans (by rw [hb4]))) λa A↦?_
   refine sdk (v := .bool true) A λa A↦?_
   iterate 3 refine sdm A λa A↦?_
   refine sdo A (zg Tryz.underlying31 rfl) λa A↦?_
   refine sdm A λa A↦?_
   refine sdo (v := .int .i64 (((l.length : Nat) : Int) - n)) A (qe rfl rfl (ar_sub (in_i64 (by omega) (by omega)))) λa A↦?_
   rcases tf (decide (ap ≤ ((l.length : Nat) : Int) - n)) with hb5 | hb5
   ·
    have hb5' := of_decide_eq_true hb5
    refine sdo (v := .bool true) A (qe rfl rfl (fun w => (qha w).trans (by rw [hb5]))) λa A↦?_
    refine sdk (v := .bool true) A λa A↦?_
    refine sda A λa A↦?_
    refine qa (hK2 _ _ (wp_ret (hret _ _ (en1 A rfl (qj rfl) ?_))))
    exact ⟨by rw [show inB l.length ap n = true from by unfold inB; apply decide_eq_true; omega], M.bel⟩
   ·
    have hb5' := of_decide_eq_false hb5
    refine sdo (v := .bool false) A (qe rfl rfl (fun w => (qha w).trans (by rw [hb5]))) λa A↦?_
    refine sdk (v := .bool false) A λa A↦?_
    refine sda A λa A↦?_
    refine qa (hK2 _ _ (wp_ret (hret _ _ (en1 A rfl (qj rfl) ?_))))
    exact ⟨by rw [show inB l.length ap n = false from by unfold inB; apply decide_eq_false; omega], M.bel⟩
  ·
   have hb4' := of_decide_eq_false hb4
   refine sdo (v := .bool false) A (qe rfl rfl (fun w => (vt w).trans (by rw [hb4]))) λa A↦?_
   refine sdk (v := .bool false) A λa A↦?_
   refine sdm A λa A↦?_
   iterate 6 refine ze A rfl rfl rfl λa A↦?_
   refine sdk (v := .bool false) A λa A↦?_
   refine sda A λa A↦?_
   refine qa (hK2 _ _ (wp_ret (hret _ _ (en1 A rfl (qj rfl) ?_))))
   exact ⟨by rw [show inB l.length ap n = false from by unfold inB; apply decide_eq_false; omega], M.bel⟩
 ·
  have hb3' := of_decide_eq_false hb3
  refine sdo (v := .bool false) A (qe rfl rfl (fun w => (vt w).trans (by rw [hb3]))) λa A↦?_
  refine sdm A λa A↦?_
  iterate 2 refine ze A rfl rfl rfl λa A↦?_
  refine sdk (v := .bool false) A λa A↦?_
  refine sdm A λa A↦?_
  iterate 6 refine ze A rfl rfl rfl λa A↦?_
  refine sdk (v := .bool false) A λa A↦?_
  refine sda A λa A↦?_
  refine qa (hK2 _ _ (wp_ret (hret _ _ (en1 A rfl (qj rfl) ?_))))
  exact ⟨by rw [show inB l.length ap n = false from by unfold inB; apply decide_eq_false; omega], M.bel⟩
theorem qsc {w : World} {so : Option Addr} {ca : Nat} {l : List UInt8} {ap n : Int} (hl : l.length ≤ 140737488351232) (hap0 : -9223372036854775808 ≤ ap) (hap1 : ap ≤ 9223372036854775807) (hn0 : -9223372036854775808 ≤ n) (hn1 : n ≤ 9223372036854775807) {b : Bool} (h : inB l.length ap n = b) : Calls Tryz.prog 26 #[.slice so l.length ca, .int .i64 ap, .int .i64 n] w fun e w' => e = .returned (.bool b) ∧ Below w.heap.size w w' := h ▸ zfc hl hap0 hap1 hn0 hn1
theorem qve {w : World} {so sp : Option Addr} {ca cp an : Nat} {l p : List UInt8} (hb : Rb w so l) (hp : Rb w sp p) (hl : l.length ≤ 140737488351232) (hle : an + p.length ≤ l.length) : Calls Tryz.prog 28 #[.slice so l.length ca, .int .i64 ((an : Nat) : Int), .slice sp p.length cp] w fun e w' => ∃ v, e = .returned v ∧ Mg w w' [.row BY 1 v (ovl an p l).length (Lib.byteCells (ovl an p l))] := by
 have M : Mg w w ([]) := Mg.start w
 refine qy (l := [(0, .slice so l.length ca), (1, .int .i64 (((an : Nat) : Int))), (2, .slice sp p.length cp)]) Tryz.func28 rfl Tryz.ntmps28 rfl rfl ?_
 intro Q hret hnorm hP a A
 refine wsk fun K1 hK1 => wrl (sda A λa A↦?_)
 refine qa (hK1 _ _ (wsk fun K2 hK2 => wrl (sdm A λa A↦?_)))
 refine sdo A (zg Tryz.underlying31 rfl) λa A↦?_
 refine qlj (z := .int .u8 0) (sz := 1) (by_ := 1) (m := l.length) A M Tryz.underlying31 (by kernel_rfl) rfl rfl rfl rfl rfl rfl (by omega) (by omega) (.inr (zb zd)) ?_
 intro gx w3 M a A
 obtain ⟨mz, hmz⟩ : ∃ mz, (madeCells (.int .u8 0 : Value).cells (l.length * 1)).toList = mz := ⟨_, rfl⟩
 rw [hmz] at M
 have hml : mz.length = l.length := by rw [← hmz, Array.length_toList, size_madeCells, Nat.mul_one]
 refine sda A λa A↦?_
 refine qa (hK2 _ _ (wsk fun K4 hK4 => wrl ?_))
 iterate 2 refine sdm A λa A↦?_
 refine qli (v := .int .i64 (((l.length : Nat) : Int))) (cs := Lib.byteCells l) (L' := (.row BY 1 (.slice (some ⟨gx, 0, none⟩) l.length l.length) l.length ((over mz 0 (Lib.byteCells l))) :: [])) A M rfl rfl rfl (qma Tryz.underlying31 (by kernel_rfl) M 0 rfl rfl (hb.below M.bel) rfl (by omega) (by omega)) 0 rfl rfl ?_
 intro w5 M a A
 replace M : Mg w w5 (.row BY 1 (.slice (some ⟨gx, 0, none⟩) l.length l.length) l.length ((Lib.byteCells l)) :: []) := by
  have h9 := M
  rw [qph hml] at h9
  exact h9
 refine qa (hK4 _ _ (wsk fun K6 hK6 => wrl ?_))
 iterate 2 refine sdm A λa A↦?_
 obtain ⟨o, ho, hoe⟩ : ∃ o : Nat, (o = an ∨ (o = 0 ∧ an = l.length)) ∧ qib (some ⟨gx, 0, none⟩) l.length an = some ⟨gx, o, none⟩ := by
  unfold qib
  by_cases h9 : l.length = an
  ·
   exact ⟨0, .inr ⟨rfl, h9.symm⟩, by rw [if_pos h9]⟩
  ·
   exact ⟨an, .inl rfl, by rw [if_neg h9]; simp [xn]⟩
 refine sdo (v := .slice (some ⟨gx, o, none⟩) ((l.length - an)) ((l.length - an))) A (hoe ▸ zmf Tryz.underlying31 (by kernel_rfl) rfl rfl rfl (by omega)) λa A↦?_
 refine sdm A λa A↦?_
 refine qli (v := .int .i64 (((p.length : Nat) : Int))) (cs := Lib.byteCells p) (L' := (.row BY 1 (.slice (some ⟨gx, 0, none⟩) l.length l.length) l.length ((over (Lib.byteCells l) o (Lib.byteCells p))) :: [])) A M rfl rfl rfl (qma Tryz.underlying31 (by kernel_rfl) M 0 rfl rfl (hp.below M.bel) rfl (by omega) (by omega)) 0 rfl rfl ?_
 intro w7 M a A
 replace M : Mg w w7 (.row BY 1 (.slice (some ⟨gx, 0, none⟩) l.length l.length) l.length ((Lib.byteCells (ovl an p l))) :: []) := by
  have h9 := M
  rw [zte ho hle] at h9
  exact h9
 refine qa (hK6 _ _ (wsk fun K8 hK8 => wrl (sdm A λa A↦?_)))
 refine sda A λa A↦?_
 refine qa (hK8 _ _ (wp_ret (hret _ _ (en1 A rfl (qj rfl) ?_))))
 exact ⟨_, rfl, by rw [zjb hle]; exact M⟩
theorem ztf {xs ys : List UInt8} (hl : xs.length = ys.length) (h : ∀ j, j < xs.length → xs.getD j 0 = ys.getD j 0) : xs = ys := by
 apply List.ext_getElem hl
 intro j h1 h2
 have := h j h1
 rwa [List.getD_eq_getElem?_getD, List.getD_eq_getElem?_getD, List.getElem?_eq_getElem h1, List.getElem?_eq_getElem h2] at this
theorem zjc {w : World} {so : Option Addr} {l : List UInt8} {i : Nat} (h : Rb w so l) (hi : i < l.length) : ∃ b off, so = some ⟨b, off, none⟩ ∧ b < w.heap.size ∧ ∀ j, j < l.length → w.cell? ⟨b, off + j, none⟩ = some (.int .u8 (((l.getD j 0).toNat : Nat) : Int)) :=
 h.pos (fun k => by rw [k] at hi; exact absurd hi (Nat.not_lt_zero _))
theorem zze {w0 w : World} {L : List Ck} (M : Mg w0 w L) (k : Nat) {e : TypeId} {sz n cap : Nat} {so : Option Addr} {xs : List Value} (hk : L[k]? = some (.row e sz (.slice so n cap) n xs)) : n ≤ cap := by
 rcases (M.has k hk).2 with ⟨he, h0⟩ | ⟨g, c, cur, he, _, _, h3, _⟩
 ·
  simp only [Value.slice.injEq] at he; omega
 ·
  cases he; exact h3
theorem ByC_is1_3 : Is1 Tryz.prog 3 := ⟨⟨_, Tryz.underlying3, rfl⟩, by kernel_rfl⟩
theorem ByC_is1_5 : Is1 Tryz.prog 5 := ⟨⟨_, Tryz.underlying5, rfl⟩, by kernel_rfl⟩
theorem ByC_fld_65_0 : FieldAt Tryz.prog 65 0 0 := ⟨_, _, Tryz.underlying65, rfl, rfl, by kernel_rfl⟩
/-- Bytes without the zeros at their end. -/
def xu (l : List UInt8) : List UInt8 := (l.reverse.dropWhile (· == 0)).reverse
theorem zfd {l : List UInt8} {k : Nat} (hk : k < l.length) (h : l.getD k 0 = 0) : xu (l.take (k + 1)) = xu (l.take k) := by
 unfold xu
 have e : l.take (k + 1) = l.take k ++ [0] := by
  rw [List.take_add_one, List.getElem?_eq_getElem hk]
  rw [List.getD_eq_getElem?_getD, List.getElem?_eq_getElem hk] at h
  simp only [Option.getD_some] at h
  rw [h]
  rfl
 rw [e, List.reverse_append]
 simp
theorem zfe {l : List UInt8} {k : Nat} (hk : k < l.length) (h : l.getD k 0 ≠ 0) : xu (l.take (k + 1)) = l.take (k + 1) := by
 unfold xu
 rw [List.getD_eq_getElem?_getD, List.getElem?_eq_getElem hk] at h
 simp only [Option.getD_some] at h
 have e : l.take (k + 1) = l.take k ++ [l[k]] := by rw [List.take_add_one, List.getElem?_eq_getElem hk]; rfl
 rw [e, List.reverse_append]
 simp only [List.reverse_cons, List.reverse_nil, List.nil_append, List.cons_append]
 rw [List.dropWhile_cons_of_neg (by simpa using h), List.reverse_cons, List.reverse_reverse]
theorem zmg : xu [] = [] := rfl
theorem qvf {w : World} {so : Option Addr} {ca : Nat} {l : List UInt8} (hb : Rb w so l) (hl : l.length ≤ 140737488351232) (hca : l.length ≤ ca) : Calls Tryz.prog 162 #[.slice so l.length ca, .int .u8 0] w fun e w' => e = .returned (.slice so (xu l).length ca) ∧ Below w.heap.size w w' := by
 have M : Mg w w ([]) := Mg.start w
 refine qy (l := [(0, .slice so l.length ca), (1, .int .u8 0)]) Tryz.func162 rfl Tryz.ntmps162 rfl rfl ?_
 intro Q hret hnorm hP a A
 refine wsk fun K1 hK1 => wrl (sda A λa A↦?_)
 refine qa (hK1 _ _ (wsk fun K2 hK2 => wp_block (js (fun m_ a w1 => ∃ (q : Nat), m_ = 1 + q ∧ (q ≤ l.length ∧ xu (l.take q) = xu l) ∧ Sl a 24 [(0, .slice so q ca), (1, .int .u8 0), (4, .slice none 0 0)] ∧ Mg w w1 ([])) _ ⟨l.length, rfl, ⟨Nat.le_refl _, by rw [List.take_of_length_le (Nat.le_refl _)]⟩, A.keep _ ⟨rfl, rfl, rfl, trivial⟩, M⟩ ?_)))
 clear M A
 rintro m_ a w3 ⟨q, rfl, hinv5, A, M⟩ K4 hK4
 obtain ⟨hq9, htz⟩ := hinv5
 refine wsk fun K6 hK6 => wsk fun K7 hK7 => wrl (sdm A λa A↦?_)
 refine sdo A (zg Tryz.underlying31 rfl) λa A↦?_
 rcases tf (decide (0 < ((q : Nat) : Int))) with hb8 | hb8
 ·
  have hb8' := of_decide_eq_true hb8
  refine sdo (v := .bool true) A (qe rfl rfl (fun w => (ju w).trans (by rw [hb8]))) λa A↦?_
  iterate 3 refine sdm A λa A↦?_
  refine sdo A (zg Tryz.underlying31 rfl) λa A↦?_
  refine sdo (v := .int .i64 (((q - 1 : Nat) : Int))) A (qe rfl rfl (ar_sub ((in_i64 (by omega) (by omega)).trans (by omega)))) λa A↦?_
  obtain ⟨bx, ox, hx1, hx2, hx3⟩ := zjc (i := q - 1) hb (by omega)
  refine sdo (v := .pointer (some ⟨bx, ox + (q - 1), none⟩)) A (zw Tryz.underlying31 (by kernel_rfl) rfl rfl rfl hx1 (show q - 1 < q by omega)) λa A↦?_
  refine sdo (v := .int .u8 ((((l.getD (q - 1) 0).toNat : Nat) : Int))) A (qfa M hx2 (hx3 (q - 1) (by omega)) ByC_is1_5 rfl) λa A↦?_
  refine sdm A λa A↦?_
  rcases tf (((((l.getD (q - 1) 0).toNat : Nat) : Int) == 0)) with hb9 | hb9
  ·
   have hb9' := eq_of_beq hb9
   refine sdo (v := .bool true) A (qe rfl rfl (fun w => (zl w).trans (by rw [hb9]))) λa A↦?_
   refine sdk (v := .bool true) A λa A↦?_
   refine qa (hK7 _ _ (wp_cond_true (A.ev rfl) ?_))
   refine wp_skip (hK6 _ _ (wp_block (wrl ?_)))
   iterate 2 refine sdm A λa A↦?_
   refine sdo A (zg Tryz.underlying31 rfl) λa A↦?_
   refine sdo (v := .int .i64 (((q - 1 : Nat) : Int))) A (qe rfl rfl (ar_sub ((in_i64 (by omega) (by omega)).trans (by omega)))) λa A↦?_
   refine sdo (v := .slice so ((q - 1)) ca) A (qfb (sz := 1) (hi := q - 1) Tryz.underlying31 (by kernel_rfl) rfl rfl rfl (by omega)) λa A↦?_
   refine sda A λa A↦?_
   refine qa ?_
   refine hK4 _ _ _ (by omega) ⟨q - 1, rfl, ⟨by omega, by rw [← htz, show l.take q = l.take (q - 1 + 1) from by rw [show q - 1 + 1 = q from by omega], zfd (by omega) (UInt8.toNat_inj.1 (by show _ = 0; omega))]⟩, A.keep _ ⟨rfl, rfl, rfl, trivial⟩, M⟩
  ·
   have hb9' := ne_of_beq_false hb9
   refine sdo (v := .bool false) A (qe rfl rfl (fun w => (zl w).trans (by rw [hb9]))) λa A↦?_
   refine sdk (v := .bool false) A λa A↦?_
   refine qa (hK7 _ _ (wp_cond_false (A.ev rfl) ?_))
   refine wp_exit (hK2 _ _ (wsk fun K10 hK10 => wrl (sdm A λa A↦?_)))
   refine sda A λa A↦?_
   refine qa (hK10 _ _ (wp_ret (hret _ _ (en1 A rfl (qj rfl) ?_))))
   have e9 := zfe (l := l) (k := q - 1) (by omega) (fun k9 => by rw [k9] at hb9'; exact hb9' rfl)
   rw [show q - 1 + 1 = q from by omega] at e9
   rw [e9] at htz
   exact ⟨by rw [← htz]; first | (simp; done) | (simp; omega), M.bel⟩
 ·
  have hb8' := of_decide_eq_false hb8
  refine sdo (v := .bool false) A (qe rfl rfl (fun w => (ju w).trans (by rw [hb8]))) λa A↦?_
  refine sdm A λa A↦?_
  iterate 8 refine ze A rfl rfl rfl λa A↦?_
  refine sdk (v := .bool false) A λa A↦?_
  refine qa (hK7 _ _ (wp_cond_false (A.ev rfl) ?_))
  refine wp_exit (hK2 _ _ (wsk fun K11 hK11 => wrl (sdm A λa A↦?_)))
  refine sda A λa A↦?_
  refine qa (hK11 _ _ (wp_ret (hret _ _ (en1 A rfl (qj rfl) ?_))))
  obtain rfl : q = 0 := by omega
  rw [List.take_zero, zmg] at htz
  exact ⟨by rw [← htz]; first | (simp; done) | (simp; omega), M.bel⟩
theorem qqc {w : World} {so : Option Addr} {ca : Nat} {l : List UInt8} (hb : Rb w so l) (hl : l.length ≤ 140737488351232) (hca : l.length ≤ ca) : Calls Tryz.prog 116 #[.slice so l.length ca, .string ⟨#[0]⟩] w fun e w' => e = .returned (.slice so (xu l).length ca) ∧ Below w.heap.size w w' := by
 have M : Mg w w ([]) := Mg.start w
 refine qy (l := [(0, .slice so l.length ca), (1, .string (⟨#[0]⟩))]) Tryz.func116 rfl Tryz.ntmps116 rfl rfl ?_
 intro Q hret hnorm hP a A
 refine wsk fun K1 hK1 => wrl (sda A λa A↦?_)
 refine qa (hK1 _ _ (wsk fun K2 hK2 => wsk fun K3 hK3 => wrl (sdm A λa A↦?_)))
 refine sdo A (zg Tryz.underlying31 rfl) λa A↦?_
 rcases tf ((((l.length : Nat) : Int) == 0)) with hb4 | hb4
 ·
  have hb4' := eq_of_beq hb4
  refine sdo (v := .bool true) A (qe rfl rfl (fun w => (zl w).trans (by rw [hb4]))) λa A↦?_
  refine sdm A λa A↦?_
  iterate 2 refine ze A rfl rfl rfl λa A↦?_
  refine sdk (v := .bool true) A λa A↦?_
  refine qa (hK3 _ _ (wp_cond_true (A.ev rfl) ?_))
  refine wsk fun K5 hK5 => wrl (sdm A λa A↦?_)
  refine sda A λa A↦?_
  refine qa (hK5 _ _ (wp_ret (hret _ _ (en1 A rfl (qj rfl) ?_))))
  obtain rfl : l = [] := List.length_eq_zero_iff.1 (by omega)
  exact ⟨rfl, M.bel⟩
 ·
  have hb4' := ne_of_beq_false hb4
  refine sdo (v := .bool false) A (qe rfl rfl (fun w => (zl w).trans (by rw [hb4]))) λa A↦?_
  iterate 2 refine sdm A λa A↦?_
  refine sdo (v := .bool false) A (qe rfl rfl (fun w => by kernel_rfl)) λa A↦?_
  refine sdk (v := .bool false) A λa A↦?_
  refine qa (hK3 _ _ (wp_cond_false (A.ev rfl) ?_))
  refine wp_skip (hK2 _ _ (wsk fun K6 hK6 => wsk fun K7 hK7 => wrl (sdm A λa A↦?_)))
  refine sdo (v := .int .i64 1) A (vr rfl (zii Tryz.underlying9)) λa A↦?_
  refine sdo (v := .bool true) A (qe rfl rfl (fun w => by kernel_rfl)) λa A↦?_
  iterate 2 refine sdm A λa A↦?_
  refine sdo (v := .int .u8 0) A (qcf (s := ⟨#[0]⟩) (i := 0) Tryz.underlying9 rfl rfl rfl (by decide)) λa A↦?_
  refine sdo (v := .bool true) A (qe rfl rfl (fun w => by kernel_rfl)) λa A↦?_
  refine sdk (v := .bool true) A λa A↦?_
  refine qa (hK7 _ _ (wp_cond_true (A.ev rfl) ?_))
  refine wsk fun K8 hK8 => wrl ?_
  iterate 2 refine sdm A λa A↦?_
  refine sdo (v := .int .u8 0) A (qcf (s := ⟨#[0]⟩) (i := 0) Tryz.underlying9 rfl rfl rfl (by decide)) λa A↦?_
  refine qg A rfl rfl rfl (qb rfl rfl (fun w => by kernel_rfl)) (qvf (hb.below M.bel) hl hca) ?_
  rintro _ w10 ⟨rfl, hb9⟩
  replace M := M.call hb9
  refine ⟨_, rfl, ?_⟩
  intro a A
  refine sda A λa A↦?_
  refine qa (hK8 _ _ (wp_ret (hret _ _ (en1 A rfl (qj rfl) ?_))))
  exact ⟨rfl, M.bel⟩
def yg (size : Int) : Bool := decide (1 ≤ size ∧ size ≤ 64)
theorem qla {w : World} {size : Int} {bg sg : Bool} : Calls Tryz.prog 25 #[.agg #[.int .i64 size, .bool bg, .bool sg]] w fun e w' => e = .returned (.bool (yg size)) ∧ Below w.heap.size w w' := by
 have M : Mg w w ([]) := Mg.start w
 refine qy (l := [(0, .agg #[.int .i64 size, .bool bg, .bool sg])]) Tryz.func25 rfl Tryz.ntmps25 rfl rfl ?_
 intro Q hret hnorm hP a A
 refine wsk fun K1 hK1 => wrl (xm (vs := [.int .i64 size, .bool bg, .bool sg]) (t := 65) A M rfl rfl rfl pg (qw rfl rfl) (by decide) ?_)
 intro g2 w3 M a A
 refine sda A λa A↦?_
 refine qa (hK1 _ _ (wsk fun K4 hK4 => wrl (sdo (v := .pointer (some ⟨g2, 0, none⟩)) A (qf ByC_fld_65_0 rfl rfl) λa A↦?_)))
 refine sdo A (zq M ByC_is1_3 rfl 0 rfl rfl) λa A↦?_
 rcases tf (decide (1 ≤ size)) with hb5 | hb5
 ·
  have hb5' := of_decide_eq_true hb5
  refine sdo (v := .bool true) A (qe rfl rfl (fun w => (vt w).trans (by rw [hb5]))) λa A↦?_
  refine sdm A λa A↦?_
  refine sdo (v := .pointer (some ⟨g2, 0, none⟩)) A (qf ByC_fld_65_0 rfl rfl) λa A↦?_
  refine sdo A (zq M ByC_is1_3 rfl 0 rfl rfl) λa A↦?_
  rcases tf (decide (size ≤ 64)) with hb6 | hb6
  ·
   have hb6' := of_decide_eq_true hb6
   refine sdo (v := .bool true) A (qe rfl rfl (fun w => (qha w).trans (by rw [hb6]))) λa A↦?_
   refine sdk (v := .bool true) A λa A↦?_
   refine sda A λa A↦?_
   refine qa (hK4 _ _ (wp_ret (hret _ _ (en1 A rfl (qj rfl) ?_))))
   exact ⟨by rw [show yg size = true from by unfold yg; apply decide_eq_true; omega], M.bel⟩
  ·
   have hb6' := of_decide_eq_false hb6
   refine sdo (v := .bool false) A (qe rfl rfl (fun w => (qha w).trans (by rw [hb6]))) λa A↦?_
   refine sdk (v := .bool false) A λa A↦?_
   refine sda A λa A↦?_
   refine qa (hK4 _ _ (wp_ret (hret _ _ (en1 A rfl (qj rfl) ?_))))
   exact ⟨by rw [show yg size = false from by unfold yg; apply decide_eq_false; omega], M.bel⟩
 ·
  have hb5' := of_decide_eq_false hb5
  refine sdo (v := .bool false) A (qe rfl rfl (fun w => (vt w).trans (by rw [hb5]))) λa A↦?_
  refine sdm A λa A↦?_
  iterate 3 refine ze A rfl rfl rfl λa A↦?_
  refine sdk (v := .bool false) A λa A↦?_
  refine sda A λa A↦?_
  refine qa (hK4 _ _ (wp_ret (hret _ _ (en1 A rfl (qj rfl) ?_))))
  exact ⟨by rw [show yg size = false from by unfold yg; apply decide_eq_false; omega], M.bel⟩
theorem ByE_is1_5 : Is1 Tryz.prog 5 := ⟨⟨_, Tryz.underlying5, rfl⟩, by kernel_rfl⟩
/-- How far a row is turned round. -/
def Rv (l cur : List UInt8) (i : Nat) : Prop := cur.length = l.length ∧ ∀ k, k < l.length → cur.getD k 0 = if k < i ∨ l.length ≤ k + i then l.getD (l.length - 1 - k) 0 else l.getD k 0
theorem Rv.start (l : List UInt8) : Rv l l 0 := ⟨rfl, fun k hk => by rw [if_neg (by omega)]⟩
theorem qsd {cur : List UInt8} {k j : Nat} {b : UInt8} (hj : j < cur.length) : (cur.set j b).getD k 0 = if k = j then b else cur.getD k 0 := by
 rw [List.getD_eq_getElem?_getD, List.getD_eq_getElem?_getD]
 by_cases h : k = j
 ·
  subst h; rw [List.getElem?_set_self hj, if_pos rfl]; rfl
 ·
  rw [List.getElem?_set_ne (fun e => h e.symm), if_neg h]
theorem Rv.step {l cur : List UInt8} {i j : Nat} (h : Rv l cur i) (hj : j + i + 1 = l.length) (hij : i < j) : Rv l ((cur.set i (cur.getD j 0)).set j (cur.getD i 0)) (i + 1) := by
 obtain ⟨h1, h2⟩ := h
 refine ⟨by rw [List.length_set, List.length_set]; exact h1, fun k hk => ?_⟩
 rw [qsd (by rw [List.length_set]; omega), qsd (by omega)]
 by_cases e1 : k = j
 ·
  rw [if_pos e1, if_pos (by omega), h2 i (by omega), if_neg (by omega)]
  congr 1
  omega
 ·
  rw [if_neg e1]
  by_cases e2 : k = i
  ·
   rw [if_pos e2, if_pos (by omega), h2 j (by omega), if_neg (by omega)]
   congr 1
   omega
  ·
   rw [if_neg e2, h2 k hk]
   by_cases e3 : k < i ∨ l.length ≤ k + i
   ·
    rw [if_pos e3, if_pos (by omega)]
   ·
    rw [if_neg e3, if_neg (by omega)]
theorem Rv.done {l cur : List UInt8} {i : Nat} (h : Rv l cur i) (hi : l.length ≤ 2 * i + 1) (hi2 : 2 * i ≤ l.length + 1) : cur = l.reverse := by
 obtain ⟨h1, h2⟩ := h
 refine ztf (by rw [List.length_reverse]; exact h1) (fun k hk => ?_)
 rw [h2 k (by omega)]
 have e : l.reverse.getD k 0 = l.getD (l.length - 1 - k) 0 := by
  rw [List.getD_eq_getElem?_getD, List.getD_eq_getElem?_getD, List.getElem?_reverse (by omega)]
 rw [e]
 by_cases h3 : k < i ∨ l.length ≤ k + i
 ·
  rw [if_pos h3]
 ·
  rw [if_neg h3]
  congr 1
  omega
theorem qvg {l : List UInt8} {k : Nat} (h : k < l.length) : (Lib.byteCells l)[k * 1]? = some (.int .u8 (((l.getD k 0).toNat : Nat) : Int)) := by
 rw [Nat.mul_one]
 unfold Lib.byteCells
 rw [List.getElem?_map, List.getElem?_eq_getElem h, List.getD_eq_getElem?_getD, List.getElem?_eq_getElem h]
 rfl
theorem qvh {l : List UInt8} {k : Nat} {b : UInt8} : over (Lib.byteCells l) (k * 1) [.int .u8 ((b.toNat : Nat) : Int)] = Lib.byteCells (l.set k b) := by
 rw [Nat.mul_one]
 show (Lib.byteCells l).set k _ = _
 unfold Lib.byteCells
 rw [List.map_set]
theorem yk {P : Program} {w0 w : World} {L : List Ck} {l : List (Nat × Value)} {dst : Option Tmp} {ty : TypeId} {pos : String} {after : Array Edge} {guard : Option (Nat × Bool)} {v : Value} (M : Mg w0 w L) (k : Nat) {e : TypeId} {sz g n c j : Nat} {xs : List Value} (hk : L[k]? = some (.row e sz (.slice (some ⟨g, 0, none⟩) n c) n xs)) (hj : xs[j]? = some v) {t : TypeId} (ht : Is1 P t) {x : Operand} (hx : ev l x = some (.pointer (some ⟨g, j, none⟩))) : Does P l ⟨dst, .load t x, ty, pos, after, guard⟩ w v w := zzb M k hk hj ht hx
theorem reverse_any {w0 w : World} {gx cx : Nat} {l : List UInt8} {X : List Ck} (hnX : qbg X) (hl : l.length ≤ 140737488351232) (hM0 : Mg w0 w (.row BY 1 (.slice (some ⟨gx, 0, none⟩) l.length cx) l.length (Lib.byteCells l) :: X)) : Calls Tryz.prog 115 #[.slice (some ⟨gx, 0, none⟩) l.length cx] w fun e w' => e = .returned (.tuple #[]) ∧ Mg w0 w' (.row BY 1 (.slice (some ⟨gx, 0, none⟩) l.length cx) l.length (Lib.byteCells l.reverse) :: X) := by
 have M : Mg w0 w (.row BY 1 (.slice (some ⟨gx, 0, none⟩) l.length cx) l.length ((Lib.byteCells l)) :: X) := hM0
 refine qy (l := [(0, .slice (some ⟨gx, 0, none⟩) l.length cx)]) Tryz.func115 rfl Tryz.ntmps115 rfl rfl ?_
 intro Q hret hnorm hP a A
 refine wsk fun K1 hK1 => wrl (sdm A λa A↦?_)
 refine sdo A (zg Tryz.underlying31 rfl) λa A↦?_
 refine sdo (v := .int .i64 (((l.length : Nat) : Int) - 1)) A (qe rfl rfl (ar_sub (in_i64 (by omega) (by omega)))) λa A↦?_
 iterate 2 refine sda A λa A↦?_
 refine qa (hK1 _ _ (wp_block (js (fun m_ a w1 => ∃ (i : Nat) (cur : List UInt8) (z : Int), m_ = l.length - i ∧ (Rv l cur i ∧ z = ((l.length : Nat) : Int) - 1 - ((i : Nat) : Int) ∧ 2 * i ≤ l.length + 1 ∧ i ≤ l.length) ∧ Sl a 28 [(0, .slice (some ⟨gx, 0, none⟩) l.length cx), (2, .int .i64 (((i : Nat) : Int))), (3, .int .i64 z), (4, .slice (some ⟨gx, 0, none⟩) l.length cx), (5, .int .i64 (((l.length : Nat) : Int))), (6, .int .i64 (((l.length : Nat) : Int) - 1))] ∧ Mg w0 w1 (.row BY 1 (.slice (some ⟨gx, 0, none⟩) l.length cx) l.length ((Lib.byteCells cur)) :: X)) _ ⟨0, l, (((l.length : Nat) : Int) - 1), rfl, ⟨Rv.start l, by omega, by omega, by omega⟩, A.keep _ ⟨rfl, rfl, rfl, rfl, rfl, rfl, trivial⟩, M⟩ ?_)))
 clear M A
 rintro m_ a w2 ⟨i, cur, z, rfl, hinv4, A, M⟩ K3 hK3
 obtain ⟨hrv, hz, hi2, hi3⟩ := hinv4
 refine wsk fun K5 hK5 => wsk fun K6 hK6 => wrl ?_
 iterate 2 refine sdm A λa A↦?_
 rcases tf (decide (((i : Nat) : Int) < z)) with hb7 | hb7
 ·
  have hb7' := of_decide_eq_true hb7
  refine sdo (v := .bool true) A (qe rfl rfl (fun w => (zt w).trans (by rw [hb7]))) λa A↦?_
  refine qa (hK6 _ _ (wp_cond_true (A.ev rfl) ?_))
  refine wp_skip (hK5 _ _ (wsk fun K8 hK8 => wp_block ?_))
  obtain ⟨jn, hjn⟩ : ∃ jn : Nat, z = ((jn : Nat) : Int) := ⟨z.toNat, by omega⟩
  have hcl := hrv.1
  refine jc (S := fun w1 => Mg w0 w1 ([])) (by kernel_rfl) ?_
  replace M := M.drew
  refine qh A 0 rfl rfl rfl rfl hP (M.sub (.cons _ (List.nil_sublist _))) (fun w1 M => qz rfl) λa A↦?_
  refine qh A 1 rfl rfl rfl rfl hP (M.sub (.cons _ (List.nil_sublist _))) (fun w1 M => qz rfl) λa A↦?_
  refine qh A 2 rfl rfl rfl rfl hP (M.sub (.cons _ (List.nil_sublist _))) (fun w1 M => qz rfl) λa A↦?_
  refine qh A 3 rfl rfl rfl rfl hP (M.sub (.cons _ (List.nil_sublist _))) (fun w1 M => qz rfl) λa A↦?_
  refine qh A 4 rfl rfl rfl rfl hP (M.sub (.cons _ (List.nil_sublist _))) (fun w1 M => qz rfl) λa A↦?_
  refine qh A 5 rfl rfl rfl rfl hP (M.sub (.cons _ (List.nil_sublist _))) (fun w1 M => qz rfl) λa A↦?_
  refine qh (v := .pointer (some ⟨gx, jn * 1, none⟩)) A 6 rfl rfl rfl rfl hP (M.sub (.cons _ (List.nil_sublist _))) (fun w1 M => jg Tryz.underlying31 (by kernel_rfl) rfl rfl hjn (show jn < l.length by omega)) λa A↦?_
  refine qh A 8 rfl rfl rfl rfl hP (M.sub (.cons _ (List.nil_sublist _))) (fun w1 M => qz rfl) λa A↦?_
  refine qh A 9 rfl rfl rfl rfl hP (M.sub (.cons _ (List.nil_sublist _))) (fun w1 M => qz rfl) λa A↦?_
  refine qh (v := .pointer (some ⟨gx, i * 1, none⟩)) A 10 rfl rfl rfl rfl hP (M.sub (.cons _ (List.nil_sublist _))) (fun w1 M => jg Tryz.underlying31 (by kernel_rfl) rfl rfl rfl (show i < l.length by omega)) λa A↦?_
  refine yr (rs := [7, 11]) (by kernel_rfl) (by simp) ⟨?_, ?_, trivial⟩
  ·
   refine qgj (v := .int .u8 ((((cur.getD jn 0).toNat : Nat) : Int))) A 7 rfl rfl rfl rfl (yk M 0 rfl (qvg (show jn < cur.length by omega)) ByE_is1_5 rfl) (M.sub (.cons _ (List.nil_sublist _))) λa A↦?_
   refine qt (by kernel_rfl) (qgj (v := .int .u8 ((((cur.getD i 0).toNat : Nat) : Int))) A 11 rfl rfl rfl rfl (yk M 0 rfl (qvg (show i < cur.length by omega)) ByE_is1_5 rfl) (M.sub (.cons _ (List.nil_sublist _))) ?_)
   intro a A
   refine qh (v := .pointer (some ⟨gx, i * 1, none⟩)) A 12 rfl rfl rfl rfl hP (M.sub (.cons _ (List.nil_sublist _))) (fun w1 M => jg Tryz.underlying31 (by kernel_rfl) rfl rfl rfl (show i < l.length by omega)) λa A↦?_
   refine qt (by kernel_rfl) (qdh (cs := [.int .u8 ((((cur.getD jn 0).toNat : Nat) : Int))]) (L' := (.row BY 1 (.slice (some ⟨gx, 0, none⟩) l.length cx) l.length ((over (Lib.byteCells cur) (i * 1) [.int .u8 ((((cur.getD jn 0).toNat : Nat) : Int))])) :: X)) (us := []) A M 13 rfl rfl rfl (kt rfl rfl rfl (by kernel_rfl) M 0 rfl (show i * 1 + 1 ≤ l.length * 1 by omega) rfl) 0 rfl rfl ?_)
   intro w9 M
   replace M : Mg w0 w9 (.row BY 1 (.slice (some ⟨gx, 0, none⟩) l.length cx) l.length ((Lib.byteCells (cur.set i (cur.getD jn 0)))) :: X) := by
    have h9 := M
    rw [qvh] at h9
    exact h9
   refine ⟨(M.sub (.cons _ (List.nil_sublist _))), ?_⟩
   refine qh (v := .pointer (some ⟨gx, jn * 1, none⟩)) A 14 rfl rfl rfl rfl hP (M.sub (.cons _ (List.nil_sublist _))) (fun w1 M => jg Tryz.underlying31 (by kernel_rfl) rfl rfl hjn (show jn < l.length by omega)) λa A↦?_
   refine qt (by kernel_rfl) (qdh (cs := [.int .u8 ((((cur.getD i 0).toNat : Nat) : Int))]) (L' := (.row BY 1 (.slice (some ⟨gx, 0, none⟩) l.length cx) l.length ((over (Lib.byteCells (cur.set i (cur.getD jn 0))) (jn * 1) [.int .u8 ((((cur.getD i 0).toNat : Nat) : Int))])) :: X)) (us := []) A M 15 rfl rfl rfl (kt rfl rfl rfl (by kernel_rfl) M 0 rfl (show jn * 1 + 1 ≤ l.length * 1 by omega) rfl) 0 rfl rfl ?_)
   intro w10 M
   replace M : Mg w0 w10 (.row BY 1 (.slice (some ⟨gx, 0, none⟩) l.length cx) l.length ((Lib.byteCells ((cur.set i (cur.getD jn 0)).set jn (cur.getD i 0)))) :: X) := by
    have h9 := M
    rw [qvh] at h9
    exact h9
   refine ⟨(M.sub (.cons _ (List.nil_sublist _))), ?_⟩
   refine zn (by kernel_rfl) ?_
   refine hK8 _ _ (wrl (sdm A λa A↦?_))
   refine sdo (v := .int .i64 (((i + 1 : Nat) : Int))) A (qe rfl rfl (ar_add ((in_i64 (by omega) (by omega)).trans (by omega)))) λa A↦?_
   refine sdm A λa A↦?_
   refine sdo (v := .int .i64 (z - 1)) A (qe rfl rfl (ar_sub (in_i64 (by omega) (by omega)))) λa A↦?_
   iterate 2 refine sda A λa A↦?_
   refine qa ?_
   refine hK3 _ _ _ (by omega) ⟨i + 1, (cur.set i (cur.getD jn 0)).set jn (cur.getD i 0), z - 1, rfl, ⟨hrv.step (j := jn) (by omega) (by omega), by omega, by omega, by omega⟩, A.keep _ ⟨rfl, rfl, rfl, rfl, rfl, rfl, trivial⟩, M⟩
  ·
   refine qgj (v := .int .u8 ((((cur.getD i 0).toNat : Nat) : Int))) A 11 rfl rfl rfl rfl (yk M 0 rfl (qvg (show i < cur.length by omega)) ByE_is1_5 rfl) (M.sub (.cons _ (List.nil_sublist _))) λa A↦?_
   refine qt (by kernel_rfl) (qgj (v := .int .u8 ((((cur.getD jn 0).toNat : Nat) : Int))) A 7 rfl rfl rfl rfl (yk M 0 rfl (qvg (show jn < cur.length by omega)) ByE_is1_5 rfl) (M.sub (.cons _ (List.nil_sublist _))) ?_)
   intro a A
   refine qh (v := .pointer (some ⟨gx, i * 1, none⟩)) A 12 rfl rfl rfl rfl hP (M.sub (.cons _ (List.nil_sublist _))) (fun w1 M => jg Tryz.underlying31 (by kernel_rfl) rfl rfl rfl (show i < l.length by omega)) λa A↦?_
   refine qt (by kernel_rfl) (qdh (cs := [.int .u8 ((((cur.getD jn 0).toNat : Nat) : Int))]) (L' := (.row BY 1 (.slice (some ⟨gx, 0, none⟩) l.length cx) l.length ((over (Lib.byteCells cur) (i * 1) [.int .u8 ((((cur.getD jn 0).toNat : Nat) : Int))])) :: X)) (us := []) A M 13 rfl rfl rfl (kt rfl rfl rfl (by kernel_rfl) M 0 rfl (show i * 1 + 1 ≤ l.length * 1 by omega) rfl) 0 rfl rfl ?_)
   intro w11 M
   replace M : Mg w0 w11 (.row BY 1 (.slice (some ⟨gx, 0, none⟩) l.length cx) l.length ((Lib.byteCells (cur.set i (cur.getD jn 0)))) :: X) := by
    have h9 := M
    rw [qvh] at h9
    exact h9
   refine ⟨(M.sub (.cons _ (List.nil_sublist _))), ?_⟩
   refine qh (v := .pointer (some ⟨gx, jn * 1, none⟩)) A 14 rfl rfl rfl rfl hP (M.sub (.cons _ (List.nil_sublist _))) (fun w1 M => jg Tryz.underlying31 (by kernel_rfl) rfl rfl hjn (show jn < l.length by omega)) λa A↦?_
   refine qt (by kernel_rfl) (qdh (cs := [.int .u8 ((((cur.getD i 0).toNat : Nat) : Int))]) (L' := (.row BY 1 (.slice (some ⟨gx, 0, none⟩) l.length cx) l.length ((over (Lib.byteCells (cur.set i (cur.getD jn 0))) (jn * 1) [.int .u8 ((((cur.getD i 0).toNat : Nat) : Int))])) :: X)) (us := []) A M 15 rfl rfl rfl (kt rfl rfl rfl (by kernel_rfl) M 0 rfl (show jn * 1 + 1 ≤ l.length * 1 by omega) rfl) 0 rfl rfl ?_)
   intro w12 M
   replace M : Mg w0 w12 (.row BY 1 (.slice (some ⟨gx, 0, none⟩) l.length cx) l.length ((Lib.byteCells ((cur.set i (cur.getD jn 0)).set jn (cur.getD i 0)))) :: X) := by
    have h9 := M
    rw [qvh] at h9
    exact h9
   refine ⟨(M.sub (.cons _ (List.nil_sublist _))), ?_⟩
   refine zn (by kernel_rfl) ?_
   refine hK8 _ _ (wrl (sdm A λa A↦?_))
   refine sdo (v := .int .i64 (((i + 1 : Nat) : Int))) A (qe rfl rfl (ar_add ((in_i64 (by omega) (by omega)).trans (by omega)))) λa A↦?_
   refine sdm A λa A↦?_
   refine sdo (v := .int .i64 (z - 1)) A (qe rfl rfl (ar_sub (in_i64 (by omega) (by omega)))) λa A↦?_
   iterate 2 refine sda A λa A↦?_
   refine qa ?_
   refine hK3 _ _ _ (by omega) ⟨i + 1, (cur.set i (cur.getD jn 0)).set jn (cur.getD i 0), z - 1, rfl, ⟨hrv.step (j := jn) (by omega) (by omega), by omega, by omega, by omega⟩, A.keep _ ⟨rfl, rfl, rfl, rfl, rfl, rfl, trivial⟩, M⟩
 ·
  have hb7' := of_decide_eq_false hb7
  refine sdo (v := .bool false) A (qe rfl rfl (fun w => (zt w).trans (by rw [hb7]))) λa A↦?_
  refine qa (hK6 _ _ (wp_cond_false (A.ev rfl) ?_))
  refine wp_exit (hnorm _ _ (ends (v := .tuple #[]) A rfl .nil rfl ?_))
  rw [← hrv.done (by omega) (by omega)]
  exact ⟨rfl, M⟩
theorem ByF_is1_3 : Is1 Tryz.prog 3 := ⟨⟨_, Tryz.underlying3, rfl⟩, by kernel_rfl⟩
theorem ByF_is1_4 : Is1 Tryz.prog 4 := ⟨⟨_, Tryz.underlying4, rfl⟩, by kernel_rfl⟩
theorem ByF_fld_65_0 : FieldAt Tryz.prog 65 0 0 := ⟨_, _, Tryz.underlying65, rfl, rfl, by kernel_rfl⟩
theorem ByF_fld_65_1 : FieldAt Tryz.prog 65 1 1 := ⟨_, _, Tryz.underlying65, rfl, rfl, by kernel_rfl⟩
theorem yu {w : World} {sp : Option Addr} {cp : Nat} {p : List UInt8} {sg : Bool} (hp : Rb w sp p) (hl : p.length ≤ 140737488351232) : Calls Tryz.prog 73 #[.agg #[.int .i64 ((p.length : Nat) : Int), .bool true, .bool sg], .slice sp p.length cp] w fun e w' => ∃ g, e = .returned (.slice (some ⟨g, 0, none⟩) p.length p.length) ∧ Mg w w' [.row BY 1 (.slice (some ⟨g, 0, none⟩) p.length p.length) p.length (Lib.byteCells p.reverse)] := by
 have M : Mg w w ([]) := Mg.start w
 refine qy (l := [(0, .agg #[.int .i64 (((p.length : Nat) : Int)), .bool true, .bool sg]), (1, .slice sp p.length cp)]) Tryz.func73 rfl Tryz.ntmps73 rfl rfl ?_
 intro Q hret hnorm hP a A
 refine wsk fun K1 hK1 => wrl (xm (vs := [.int .i64 (((p.length : Nat) : Int)), .bool true, .bool sg]) (t := 65) A M rfl rfl rfl pg (qw rfl rfl) (by decide) ?_)
 intro g2 w3 M a A
 refine sda A λa A↦?_
 refine qa (hK1 _ _ (wsk fun K4 hK4 => wrl (sdo (v := .pointer (some ⟨g2, 0, none⟩)) A (qf ByF_fld_65_0 rfl rfl) λa A↦?_)))
 refine sdo A (zq M ByF_is1_3 rfl 0 rfl rfl) λa A↦?_
 refine qlj (z := .int .u8 0) (sz := 1) (by_ := 1) (m := p.length) A M Tryz.underlying31 (by kernel_rfl) rfl rfl rfl rfl rfl rfl (by omega) (by omega) (.inr (qp (by simp) (zb zd))) ?_
 intro gx w5 M a A
 obtain ⟨mz, hmz⟩ : ∃ mz, (madeCells (.int .u8 0 : Value).cells (p.length * 1)).toList = mz := ⟨_, rfl⟩
 rw [hmz] at M
 have hml : mz.length = p.length := by rw [← hmz, Array.length_toList, size_madeCells, Nat.mul_one]
 refine sda A λa A↦?_
 refine qa (hK4 _ _ (wsk fun K6 hK6 => wrl ?_))
 iterate 2 refine sdm A λa A↦?_
 refine qli (v := .int .i64 (((p.length : Nat) : Int))) (cs := Lib.byteCells p) (L' := (.row BY 1 (.slice (some ⟨gx, 0, none⟩) p.length p.length) p.length ((over mz 0 (Lib.byteCells p))) :: .obj g2 (.cells #[.int .i64 (((p.length : Nat) : Int)), .bool true, .bool sg] 65) :: [])) A M rfl rfl rfl (qma Tryz.underlying31 (by kernel_rfl) M 0 rfl rfl (hp.below M.bel) rfl (by omega) (by omega)) 0 rfl rfl ?_
 intro w7 M a A
 replace M : Mg w w7 (.row BY 1 (.slice (some ⟨gx, 0, none⟩) p.length p.length) p.length ((Lib.byteCells p)) :: .obj g2 (.cells #[.int .i64 (((p.length : Nat) : Int)), .bool true, .bool sg] 65) :: []) := by
  have h9 := M
  rw [qph hml] at h9
  exact h9
 refine qa (hK6 _ _ (wsk fun K8 hK8 => wsk fun K9 hK9 => wrl (sdo (v := .pointer (some ⟨g2, 1, none⟩)) A (qf ByF_fld_65_1 rfl rfl) λa A↦?_)))
 refine sdo A (zq M ByF_is1_4 rfl 1 rfl rfl) λa A↦?_
 refine qa (hK9 _ _ (wp_cond_true (A.ev rfl) ?_))
 refine wrl (sdm A λa A↦?_)
 refine qg A rfl rfl rfl (qb rfl rfl (fun w => by kernel_rfl)) (reverse_any (qp (by simp) (zb zd)) hl M) ?_
 rintro _ w11 ⟨rfl, hM10⟩
 replace M : Mg w w11 (.row BY 1 (.slice (some ⟨gx, 0, none⟩) p.length p.length) p.length ((Lib.byteCells p.reverse)) :: .obj g2 (.cells #[.int .i64 (((p.length : Nat) : Int)), .bool true, .bool sg] 65) :: []) := hM10
 refine ⟨_, rfl, ?_⟩
 intro a A
 refine qa (hK8 _ _ (wsk fun K12 hK12 => wrl (sdm A λa A↦?_)))
 refine sda A λa A↦?_
 refine qa (hK12 _ _ (wp_ret (hret _ _ (en1 A rfl (qj rfl) ?_))))
 exact ⟨gx, rfl, M.sub (.cons_cons _ (.cons _ (.refl _)))⟩
theorem yh {w : World} {sp : Option Addr} {cp : Nat} {p : List UInt8} {sg : Bool} (hp : Rb w sp p) (hl : p.length ≤ 140737488351232) : Calls Tryz.prog 73 #[.agg #[.int .i64 ((p.length : Nat) : Int), .bool false, .bool sg], .slice sp p.length cp] w fun e w' => ∃ g, e = .returned (.slice (some ⟨g, 0, none⟩) p.length p.length) ∧ Mg w w' [.row BY 1 (.slice (some ⟨g, 0, none⟩) p.length p.length) p.length (Lib.byteCells p)] := by
 have M : Mg w w ([]) := Mg.start w
 refine qy (l := [(0, .agg #[.int .i64 (((p.length : Nat) : Int)), .bool false, .bool sg]), (1, .slice sp p.length cp)]) Tryz.func73 rfl Tryz.ntmps73 rfl rfl ?_
 intro Q hret hnorm hP a A
 refine wsk fun K1 hK1 => wrl (xm (vs := [.int .i64 (((p.length : Nat) : Int)), .bool false, .bool sg]) (t := 65) A M rfl rfl rfl pg (qw rfl rfl) (by decide) ?_)
 intro g2 w3 M a A
 refine sda A λa A↦?_
 refine qa (hK1 _ _ (wsk fun K4 hK4 => wrl (sdo (v := .pointer (some ⟨g2, 0, none⟩)) A (qf ByF_fld_65_0 rfl rfl) λa A↦?_)))
 refine sdo A (zq M ByF_is1_3 rfl 0 rfl rfl) λa A↦?_
 refine qlj (z := .int .u8 0) (sz := 1) (by_ := 1) (m := p.length) A M Tryz.underlying31 (by kernel_rfl) rfl rfl rfl rfl rfl rfl (by omega) (by omega) (.inr (qp (by simp) (zb zd))) ?_
 intro gx w5 M a A
 obtain ⟨mz, hmz⟩ : ∃ mz, (madeCells (.int .u8 0 : Value).cells (p.length * 1)).toList = mz := ⟨_, rfl⟩
 rw [hmz] at M
 have hml : mz.length = p.length := by rw [← hmz, Array.length_toList, size_madeCells, Nat.mul_one]
 refine sda A λa A↦?_
 refine qa (hK4 _ _ (wsk fun K6 hK6 => wrl ?_))
 iterate 2 refine sdm A λa A↦?_
 refine qli (v := .int .i64 (((p.length : Nat) : Int))) (cs := Lib.byteCells p) (L' := (.row BY 1 (.slice (some ⟨gx, 0, none⟩) p.length p.length) p.length ((over mz 0 (Lib.byteCells p))) :: .obj g2 (.cells #[.int .i64 (((p.length : Nat) : Int)), .bool false, .bool sg] 65) :: [])) A M rfl rfl rfl (qma Tryz.underlying31 (by kernel_rfl) M 0 rfl rfl (hp.below M.bel) rfl (by omega) (by omega)) 0 rfl rfl ?_
 intro w7 M a A
 replace M : Mg w w7 (.row BY 1 (.slice (some ⟨gx, 0, none⟩) p.length p.length) p.length ((Lib.byteCells p)) :: .obj g2 (.cells #[.int .i64 (((p.length : Nat) : Int)), .bool false, .bool sg] 65) :: []) := by
  have h9 := M
  rw [qph hml] at h9
  exact h9
 refine qa (hK6 _ _ (wsk fun K8 hK8 => wsk fun K9 hK9 => wrl (sdo (v := .pointer (some ⟨g2, 1, none⟩)) A (qf ByF_fld_65_1 rfl rfl) λa A↦?_)))
 refine sdo A (zq M ByF_is1_4 rfl 1 rfl rfl) λa A↦?_
 refine qa (hK9 _ _ (wp_cond_false (A.ev rfl) ?_))
 refine wp_skip (hK8 _ _ (wsk fun K10 hK10 => wrl (sdm A λa A↦?_)))
 refine sda A λa A↦?_
 refine qa (hK10 _ _ (wp_ret (hret _ _ (en1 A rfl (qj rfl) ?_))))
 exact ⟨gx, rfl, M.sub (.cons_cons _ (.cons _ (.refl _)))⟩
end Go.Proofs.YtjkpfnghiooblaaGreatDoor.G
