/- Rows of elements of some cells: stored into, cut, made, copied, appended to; texts compared. -/
import Derived.Test.YtbdhfooeanbnlaaMu
import Derived.Lib.AppendZerosOnto
import Derived.Lib.Bytealg
import Derived.Laws.OwnMore
import Derived.Laws.Strings
namespace Go.Proofs.Ytbdhfooeanbnlaa
open Go.RowKit Go.Lib
set_option linter.unusedVariables false
set_option linter.unusedSimpArgs false
section
variable {w0 w : World} {L : List Ck} {e : TypeId} {sz g n cap : Nat} {xs : List Value}
theorem Mg.rowPut (h : Mg w0 w L) (k : Nat) (hk : L[k]? = some (.row e sz (.slice (some ⟨g, 0, none⟩) n cap) n xs)) (j : Nat) (u : Value) : Mg w0 (w.setCell ⟨g, j, none⟩ u) (L.set k (.row e sz (.slice (some ⟨g, 0, none⟩) n cap) n (xs.set j u))) := by
  have hs := World.ownsRow.stored (show w.ownsRow w0.heap.size e sz (.slice (some ⟨g, 0, none⟩) n cap) n xs from h.has k hk) j u
  exact h.turn k hk (by simp) hs.2 hs.1 (fun d _ ha => by cases d <;> exact ha)
theorem Mg.rowPuts : ∀ (cs : List Value) (w : World) (L : List Ck) (xs : List Value) (o : Nat), Mg w0 w L → ∀ k, L[k]? = some (.row e sz (.slice (some ⟨g, 0, none⟩) n cap) n xs) → Mg w0 (w.setCells g o cs) (L.set k (.row e sz (.slice (some ⟨g, 0, none⟩) n cap) n (over xs o cs)))
  | [], w, L, xs, o, h, k, hk => by
    rw [show L.set k (.row e sz (.slice (some ⟨g, 0, none⟩) n cap) n (over xs o [])) = L from set_same hk]
    exact h
  | c :: cs, w, L, xs, o, h, k, hk => by
    have h1 := h.rowPut k hk o c
    have hk1 : (L.set k (.row e sz (.slice (some ⟨g, 0, none⟩) n cap) n (xs.set o c)))[k]? = some (.row e sz (.slice (some ⟨g, 0, none⟩) n cap) n (xs.set o c)) := List.getElem?_set_self (List.getElem?_eq_some_iff.1 hk).1
    have h2 := Mg.rowPuts cs _ _ (xs.set o c) (o + 1) h1 k hk1
    rw [List.set_set] at h2
    exact h2
/-- Fewer of a row's elements. -/
theorem Mg.rowCut (h : Mg w0 w L) (k : Nat) (hk : L[k]? = some (.row e sz (.slice (some ⟨g, 0, none⟩) n cap) n xs)) {m : Nat} (hm : m ≤ n) : Mg w0 w (L.set k (.row e sz (.slice (some ⟨g, 0, none⟩) m cap) m (xs.take (m * sz)))) := by
  have hr := h.has k hk
  refine ⟨h.bel, fun d hd => ?_, dis_set h.dis hk (fun d _ ha => by cases d <;> exact ha)⟩
  rcases mem_set h.dis hk hd with rfl | ⟨hd, _⟩
  · have hml : m * sz ≤ n * sz := Nat.mul_le_mul_right _ hm
    refine ⟨by rw [List.length_take, hr.1]; omega, ?_⟩
    rcases hr.2 with ⟨he, _⟩ | ⟨g', cap', cur, he, a, b, c, d, f, ht⟩
    · cases he
    · cases he
      exact .inr ⟨g, cap, cur, rfl, a, b, by omega, d, f, by rw [← ht, List.take_take, Nat.min_eq_left hml]⟩
  · exact h.all d hd
/-- A row's value told anew. -/
theorem over_len : ∀ (cs : List Value) (xs : List Value) (o : Nat), (over xs o cs).length = xs.length
  | [], _, _ => rfl
  | c :: cs, xs, o => by show (over (xs.set o c) (o + 1) cs).length = _; rw [over_len cs, List.length_set]
theorem over_at : ∀ (cs : List Value) (xs : List Value) (o i : Nat), o + cs.length ≤ xs.length → (over xs o cs)[i]? = if o ≤ i ∧ i < o + cs.length then cs[i - o]? else xs[i]?
  | [], xs, o, i, _ => by
    show xs[i]? = _
    rw [if_neg (by simp only [List.length_nil]; omega)]
  | c :: cs, xs, o, i, h => by
    rw [List.length_cons] at h
    show (over (xs.set o c) (o + 1) cs)[i]? = _
    rw [over_at cs (xs.set o c) (o + 1) i (by rw [List.length_set]; omega)]
    by_cases h1 : o + 1 ≤ i ∧ i < o + 1 + cs.length
    · rw [if_pos h1, if_pos (by rw [List.length_cons]; omega), show i - o = (i - (o + 1)) + 1 from by omega, List.getElem?_cons_succ]
    · rw [if_neg h1]
      by_cases h2 : o = i
      · subst h2
        rw [List.getElem?_set_self (by omega), if_pos (by rw [List.length_cons]; omega), Nat.sub_self, List.getElem?_cons_zero]
      · rw [List.getElem?_set_ne h2, if_neg (by rw [List.length_cons]; omega)]
theorem over_eq {xs cs : List Value} {o : Nat} (h : o + cs.length ≤ xs.length) : over xs o cs = xs.take o ++ cs ++ xs.drop (o + cs.length) := by
  apply List.ext_getElem?
  intro i
  rw [over_at cs xs o i h]
  by_cases h1 : i < o
  · rw [if_neg (by omega), List.append_assoc, List.getElem?_append_left (by rw [List.length_take]; omega), List.getElem?_take_of_lt h1]
  · rw [List.append_assoc, List.getElem?_append_right (by rw [List.length_take]; omega), List.length_take, Nat.min_eq_left (by omega)]
    by_cases h2 : i < o + cs.length
    · rw [if_pos ⟨by omega, h2⟩, List.getElem?_append_left (by omega)]
    · rw [if_neg (by omega), List.getElem?_append_right (by omega), List.getElem?_drop]
      congr 1
      omega
end
section
variable {P : Program} {w0 w : World} {L : List Ck} {l : List (Nat × Value)} {dst : Option Tmp} {ty : TypeId} {pos : String} {after : Array Edge} {guard : Option (Nat × Bool)} {v : Value}
theorem m_storeE {t : TypeId} {x y : Operand} {g o : Nat} {u : Value} {cs : List Value} (hx : ev l x = some (.pointer (some ⟨g, o, none⟩))) (hy : ev l y = some u) (hc : u.cells = cs.toArray) (hn : (P.info? t).map (·.size) = some cs.length)
    (hM : Mg w0 w L) (k : Nat) {e : TypeId} {sz n cap : Nat} {xs : List Value} (hk : L[k]? = some (.row e sz (.slice (some ⟨g, 0, none⟩) n cap) n xs)) (hl : o + cs.length ≤ n * sz) (h1 : cs.all Value.oneCell' = true) : Sets P l ⟨dst, .store t x y, ty, pos, after, guard⟩ w (w.setCells g o cs) := fun ρ h => by
  obtain ⟨i, hi, hsz⟩ := info_size hn
  have hr : w.ownsRow w0.heap.size e sz (.slice (some ⟨g, 0, none⟩) n cap) n xs := hM.has k hk
  have hxl : xs.length = n * sz := hr.1
  have h2 : (sizeOf t).run P w = .ok cs.length w := by simp [sizeOf, typeInfo, hi, hsz]
  have h3 := run_storeCells_cells (P := P) g o cs 0 w (fun j hj => by
      rw [World.ownsRow.cellAt hr (o + 0 + j) (by omega), List.getElem?_eq_getElem (by omega)]; rfl) (fun j hj => World.ownsRow.frozenAt hr _) (fun v hv => List.all_eq_true.1 h1 v hv)
  rw [Nat.add_zero] at h3
  have h4 : u.cells.toList = cs := by rw [hc]
  simp only [execOp, h x _ hx, h y _ hy, Instr.storeAt, Instr.sureAddr, Sem.run_bind, Sem.run_pure, Result.andThen_ok, storeVar, h2, hc, List.size_toArray, ne_eq, not_true_eq_false, if_false, List.toList_toArray, h3]
theorem res_cellS (hM : Mg w0 w L) {c : Tmp} {t : TypeId} {m : Nat} (ht : IsS P t m) {g o : Nat} (hx : look l c = some (.pointer (some ⟨g, o, none⟩))) (k : Nat) {vs cs : List Value} {e : TypeId} (hk : L[k]? = some (.obj g (.cells vs.toArray e))) (hcs : (vs.drop o).take m = cs) (hl : cs.length = m) : resOf P l w (.cell c t) (.agg cs.toArray) :=
  ⟨_, hx, run_loadS ht cs hl (fun j v hj => hM.cell k hk (o + j) (by
    have hjn : j < m := by rw [← hl]; exact (List.getElem?_eq_some_iff.1 hj).1
    rw [← hcs, List.getElem?_take, if_pos hjn, List.getElem?_drop] at hj
    exact hj))⟩
/-- Two cells that were there. -/
theorem m_loadR2 (hM : Mg w0 w L) {b o : Nat} (hlt : b < w0.heap.size) {u v : Value} (h0 : w0.cell? ⟨b, o, none⟩ = some u) (h1 : w0.cell? ⟨b, o + 1, none⟩ = some v) {t : TypeId} (ht : IsS P t 2) {x : Operand} (hx : ev l x = some (.pointer (some ⟨b, o, none⟩))) : Does P l ⟨dst, .load t x, ty, pos, after, guard⟩ w (.agg #[u, v]) w :=
  does_load hx (run_loadS ht [u, v] rfl (fun j z hj => by
    match j, hj with
    | 0, hj => cases hj; exact (hM.bel.cell hlt).trans h0
    | 1, hj => cases hj; exact (hM.bel.cell hlt).trans h1
    | j + 2, hj => simp at hj))
/-- The place of an element of a row that was there. -/
theorem does_indexA {t e : TypeId} {sz : Nat} (hu : P.underlying t = some (.slice e)) (he : (P.info? e).map (·.size) = some sz) {x i : Operand} {so : Option Addr} {b off n c k : Nat} {z : Int} (hx : ev l x = some (.slice so n c)) (hi : ev l i = some (.int .i64 z)) (hz : z = (k : Nat)) (hso : so = some ⟨b, off, none⟩) (hk : k < n) :
    Does P l ⟨dst, .indexAddr t x i, ty, pos, after, guard⟩ w (.pointer (some ⟨b, off + k * sz, none⟩)) w := by
  subst hso hz
  exact does_indexI hx hi (run_indexE hu he hk)
/-! Parts of slices. -/
def dropA (so : Option Addr) (cap lo : Nat) : Option Addr := if cap = lo then so else so.map (·.add lo)
theorem does_from {t e : TypeId} (ht : P.underlying t = some (.slice e)) (he : (P.info? e).map (·.size) = some 1) {x y : Operand} {so : Option Addr} {n cap lo : Nat} {z : Int} (hx : ev l x = some (.slice so n cap)) (hy : ev l y = some (.int .i64 z)) (hz : z = ((lo : Nat) : Int)) (hp : lo ≤ n) : Does P l ⟨dst, .slice t x (some y) none none, ty, pos, after, guard⟩ w (.slice (dropA so cap lo) (n - lo) (cap - lo)) w := fun ρ h => by
  subst hz
  obtain ⟨i, hi, hs⟩ := info_size he
  have h2 : (sizeOf e).run P w = .ok 1 w := by simp [sizeOf, typeInfo, hi, hs]
  have h1 : (0 : Int) ≤ (lo : Nat) ∧ ((lo : Nat) : Int) ≤ (n : Int) := ⟨by omega, by omega⟩
  simp [execOp, h x _ hx, h y _ hy, Instr.sliceAt, Instr.slice, Instr.sliceBounds, Instr.sliceBound, asIntOf, run_underlying ht, h1, h2, dropA]
  try (intro hc; omega)
theorem Rb.drop {w : World} {so : Option Addr} {l : List UInt8} (h : Rb w so l) (cap lo : Nat) (hc : l.length ≤ cap) : Rb w (dropA so cap lo) (l.drop lo) := by
  refine ⟨fun hne => ?_⟩
  have hlo : lo < l.length := by
    apply Classical.byContradiction
    intro k
    exact hne (List.drop_eq_nil_of_le (by omega))
  obtain ⟨b, off, rfl, h2, h3⟩ := h.pos (fun k => by rw [k] at hlo; exact absurd hlo (Nat.not_lt_zero _))
  unfold dropA
  rw [if_neg (by omega)]
  refine ⟨b, off + lo, by simp [addr_add], h2, fun j hj => ?_⟩
  rw [List.length_drop] at hj
  rw [Nat.add_assoc, h3 (lo + j) (by omega), List.getD_eq_getElem?_getD, List.getD_eq_getElem?_getD, List.getElem?_drop]
/-- .. of rows of the call's own. -/
theorem does_fromX {t e : TypeId} {sz : Nat} (ht : P.underlying t = some (.slice e)) (he : (P.info? e).map (·.size) = some sz) {x y : Operand} {g n cap lo : Nat} {z : Int} (hx : ev l x = some (.slice (some ⟨g, 0, none⟩) n cap)) (hy : ev l y = some (.int .i64 z)) (hz : z = ((lo : Nat) : Int)) (hp : lo ≤ n) (hne : cap ≠ lo) : Does P l ⟨dst, .slice t x (some y) none none, ty, pos, after, guard⟩ w (.slice (some ⟨g, lo * sz, none⟩) (n - lo) (cap - lo)) w := fun ρ h => by
  subst hz
  obtain ⟨i, hi, hs⟩ := info_size he
  have h2 : (sizeOf e).run P w = .ok sz w := by simp [sizeOf, typeInfo, hi, hs]
  have h1 : (0 : Int) ≤ (lo : Nat) ∧ ((lo : Nat) : Int) ≤ (n : Int) := ⟨by omega, by omega⟩
  simp [execOp, h x _ hx, h y _ hy, Instr.sliceAt, Instr.slice, Instr.sliceBounds, Instr.sliceBound, asIntOf, run_underlying ht, h1, h2, hne, addr_add]
  try (intro hc; omega)
theorem does_anyFrom {t e : TypeId} {sz : Nat} (ht : P.underlying t = some (.slice e)) (he : (P.info? e).map (·.size) = some sz) {x y : Operand} {so : Option Addr} {n cap lo : Nat} {z : Int} (hx : ev l x = some (.slice so n cap)) (hy : ev l y = some (.int .i64 z)) (hz : z = ((lo : Nat) : Int)) (hp : lo ≤ n) : Does P l ⟨dst, .slice t x (some y) none none, ty, pos, after, guard⟩ w (.slice (if cap = lo then so else so.map (·.add (lo * sz))) (n - lo) (cap - lo)) w := fun ρ h => by
  subst hz
  obtain ⟨i, hi, hs⟩ := info_size he
  have h2 : (sizeOf e).run P w = .ok sz w := by simp [sizeOf, typeInfo, hi, hs]
  have h1 : (0 : Int) ≤ (lo : Nat) ∧ ((lo : Nat) : Int) ≤ (n : Int) := ⟨by omega, by omega⟩
  simp [execOp, h x _ hx, h y _ hy, Instr.sliceAt, Instr.slice, Instr.sliceBounds, Instr.sliceBound, asIntOf, run_underlying ht, h1, h2]
  try (intro hc; omega)
theorem does_upto {t e : TypeId} {sz : Nat} (ht : P.underlying t = some (.slice e)) (he : (P.info? e).map (·.size) = some sz) {x y : Operand} {so : Option Addr} {n cap hi : Nat} {z : Int} (hx : ev l x = some (.slice so n cap)) (hy : ev l y = some (.int .i64 z)) (hz : z = ((hi : Nat) : Int)) (hp : hi ≤ cap) : Does P l ⟨dst, .slice t x none (some y) none, ty, pos, after, guard⟩ w (.slice so hi cap) w := fun ρ h => by
  subst hz
  obtain ⟨i, hii, hs⟩ := info_size he
  have h2 : (sizeOf e).run P w = .ok sz w := by simp [sizeOf, typeInfo, hii, hs]
  have h1 : (0 : Int) ≤ (hi : Nat) ∧ ((hi : Nat) : Int) ≤ (cap : Int) := ⟨by omega, by omega⟩
  have ha : ∀ a : Addr, a.add 0 = a := fun a => by unfold Addr.add; simp
  cases so with
  | none => simp [execOp, h x _ hx, h y _ hy, Instr.sliceAt, Instr.slice, Instr.sliceBounds, Instr.sliceBound, asIntOf, run_underlying ht, h1, h2, ha]; try (intro hc; omega)
  | some a => simp [execOp, h x _ hx, h y _ hy, Instr.sliceAt, Instr.slice, Instr.sliceBounds, Instr.sliceBound, asIntOf, run_underlying ht, h1, h2, ha]; try (intro hc; omega)
/-- A row is copied into a row of the call's own. -/
theorem m_copyE {t t2 e : TypeId} {sz : Nat} (ht : P.underlying t = some (.slice e)) (he : (P.info? e).map (·.size) = some sz) {x y : Operand} (hM : Mg w0 w L) (k : Nat) {g n cap : Nat} {xs : List Value} (hk : L[k]? = some (.row e sz (.slice (some ⟨g, 0, none⟩) n cap) n xs)) {o dl dc : Nat} (hx : ev l x = some (.slice (some ⟨g, o, none⟩) dl dc)) {b o2 sl sc : Nat} (hy : ev l y = some (.slice (some ⟨b, o2, none⟩) sl sc)) (hsl : sl ≤ dl) {news : List Value} (hl : news.length = sl * sz) (hn : ∀ j u, news[j]? = some u → w.cell? ⟨b, o2 + j, none⟩ = some u) (h1 : ∀ u ∈ news, u.oneCell' = true) (hr : o + news.length ≤ n * sz) :
    Does P l ⟨dst, .call ⟨.builtin .copy, #[x, y], #[t, t2]⟩, ty, pos, after, guard⟩ w (.int .i64 ((sl : Nat) : Int)) (w.setCells g o news) := by
  obtain ⟨i, hi, hs⟩ := info_size he
  have h2 : ∀ w : World, (sizeOf e).run P w = .ok sz w := fun w => by simp [sizeOf, typeInfo, hi, hs]
  have hrow : w.ownsRow w0.heap.size e sz (.slice (some ⟨g, 0, none⟩) n cap) n xs := hM.has k hk
  have hxl : xs.length = n * sz := hrow.1
  have h3 := run_storeCells_cells (P := P) g o news 0 w (fun j hj => by
      rw [World.ownsRow.cellAt hrow (o + 0 + j) (by omega), List.getElem?_eq_getElem (by omega)]; rfl) (fun j hj => World.ownsRow.frozenAt hrow _) h1
  rw [Nat.add_zero] at h3
  have h4 := run_loadCells_list (P := P) w ⟨b, o2, none⟩ news (fun j u hj => by rw [addr_add]; exact hn j u hj)
  rw [hl] at h4
  intro ρ h
  simp [execOp, resolve, invoke, builtin, h x _ hx, h y _ hy, Builtin.copy_, run_underlying ht, h2, Builtin.lenOf, Builtin.firstCells, Nat.min_eq_left hsl, h4, h3, goInt]
end
section
variable {P : Program} {w0 w : World} {L : List Ck} {l : List (Nat × Value)} {ops : List Oper} {Q : Exit → Act → World → Prop} {a : Act} {n : Nat} {o : Oper} {rest : List Oper} {d : Nat} {S : World → Prop} {md : Region.Mode} {fuel : Nat} {listed : Array Bool}
theorem s_storeE (hA : Sl a n l) (hM : Mg w0 w L) (hg : passes l ops o = true) (hdst : o.dst = none) {g q : Nat} {cs us : List Value} {e : TypeId} {sz m cap : Nat} {xs : List Value} (he : Sets P l o w (w.setCells g q cs)) (k : Nat) (hk0 : L[k]? = some (.row e sz (.slice (some ⟨g, 0, none⟩) m cap) m xs)) {L' : List Ck} (hL : L.set k (.row e sz (.slice (some ⟨g, 0, none⟩) m cap) m (over xs q cs)) = L')
    (hk : ∀ w', Mg w0 w' L' → wpList P ops.toArray Q rest a w') : wpList P ops.toArray Q (o :: rest) a w :=
  seq_set hA hg hdst he (hk _ (by subst hL; exact Mg.rowPuts cs w L xs q hM k hk0))
theorem g_storeE (hA : Sl a n l) (hM : Mg w0 w L) (i : Nat) (hi : ops[i]? = some o) (hg : passes l ops o = true) (hdst : o.dst = none) {g q : Nat} {cs us : List Value} {e : TypeId} {sz m cap : Nat} {xs : List Value} (he : Sets P l o w (w.setCells g q cs)) (k : Nat) (hk0 : L[k]? = some (.row e sz (.slice (some ⟨g, 0, none⟩) m cap) m xs)) {L' : List Ck} (hL : L.set k (.row e sz (.slice (some ⟨g, 0, none⟩) m cap) m (over xs q cs)) = L')
    (hk : ∀ w', Mg w0 w' L' → S w' ∧ wpAnyH P md ops.toArray Q S fuel (listed.setIfInBounds i true) a w') : wpOp P ops.toArray Q i (fun a' w' => S w' ∧ wpAnyH P md ops.toArray Q S fuel (listed.setIfInBounds i true) a' w') a w := by
  have h := hk _ (by subst hL; exact Mg.rowPuts cs w L xs q hM k hk0)
  exact op_set hA i hi hg hdst he h.1 h.2
theorem s_copyE (hA : Sl a n l) (hM : Mg w0 w L) (hg : passes l ops o = true) (hdst : o.dst = some d) (hd : Nat.blt d n = true) {g q : Nat} {cs : List Value} {v : Value} {e : TypeId} {sz m cap : Nat} {xs : List Value} (he : Does P l o w v (w.setCells g q cs)) (k : Nat) (hk0 : L[k]? = some (.row e sz (.slice (some ⟨g, 0, none⟩) m cap) m xs)) {L' : List Ck} (hL : L.set k (.row e sz (.slice (some ⟨g, 0, none⟩) m cap) m (over xs q cs)) = L')
    (hk : ∀ w', Mg w0 w' L' → ∀ a', Sl a' n ((d, v) :: l) → wpList P ops.toArray Q rest a' w') : wpList P ops.toArray Q (o :: rest) a w :=
  seq_do hA hg hdst hd he (hk _ (by subst hL; exact Mg.rowPuts cs w L xs q hM k hk0))
theorem g_copyE (hA : Sl a n l) (hM : Mg w0 w L) (i : Nat) (hi : ops[i]? = some o) (hg : passes l ops o = true) (hdst : o.dst = some d) (hd : Nat.blt d n = true) {g q : Nat} {cs : List Value} {v : Value} {e : TypeId} {sz m cap : Nat} {xs : List Value} (he : Does P l o w v (w.setCells g q cs)) (k : Nat) (hk0 : L[k]? = some (.row e sz (.slice (some ⟨g, 0, none⟩) m cap) m xs)) {L' : List Ck} (hL : L.set k (.row e sz (.slice (some ⟨g, 0, none⟩) m cap) m (over xs q cs)) = L')
    (hk : ∀ w', Mg w0 w' L' → S w' ∧ ∀ a', Sl a' n ((d, v) :: l) → wpAnyH P md ops.toArray Q S fuel (listed.setIfInBounds i true) a' w') : wpOp P ops.toArray Q i (fun a' w' => S w' ∧ wpAnyH P md ops.toArray Q S fuel (listed.setIfInBounds i true) a' w') a w := by
  have h := hk _ (by subst hL; exact Mg.rowPuts cs w L xs q hM k hk0)
  exact op_do hA i hi hg hdst hd he h.1 h.2
/-- A row is made. -/
theorem s_makeE (hA : Sl a n l) (hM : Mg w0 w L) {t e ty : TypeId} {z : Value} {sz by_ : Nat} {dst : Option Tmp} {pos : String} {after : Array Edge} {guard : Option (Nat × Bool)} (ht : P.underlying t = some (.slice e)) (hinfo : (P.info? e).map (fun i => (i.zero, i.size, i.bytes)) = some (some z, sz, by_)) {x y : Operand} {m : Nat} (hx : ev l x = some (.int .i64 ((m : Nat) : Int))) (hy : ev l y = some (.int .i64 ((m : Nat) : Int))) (ho : o = ⟨dst, .makeSlice t x y, ty, pos, after, guard⟩) (hg : passes l ops o = true) (hdst : o.dst = some d) (hd : Nat.blt d n = true) (hb : by_ * m ≤ 281474976710656) (h63 : m ≤ 9223372036854775807) (hnb : e ≠ BY ∨ noBld L)
    (hk : ∀ g w', Mg w0 w' (.row e sz (.slice (some ⟨g, 0, none⟩) m m) m (madeCells z.cells (m * sz)).toList :: L) → ∀ a', Sl a' n ((d, .slice (some ⟨g, 0, none⟩) m m) :: l) → wpList P ops.toArray Q rest a' w') : wpList P ops.toArray Q (o :: rest) a w := by
  subst ho
  obtain ⟨i, hi, hzz⟩ := Option.map_eq_some_iff.1 hinfo
  simp only [Prod.mk.injEq] at hzz
  obtain ⟨hz, hs, hbb⟩ := hzz
  obtain ⟨w', hr, hown, hgr⟩ := run_make_full (P := P) (w := w) w0.heap.size t e i z sz ht hi hz hs .i64 .i64 m (by rw [hbb]; exact hb) (by unfold maxLen; omega) hM.bel.size
  have hbel : Below w.heap.size w w' := ⟨hgr.os, hgr.tape, hgr.output, hgr.size, fun k hk => hgr.block k hk (by simp)⟩
  refine seq_do hA hg hdst hd (v := .slice (some ⟨w.heap.size, 0, none⟩) m m) (w' := w') (fun ρ h => ?_) (hk w.heap.size w' (hM.add hbel hown (fun k e => by simp [Ck.at_, Value.ownBlock] at e; omega) (.inr (.inl ⟨_, _, _, _, _, rfl, hnb⟩))))
  simp only [execOp, h x _ hx, h y _ hy, Sem.run_bind, hr, Result.andThen_ok, Sem.run_pure]
end
/-! ### Names -/
def ltN (a b : ByteArray) : Bool := Op.bytesLess a.data.toList b.data.toList
theorem less_irrefl : ∀ a : List UInt8, Op.bytesLess a a = false
  | [] => rfl
  | a :: t => by
    show (decide (a < a) || (a == a && Op.bytesLess t t)) = false
    rw [less_irrefl t]
    simp
theorem less_trans : ∀ a b c : List UInt8, Op.bytesLess a b = true → Op.bytesLess b c = true → Op.bytesLess a c = true
  | _, [], _, h, _ => by simp [Op.bytesLess] at h
  | _, _ :: _, [], _, h => by cases h
  | [], _ :: _, _ :: _, _, _ => rfl
  | a :: x, b :: y, c :: z, h1, h2 => by
    simp only [Op.bytesLess, Bool.or_eq_true, Bool.and_eq_true, decide_eq_true_eq, beq_iff_eq] at *
    rcases h1 with h1 | ⟨rfl, h1⟩
    · rcases h2 with h2 | ⟨rfl, h2⟩
      · exact .inl (UInt8.lt_trans h1 h2)
      · exact .inl h1
    · rcases h2 with h2 | ⟨rfl, h2⟩
      · exact .inl h2
      · exact .inr ⟨rfl, less_trans x y z h1 h2⟩
theorem less_total : ∀ a b : List UInt8, Op.bytesLess a b = false → a ≠ b → Op.bytesLess b a = true
  | [], [], _, h => absurd rfl h
  | [], _ :: _, h, _ => by cases h
  | _ :: _, [], _, _ => rfl
  | a :: x, b :: y, h1, h2 => by
    simp only [Op.bytesLess, Bool.or_eq_false_iff, Bool.or_eq_true, Bool.and_eq_true, decide_eq_true_eq, decide_eq_false_iff_not, beq_iff_eq] at *
    by_cases e : a = b
    · subst e
      refine .inr ⟨rfl, less_total x y ?_ (fun k => h2 (by rw [k]))⟩
      have := h1.2
      simpa using this
    · left
      rcases UInt8.lt_or_lt_of_ne e with k | k
      · exact absurd k h1.1
      · exact k
theorem cmp_less : ∀ a b : List UInt8, compareBytes a b = if Op.bytesLess a b = true then -1 else if a = b then 0 else 1
  | [], [] => rfl
  | [], _ :: _ => rfl
  | _ :: _, [] => rfl
  | a :: x, b :: y => by
    show (if a < b then (-1 : Int) else if b < a then 1 else compareBytes x y) = _
    simp only [Op.bytesLess, Bool.or_eq_true, Bool.and_eq_true, decide_eq_true_eq, beq_iff_eq]
    by_cases h1 : a < b
    · rw [if_pos h1, if_pos (.inl h1)]
    · rw [if_neg h1]
      by_cases h2 : b < a
      · have hne : a ≠ b := fun k => by subst k; exact h1 h2
        rw [if_pos h2, if_neg (by rintro (k | ⟨k, _⟩); exact h1 k; exact hne k), if_neg (by intro k; cases k; exact hne rfl)]
      · have he : a = b := by
          apply Classical.byContradiction
          intro k
          rcases UInt8.lt_or_lt_of_ne k with q | q
          · exact h1 q
          · exact h2 q
        subst he
        have q1 : (a < a ∨ a = a ∧ Op.bytesLess x y = true) ↔ Op.bytesLess x y = true := by simp
        have q2 : (a :: x = a :: y) ↔ x = y := by simp
        rw [if_neg h2, cmp_less x y]
        by_cases h3 : Op.bytesLess x y = true
        · rw [if_pos h3]; exact (if_pos (q1.2 h3)).symm
        · rw [if_neg h3]
          refine Eq.trans ?_ (if_neg (fun k => h3 (q1.1 k))).symm
          by_cases h4 : x = y
          · rw [if_pos h4]; exact (if_pos (q2.2 h4)).symm
          · rw [if_neg h4]; exact (if_neg (fun k => h4 (q2.1 k))).symm
theorem name_inj {a b : ByteArray} (h : a.data.toList = b.data.toList) : a = b := by
  cases a with
  | mk a => cases b with
    | mk b => congr 1; exact Array.ext' h
theorem name_beq (a b : ByteArray) : (a.toList == b.toList) = decide (a = b) := by
  rw [ByteArray.toList_eq, ByteArray.toList_eq]
  by_cases h : a = b
  · subst h; simp
  · rw [decide_eq_false h]; exact beq_false_of_ne (fun k => h (name_inj k))
theorem ltN_irrefl (a : ByteArray) : ltN a a = false := less_irrefl _
theorem ltN_trans {a b c : ByteArray} (h1 : ltN a b = true) (h2 : ltN b c = true) : ltN a c = true := less_trans _ _ _ h1 h2
theorem ltN_total {a b : ByteArray} (h1 : ltN a b = false) (h2 : a ≠ b) : ltN b a = true := less_total _ _ h1 (fun k => h2 (name_inj k))
theorem ltN_asymm {a b : ByteArray} (h : ltN a b = true) : ltN b a = false := by
  cases k : ltN b a with
  | false => rfl
  | true => have := ltN_trans h k; rw [ltN_irrefl] at this; cases this
theorem ltN_ne {a b : ByteArray} (h : ltN a b = true) : a ≠ b := fun k => by rw [k, ltN_irrefl] at h; cases h
def cmpN (a b : ByteArray) : Int := compareBytes a.data.toList b.data.toList
theorem cmpN_eq (a b : ByteArray) : cmpN a b = if ltN a b = true then -1 else if a = b then 0 else 1 := by
  unfold cmpN
  rw [cmp_less]
  by_cases h : a = b
  · subst h; rw [if_pos (rfl : a = a), if_pos rfl]; rfl
  · rw [if_neg h, if_neg (fun k => h (name_inj k))]; rfl
section
variable {P : Program} {t : TypeId} {x y : Operand} {a b : ByteArray}
theorem bin_leqS : ∀ w, (do eqGuard .leq t x y (.string a) (.string b); binOp .leq t (.string a) (.string b) : Sem Value).run P w = .ok (.bool (ltN a b || decide (a = b))) w := fun w => by
  have e := name_beq a b
  simp only [ltN, ← e, ← ByteArray.toList_eq]
  simp [go_sem, binOp, Op.stringOp]
theorem bin_gtrS : ∀ w, (do eqGuard .gtr t x y (.string a) (.string b); binOp .gtr t (.string a) (.string b) : Sem Value).run P w = .ok (.bool (!(ltN a b || decide (a = b)))) w := fun w => by
  have e := name_beq a b
  simp only [ltN, ← e, ← ByteArray.toList_eq]
  simp [go_sem, binOp, Op.stringOp]
theorem bin_eqlS (hu : P.underlying t = some .string) : ∀ w, (do eqGuard .eql t x y (.string a) (.string b); binOp .eql t (.string a) (.string b) : Sem Value).run P w = .ok (.bool (decide (a = b))) w := fun w => by
  rw [← name_beq]
  simp [go_sem, hu, run_underlying hu]
theorem bin_neqS (hu : P.underlying t = some .string) : ∀ w, (do eqGuard .neq t x y (.string a) (.string b); binOp .neq t (.string a) (.string b) : Sem Value).run P w = .ok (.bool (!(decide (a = b)))) w := fun w => by
  rw [← name_beq]
  simp [go_sem, hu, run_underlying hu]
end
end Go.Proofs.Ytbdhfooeanbnlaa
