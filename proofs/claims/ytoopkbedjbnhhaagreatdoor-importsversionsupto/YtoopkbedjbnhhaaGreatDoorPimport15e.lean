/- Mw -/
import Derived.Test.YtoopkbedjbnhhaaGreatDoorPimport15d
import Derived.Lib.AppendZerosOnto
import Derived.Lib.Bytealg
import Derived.Laws.OwnMore
import Derived.Laws.Strings
set_option linter.unusedVariables false
set_option linter.unusedSimpArgs false
set_option maxHeartbeats 1000000
namespace Go.Proofs.YtoopkbedjbnhhaaGreatDoor.G
open Go.RowKit Go.Lib
section
variable {w0 w : World} {L : List Ck} {e : TypeId} {sz g n cap : Nat} {xs : List Value}
theorem Mg.rowPut (h : Mg w0 w L) (k : Nat) (hk : L[k]? = some (.row e sz (.slice (some ⟨g, 0, none⟩) n cap) n xs)) (j : Nat) (u : Value) : Mg w0 (w.setCell ⟨g, j, none⟩ u) (L.set k (.row e sz (.slice (some ⟨g, 0, none⟩) n cap) n (xs.set j u))) := by
  have hs := World.ownsRow.stored (show w.ownsRow w0.heap.size e sz (.slice (some ⟨g, 0, none⟩) n cap) n xs from h.has k hk) j u
  exact h.turn k hk (by simp) hs.2 hs.1 (fun d _ ha => by cases d <;> exact ha)
theorem Mg.rowPuts : ∀ (cs : List Value) (w : World) (L : List Ck) (xs : List Value) (o : Nat), Mg w0 w L → ∀ k, L[k]? = some (.row e sz (.slice (some ⟨g, 0, none⟩) n cap) n xs) → Mg w0 (w.setCells g o cs) (L.set k (.row e sz (.slice (some ⟨g, 0, none⟩) n cap) n (over xs o cs)))
  | [], w, L, xs, o, h, k, hk => by
    rw [show L.set k (.row e sz (.slice (some ⟨g, 0, none⟩) n cap) n (over xs o [])) = L from qva hk]
    exact h
  | c :: cs, w, L, xs, o, h, k, hk => by
    have h1 := h.rowPut k hk o c
    have hk1 : (L.set k (.row e sz (.slice (some ⟨g, 0, none⟩) n cap) n (xs.set o c)))[k]? = some (.row e sz (.slice (some ⟨g, 0, none⟩) n cap) n (xs.set o c)) := List.getElem?_set_self (List.getElem?_eq_some_iff.1 hk).1
    have h2 := Mg.rowPuts cs _ _ (xs.set o c) (o + 1) h1 k hk1
    rw [List.set_set] at h2
    exact h2
end
section
variable {P : Program} {w0 w : World} {L : List Ck} {l : List (Nat × Value)} {dst : Option Tmp} {ty : TypeId} {pos : String} {after : Array Edge} {guard : Option (Nat × Bool)} {v : Value}
theorem qvc {t : TypeId} {x y : Operand} {g o : Nat} {u : Value} {cs : List Value} (hx : ev l x = some (.pointer (some ⟨g, o, none⟩))) (hy : ev l y = some u) (hc : u.cells = cs.toArray) (hn : (P.info? t).map (·.size) = some cs.length)
    (hM : Mg w0 w L) (k : Nat) {e : TypeId} {sz n cap : Nat} {xs : List Value} (hk : L[k]? = some (.row e sz (.slice (some ⟨g, 0, none⟩) n cap) n xs)) (hl : o + cs.length ≤ n * sz) (h1 : cs.all Value.oneCell' = true) : Sets P l ⟨dst, .store t x y, ty, pos, after, guard⟩ w (w.setCells g o cs) := fun ρ h => by
  obtain ⟨i, hi, hsz⟩ := ke hn
  have hr : w.ownsRow w0.heap.size e sz (.slice (some ⟨g, 0, none⟩) n cap) n xs := hM.has k hk
  have hxl : xs.length = n * sz := hr.1
  have h2 : (sizeOf t).run P w = .ok cs.length w := by simp [sizeOf, typeInfo, hi, hsz]
  have h3 := run_storeCells_cells (P := P) g o cs 0 w (fun j hj => by
      rw [World.ownsRow.cellAt hr (o + 0 + j) (by omega), List.getElem?_eq_getElem (by omega)]; rfl) (fun j hj => World.ownsRow.frozenAt hr _) (fun v hv => List.all_eq_true.1 h1 v hv)
  rw [Nat.add_zero] at h3
  have h4 : u.cells.toList = cs := by rw [hc]
  simp only [execOp, h x _ hx, h y _ hy, Instr.storeAt, Instr.sureAddr, Sem.run_bind, Sem.run_pure, Result.andThen_ok, storeVar, h2, hc, List.size_toArray, ne_eq, not_true_eq_false, if_false, List.toList_toArray, h3]
theorem qbd (hM : Mg w0 w L) {c : Tmp} {t : TypeId} {m : Nat} (ht : IsS P t m) {g o : Nat} (hx : vp l c = some (.pointer (some ⟨g, o, none⟩))) (k : Nat) {vs cs : List Value} {e : TypeId} (hk : L[k]? = some (.obj g (.cells vs.toArray e))) (hcs : (vs.drop o).take m = cs) (hl : cs.length = m) : kg P l w (.cell c t) (.agg cs.toArray) :=
  ⟨_, hx, kp ht cs hl (fun j v hj => hM.cell k hk (o + j) (by
    have hjn : j < m := by rw [← hl]; exact (List.getElem?_eq_some_iff.1 hj).1
    rw [← hcs, List.getElem?_take, if_pos hjn, List.getElem?_drop] at hj
    exact hj))⟩
def zqj (so : Option Addr) (cap lo : Nat) : Option Addr := if cap = lo then so else so.map (·.add lo)
theorem Rb.drop {w : World} {so : Option Addr} {l : List UInt8} (h : Rb w so l) (cap lo : Nat) (hc : l.length ≤ cap) : Rb w (zqj so cap lo) (l.drop lo) := by
  refine ⟨fun hne => ?_⟩
  have hlo : lo < l.length := by
    apply Classical.byContradiction
    intro k
    exact hne (List.drop_eq_nil_of_le (by omega))
  obtain ⟨b, off, rfl, h2, h3⟩ := h.pos (fun k => by rw [k] at hlo; exact absurd hlo (Nat.not_lt_zero _))
  unfold zqj
  rw [if_neg (by omega)]
  refine ⟨b, off + lo, by simp [vq], h2, fun j hj => ?_⟩
  rw [List.length_drop] at hj
  rw [Nat.add_assoc, h3 (lo + j) (by omega), List.getD_eq_getElem?_getD, List.getD_eq_getElem?_getD, List.getElem?_drop]
theorem qrf {t e : TypeId} {sz : Nat} (ht : P.underlying t = some (.slice e)) (he : (P.info? e).map (·.size) = some sz) {x y : Operand} {so : Option Addr} {n cap lo : Nat} {z : Int} (hx : ev l x = some (.slice so n cap)) (hy : ev l y = some (.int .i64 z)) (hz : z = ((lo : Nat) : Int)) (hp : lo ≤ n) : Does P l ⟨dst, .slice t x (some y) none none, ty, pos, after, guard⟩ w (.slice (if cap = lo then so else so.map (·.add (lo * sz))) (n - lo) (cap - lo)) w := fun ρ h => by
  subst hz
  obtain ⟨i, hi, hs⟩ := ke he
  have h2 : (sizeOf e).run P w = .ok sz w := by simp [sizeOf, typeInfo, hi, hs]
  have h1 : (0 : Int) ≤ (lo : Nat) ∧ ((lo : Nat) : Int) ≤ (n : Int) := ⟨by omega, by omega⟩
  simp [execOp, h x _ hx, h y _ hy, Instr.sliceAt, Instr.slice, Instr.sliceBounds, Instr.sliceBound, asIntOf, run_underlying ht, h1, h2]
  try (intro hc; omega)
end
section
variable {P : Program} {w0 w : World} {L : List Ck} {l : List (Nat × Value)} {ops : List Oper} {Q : Exit → Act → World → Prop} {a : Act} {n : Nat} {o : Oper} {rest : List Oper} {d : Nat} {S : World → Prop} {md : Region.Mode} {fuel : Nat} {listed : Array Bool}
theorem zig (hA : Sl a n l) (hM : Mg w0 w L) (hg : jd l ops o = true) (hdst : o.dst = none) {g q : Nat} {cs us : List Value} {e : TypeId} {sz m cap : Nat} {xs : List Value} (he : Sets P l o w (w.setCells g q cs)) (k : Nat) (hk0 : L[k]? = some (.row e sz (.slice (some ⟨g, 0, none⟩) m cap) m xs)) {L' : List Ck} (hL : L.set k (.row e sz (.slice (some ⟨g, 0, none⟩) m cap) m (over xs q cs)) = L')
    (hk : ∀ w', Mg w0 w' L' → wpList P ops.toArray Q rest a w') : wpList P ops.toArray Q (o :: rest) a w :=
  qrc hA hg hdst he (hk _ (by subst hL; exact Mg.rowPuts cs w L xs q hM k hk0))
theorem zih (hA : Sl a n l) (hM : Mg w0 w L) (i : Nat) (hi : ops[i]? = some o) (hg : jd l ops o = true) (hdst : o.dst = none) {g q : Nat} {cs us : List Value} {e : TypeId} {sz m cap : Nat} {xs : List Value} (he : Sets P l o w (w.setCells g q cs)) (k : Nat) (hk0 : L[k]? = some (.row e sz (.slice (some ⟨g, 0, none⟩) m cap) m xs)) {L' : List Ck} (hL : L.set k (.row e sz (.slice (some ⟨g, 0, none⟩) m cap) m (over xs q cs)) = L')
    (hk : ∀ w', Mg w0 w' L' → S w' ∧ wpAnyH P md ops.toArray Q S fuel (listed.setIfInBounds i true) a w') : wpOp P ops.toArray Q i (fun a' w' => S w' ∧ wpAnyH P md ops.toArray Q S fuel (listed.setIfInBounds i true) a' w') a w := by
  have h := hk _ (by subst hL; exact Mg.rowPuts cs w L xs q hM k hk0)
  exact zie hA i hi hg hdst he h.1 h.2
end
theorem zii {a b : ByteArray} (h : a.data.toList = b.data.toList) : a = b := by
  cases a with
  | mk a => cases b with
    | mk b => congr 1; exact Array.ext' h
theorem qvd (a b : ByteArray) : (a.toList == b.toList) = decide (a = b) := by
  rw [ByteArray.toList_eq, ByteArray.toList_eq]
  by_cases h : a = b
  · subst h; simp
  · rw [decide_eq_false h]; exact beq_false_of_ne (fun k => h (zii k))
section
variable {P : Program} {t : TypeId} {x y : Operand} {a b : ByteArray}
theorem zn (hu : P.underlying t = some .string) : ∀ w, (do eqGuard .eql t x y (.string a) (.string b); binOp .eql t (.string a) (.string b) : Sem Value).run P w = .ok (.bool (decide (a = b))) w := fun w => by
  rw [← qvd]
  simp [go_sem, hu, run_underlying hu]
theorem uk (hu : P.underlying t = some .string) : ∀ w, (do eqGuard .neq t x y (.string a) (.string b); binOp .neq t (.string a) (.string b) : Sem Value).run P w = .ok (.bool (!(decide (a = b)))) w := fun w => by
  rw [← qvd]
  simp [go_sem, hu, run_underlying hu]
end
end Go.Proofs.YtoopkbedjbnhhaaGreatDoor.G
