/- The library's sorts over rows of the call's own. -/
import Derived.Test.YtcigofjajphmjaaHe
import Derived.Test.YtcigofjajphmjaaShelf
import Derived.Test.YtcigofjajphmjaaShelfO
import Derived.Test.YtcigofjajphmjaaProg
import Derived.WalkKit
namespace Go.Proofs.Ytcigofjajphmjaa
open Go.RowKit Go.Sort Go.Shelf
set_option linter.unusedVariables false
set_option linter.unusedSimpArgs false

section
variable {w0 w : World} {T : List Ck} {e : TypeId} {sz g n cap : Nat} {xs : List Value} {α : Type} [Inhabited α]
theorem heap_putRow (enc : α → Value) (w : World) (g : Nat) (d : Array α) (j : Nat) : (putRow enc w g 0 d).heap[j]? = if g = j then (w.heap[j]?).map (onCells (putCells enc 0 d)) else w.heap[j]? := by
  show (w.heap.modify g (onCells (putCells enc 0 d)))[j]? = _
  rw [Array.getElem?_modify]
/-- A row of the call's own whose cells were laid anew. -/
theorem Mg.sorted (enc : α → Value) (hM : Mg w0 w (.row e sz (.slice (some ⟨g, 0, none⟩) n cap) n xs :: T)) (d : Array α) (hd : d.size = n * sz) (q : Nat) (os : Array Obj) :
    Mg w0 (grow (putRow enc (Sort.ahead w q) g 0 d) os) (.row e sz (.slice (some ⟨g, 0, none⟩) n cap) n (d.toList.map enc) :: T) := by
  have hr : w.ownsRow w0.heap.size e sz (.slice (some ⟨g, 0, none⟩) n cap) n xs := hM.has 0 rfl
  obtain ⟨h1, h2⟩ := hr
  rcases h2 with ⟨e0, _⟩ | ⟨g', cap', cur, e0, hB, hc, hn, hm, hs, ht⟩
  · cases e0
  · cases e0
    have hlt := (Array.getElem?_eq_some_iff.1 hc).1
    have hold : ∀ j, j < w.heap.size → (grow (putRow enc (Sort.ahead w q) g 0 d) os).heap[j]? = (putRow enc (Sort.ahead w q) g 0 d).heap[j]? := fun j hj => heap_grow_old _ os (by rw [size_putRow]; exact hj)
    refine hM.turn 0 (c := .row e sz (.slice (some ⟨g, 0, none⟩) n cap) n xs) (c' := .row e sz (.slice (some ⟨g, 0, none⟩) n cap) n (d.toList.map enc)) rfl (by simp) ⟨rfl, rfl, rfl, by rw [size_grow, size_putRow]; exact Nat.le_add_right _ _, fun j hj hne => ?_⟩ ⟨by simp [hd], .inr ⟨g, cap, putCells enc 0 d cur, rfl, hB, ?_, hn, hm, by simp [putCells, hs], ?_⟩⟩ (fun c _ ha => ?_)
    · rw [hold j hj, heap_putRow, if_neg (fun k => hne (by rw [← k]; rfl))]
      rfl
    · rw [hold g hlt, heap_putRow, if_pos rfl]
      show (w.heap[g]?).map _ = _
      rw [hc]
      rfl
    · have hle : n * sz ≤ cur.size := by rw [hs]; exact Nat.mul_le_mul_right _ hn
      apply List.ext_getElem?
      intro j
      rw [List.getElem?_take]
      by_cases hj : j < n * sz
      · rw [if_pos hj]
        have hjd : j < d.size := by omega
        have hjc : j < cur.size := by omega
        simp only [putCells, Array.getElem?_toList, Array.getElem?_mapIdx, Array.getElem?_eq_getElem hjc, Option.map_some, List.getElem?_map, Array.getElem?_toList, Array.getElem?_eq_getElem hjd]
        rw [if_pos ⟨Nat.zero_le _, by omega⟩, Nat.sub_zero, getElem!_pos d j hjd]
      · rw [if_neg hj, List.getElem?_eq_none (by simp; omega)]
    · cases c with
      | obj g' o' => exact ha
      | row e' sz' v' n' xs' => exact ha
      | bld b' bs' => exact ha
/-- A row holds its cells. -/
theorem row_holds (enc : α → Value) (hM : Mg w0 w (.row e sz (.slice (some ⟨g, 0, none⟩) n cap) n xs :: T)) (d : Array α) (hx : d.toList.map enc = xs) : Holds enc w g 0 d ∧ g < w.heap.size := by
  have hr : w.ownsRow w0.heap.size e sz (.slice (some ⟨g, 0, none⟩) n cap) n xs := hM.has 0 rfl
  refine ⟨fun j hj => ?_, (hr.lt g rfl).2⟩
  have hl : j < xs.length := by rw [← hx]; simpa using hj
  have hl2 := hr.1
  refine ⟨?_, World.ownsRow.frozenAt hr _⟩
  rw [Nat.zero_add, World.ownsRow.cellAt hr j (by omega), ← hx, List.getElem?_map]
  rw [getElem!_pos d j hj]
  simp [hj]
end
/-- slices.Sort of a row of numbers of the call's own. -/
theorem sortI_any {w0 w : World} {T : List Ck} {so : Option Addr} {n ca : Nat} {zs : List Int} (hn : n = zs.length) (hl : zs.length ≤ 1000000000) (hM : Mg w0 w (.row 3 1 (.slice so n ca) n (intC zs) :: T)) :
    Calls Try.prog 43 #[.slice so n ca] w fun e w' => e = .returned (.tuple #[]) ∧ Mg w0 w' (.row 3 1 (.slice so n ca) n (intC (zs.mergeSort fun x y => decide (x ≤ y))) :: T) := by
  subst hn
  have hr : w.ownsRow w0.heap.size 3 1 (.slice so zs.length ca) zs.length (intC zs) := hM.has 0 rfl
  rcases hr.2 with ⟨e0, h0⟩ | ⟨g, cap, cur, e0, _⟩
  · have hz : zs = [] := List.length_eq_zero_iff.1 h0
    subst hz
    refine (Try.slices_Sort_int_none so ca w).mono ?_
    rintro e w' ⟨rfl, rfl⟩
    refine ⟨rfl, ?_⟩
    simpa using hM
  · cases e0
    obtain ⟨h1, h2⟩ := row_holds (Value.int .i64) hM zs.toArray (by simp [intC])
    refine (Try.slices_Sort_int g 0 ca zs w h1 h2 (by omega)).mono ?_
    rintro e w' ⟨rfl, q, os, rfl⟩
    refine ⟨rfl, ?_⟩
    have := hM.sorted (Value.int .i64) (zs.mergeSort fun x y => decide (x ≤ y)).toArray (by simp) q os
    simpa [intC] using this
/-! ### Objects by their places -/
/-- An object that stands within an area. -/
structure Oa where
  o : Ob
  h : o.p ≤ 65536
instance : Inhabited Oa := ⟨⟨⟨0, 0, 0, 0, []⟩, Nat.zero_le _⟩⟩
def encO (x : Oa) : List Value := [.int .i64 ((x.1.p : Nat) : Int), x.1.sl]
def cmpO (x y : Oa) : Int := ((x.1.p : Nat) : Int) - ((y.1.p : Nat) : Int)
theorem ltO (x y : Oa) : ltOf cmpO x y = decide (x.1.p < y.1.p) := by
  unfold ltOf cmpO
  by_cases h : x.1.p < y.1.p
  · simp [h]; omega
  · simp [h]; omega
theorem swoO : SWO (ltOf cmpO) where
  irrefl x := by rw [ltO]; simp
  trans x y z h1 h2 := by rw [ltO] at *; simp at *; omega
  ntrans x y z h1 h2 := by rw [ltO] at *; simp at *; omega
set_option maxHeartbeats 1000000 in
theorem closureO (x y : Oa) (W : World) : Calls Try.prog 52 #[.agg #[.int .i64 ((x.1.p : Nat) : Int), x.1.sl], .agg #[.int .i64 ((y.1.p : Nat) : Int), y.1.sl]] W fun e w' => e = .returned (.int .i64 (cmpO x y)) ∧ ∃ q os', w' = grow (W.drewN q) os' := by
  obtain ⟨⟨x1, x2, x3, x4, x5⟩, hx⟩ := x
  obtain ⟨⟨y1, y2, y3, y4, y5⟩, hy⟩ := y
  simp only [Ob.sl, cmpO] at hx hy ⊢
  replace hx : x2 ≤ 65536 := hx
  replace hy : y2 ≤ 65536 := hy
  have hwr : IntKind.i64.wrap (((x2 : Nat) : Int) - ((y2 : Nat) : Int)) = ((x2 : Nat) : Int) - ((y2 : Nat) : Int) := in_i64 (by omega) (by omega)
  go_enter Try.func52, Try.ntmps52
  go_wp2
  go_ret
  exact ⟨rfl, 0, _, by rw [alloc_eq_grow, alloc_eq_grow, grow_grow]; rfl⟩
theorem flat_ob (d : Array Oa) : (flatK encO 2 d).toList = obC (d.toList.map Oa.o) := by
  apply List.ext_getElem?
  intro j
  have key : ∀ (l : List Oa) (j : Nat), (obC (l.map Oa.o))[j]? = (l[j / 2]?).bind fun x => (encO x)[j % 2]? := by
    intro l
    induction l with
    | nil => intro j; rfl
    | cons a t ih =>
      intro j
      match j with
      | 0 => rfl
      | 1 => rfl
      | j + 2 =>
        have e1 : (j + 2) / 2 = j / 2 + 1 := by omega
        have e2 : (j + 2) % 2 = j % 2 := by omega
        rw [e1, e2, List.getElem?_cons_succ, ← ih j]
        rfl
  rw [key]
  by_cases hj : j < d.size * 2
  · have h2 : j / 2 < d.size := by omega
    have hm : j % 2 < (encO d[j / 2]).length := by show j % 2 < 2; omega
    rw [Array.getElem?_toList, Array.getElem?_eq_getElem (by simpa using hj), Array.getElem?_toList, Array.getElem?_eq_getElem h2]
    simp only [Option.bind_some, List.getElem?_eq_getElem hm]
    have := get_flatK encO 2 d j hj
    rw [getElem!_pos _ j (by simpa using hj), getElem!_pos d (j / 2) h2, getElem!_pos _ (j % 2) hm] at this
    rw [this]
  · rw [List.getElem?_eq_none (by simp; omega), Array.getElem?_toList, Array.getElem?_eq_none (by omega)]
    rfl
theorem cmpLaysO (blk off size : Nat) (w : World) : CmpLays Try.prog 52 #[] encO 2 cmpO blk off size w := fun _ _ _ _ x y => closureO x y _
/-- slices.SortFunc of a row of objects of the call's own. -/
theorem sortO_any {w0 w : World} {T : List Ck} {so : Option Addr} {n ca : Nat} {ys : List Ob} (hn : n = ys.length) (hp : ∀ o ∈ ys, o.p ≤ 65536) (hl : ys.length ≤ 1000000000) (hM : Mg w0 w (.row 79 2 (.slice so n ca) n (obC ys) :: T)) :
    Calls Try.prog 51 #[.slice so n ca, .func (.func 52) #[] #[]] w fun e w' => e = .returned (.tuple #[]) ∧ ∃ zs : List Ob, (zs.Perm ys ∧ ByP zs) ∧ Mg w0 w' (.row 79 2 (.slice so n ca) n (obC zs) :: T) := by
  subst hn
  have hr : w.ownsRow w0.heap.size 79 2 (.slice so ys.length ca) ys.length (obC ys) := hM.has 0 rfl
  rcases hr.2 with ⟨e0, h0⟩ | ⟨g, cap, cur, e0, _⟩
  · have hz : ys = [] := List.length_eq_zero_iff.1 h0
    subst hz
    refine Calls.mono (AnyF.slices_SortFunc_none { Try.sortOb with } so ca _ w) ?_
    rintro e w' ⟨rfl, rfl⟩
    exact ⟨rfl, [], ⟨.refl _, .nil⟩, hM⟩
  · cases e0
    obtain ⟨d, hd⟩ : ∃ d : Array Oa, d.toList.map Oa.o = ys := ⟨(ys.attach.map fun o => (⟨o.1, hp o.1 o.2⟩ : Oa)).toArray, by simp [Function.comp_def]⟩
    have hds : d.size = ys.length := by rw [← hd]; simp
    obtain ⟨h1, h2⟩ := row_holds id hM (flatK encO 2 d) (by rw [List.map_id, flat_ob, hd])
    have hcon := AnyQ.slices_SortFunc Try.sortOb 2 Try.isAgg79 Try.sizeOf79 encO (fun _ => rfl) (fun x v hv => by simp [encO] at hv; rcases hv with rfl | rfl <;> rfl) cmpO swoO 52 #[] g 0 ca d w (enters_of Try.func52 (by kernel_rfl) rfl) (cmpLaysO g 0 d.size w) h1 h2 (by omega)
    change Calls Try.prog 51 _ _ _ at hcon
    rw [hds] at hcon
    refine hcon.mono ?_
    rintro e w' ⟨rfl, d', q, os, hperm, hsort, rfl⟩
    obtain ⟨hs1, _, hs3⟩ := hperm
    have hz : (d'.toList.map Oa.o).Perm ys := by
      rw [← hd]
      refine List.Perm.map _ ?_
      have e1 : d'.extract 0 ys.length = d' := by rw [Array.extract_eq_self_of_le (by omega)]
      have e2 : d.extract 0 ys.length = d := by rw [Array.extract_eq_self_of_le (by omega)]
      rw [e1, e2] at hs3
      exact hs3
    refine ⟨rfl, d'.toList.map Oa.o, ⟨hz, ?_⟩, ?_⟩
    · unfold ByP
      rw [List.pairwise_map, List.pairwise_iff_getElem]
      intro i j hi hj hij
      simp at hi hj
      have := hsort i j (Nat.zero_le _) hij (by omega)
      rw [ltO, getElem!_pos d' i hi, getElem!_pos d' j hj] at this
      simpa using this
    · have hlen : (d'.toList.map Oa.o).length = ys.length := hz.length_eq
      have := hM.sorted id (flatK encO 2 d') (by simp; omega) q os
      rw [List.map_id, flat_ob] at this
      exact this
end Go.Proofs.Ytcigofjajphmjaa
