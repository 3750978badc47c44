/- The library's sorts, searches and comparisons over rows of texts. -/
import Derived.Test.YtbdhfooeanbnlaaEb
import Derived.Test.YtbdhfooeanbnlaaEd
import Derived.Test.YtbdhfooeanbnlaaShelf
import Derived.Test.YtbdhfooeanbnlaaProg
import Derived.WalkKit
namespace Go.Proofs.Ytbdhfooeanbnlaa
open Go.RowKit Go.Sort Go.Shelf Go.Lib
set_option linter.unusedVariables false
set_option linter.unusedSimpArgs false

section
variable {w0 w : World} {T : List Ck} {e : TypeId} {sz g n cap : Nat} {xs : List Value} {α : Type} [Inhabited α]
theorem heap_putRowE (enc : α → Value) (w : World) (g : Nat) (d : Array α) (j : Nat) : (putRow enc w g 0 d).heap[j]? = if g = j then (w.heap[j]?).map (onCells (putCells enc 0 d)) else w.heap[j]? := by
  show (w.heap.modify g (onCells (putCells enc 0 d)))[j]? = _
  rw [Array.getElem?_modify]
/-- A row of the call's own whose cells were laid anew. -/
theorem Mg.sortedE (enc : α → Value) (hM : Mg w0 w (.row e sz (.slice (some ⟨g, 0, none⟩) n cap) n xs :: T)) (d : Array α) (hd : d.size = n * sz) (q : Nat) (os : Array Obj) :
    Mg w0 (grow (putRow enc (Sort.ahead w q) g 0 d) os) (.row e sz (.slice (some ⟨g, 0, none⟩) n cap) n (d.toList.map enc) :: T) := by
  have hr : w.ownsRow w0.heap.size e sz (.slice (some ⟨g, 0, none⟩) n cap) n xs := hM.has 0 rfl
  obtain ⟨h1, h2⟩ := hr
  rcases h2 with ⟨e0, _⟩ | ⟨g', cap', cur, e0, hB, hc, hn, hm, hs, ht⟩
  · cases e0
  · cases e0
    have hlt := (Array.getElem?_eq_some_iff.1 hc).1
    have hold : ∀ j, j < w.heap.size → (grow (putRow enc (Sort.ahead w q) g 0 d) os).heap[j]? = (putRow enc (Sort.ahead w q) g 0 d).heap[j]? := fun j hj => heap_grow_old _ os (by rw [size_putRow]; exact hj)
    refine hM.turn 0 (c := .row e sz (.slice (some ⟨g, 0, none⟩) n cap) n xs) (c' := .row e sz (.slice (some ⟨g, 0, none⟩) n cap) n (d.toList.map enc)) rfl (by simp) ⟨rfl, rfl, rfl, by rw [size_grow, size_putRow]; exact Nat.le_add_right _ _, fun j hj hne => ?_⟩ ⟨by simp [hd], .inr ⟨g, cap, putCells enc 0 d cur, rfl, hB, ?_, hn, hm, by simp [putCells, hs], ?_⟩⟩ (fun c _ ha => ?_)
    · rw [hold j hj, heap_putRowE, if_neg (fun k => hne (by rw [← k]; rfl))]
      rfl
    · rw [hold g hlt, heap_putRowE, if_pos rfl]
      show (w.heap[g]?).map _ = _
      rw [hc]
      rfl
    · have hle : n * sz ≤ cur.size := by rw [hs]; exact Nat.mul_le_mul_right _ hn
      apply List.ext_getElem?
      intro j
      rw [List.getElem?_take]
      by_cases hj : j < n * sz
      · rw [if_pos hj]
        have hjd : j < d.size := by omega
        have hjc : j < cur.size := by omega
        simp only [putCells, Array.getElem?_toList, Array.getElem?_mapIdx, Array.getElem?_eq_getElem hjc, Option.map_some, List.getElem?_map, Array.getElem?_toList, Array.getElem?_eq_getElem hjd]
        rw [if_pos ⟨Nat.zero_le _, by omega⟩, Nat.sub_zero, getElem!_pos d j hjd]
      · rw [if_neg hj, List.getElem?_eq_none (by simp; omega)]
    · cases c with
      | obj g' o' => exact ha
      | row e' sz' v' n' xs' => exact ha
      | bld b' bs' => exact ha
/-- A row holds its cells. -/
theorem row_holdsE (enc : α → Value) (hM : Mg w0 w (.row e sz (.slice (some ⟨g, 0, none⟩) n cap) n xs :: T)) (d : Array α) (hx : d.toList.map enc = xs) : Holds enc w g 0 d ∧ g < w.heap.size := by
  have hr : w.ownsRow w0.heap.size e sz (.slice (some ⟨g, 0, none⟩) n cap) n xs := hM.has 0 rfl
  refine ⟨fun j hj => ?_, (hr.lt g rfl).2⟩
  have hl : j < xs.length := by rw [← hx]; simpa using hj
  have hl2 := hr.1
  refine ⟨?_, World.ownsRow.frozenAt hr _⟩
  rw [Nat.zero_add, World.ownsRow.cellAt hr j (by omega), ← hx, List.getElem?_map]
  rw [getElem!_pos d j hj]
  simp [hj]
end
/-- slices.Sort of a row of texts of the call's own. -/
theorem sortS_any {w0 w : World} {T : List Ck} {so : Option Addr} {n ca : Nat} {zs : List (List UInt8)} (hn : n = zs.length) (hl : zs.length ≤ 8796093021952) (hM : Mg w0 w (.row 9 1 (.slice so n ca) n (zs.map encStr) :: T)) :
    Calls Try.prog 54 #[.slice so n ca] w fun e w' => e = .returned (.tuple #[]) ∧ Mg w0 w' (.row 9 1 (.slice so n ca) n ((srtL zs).map encStr) :: T) := by
  subst hn
  have hr : w.ownsRow w0.heap.size 9 1 (.slice so zs.length ca) zs.length (zs.map encStr) := hM.has 0 rfl
  rcases hr.2 with ⟨e0, h0⟩ | ⟨g, cap, cur, e0, _⟩
  · have hz : zs = [] := List.length_eq_zero_iff.1 h0
    subst hz
    refine (Try.slices_Sort_string_none so ca w).mono ?_
    rintro e w' ⟨rfl, rfl⟩
    refine ⟨rfl, ?_⟩
    simpa [srtL] using hM
  · cases e0
    obtain ⟨h1, h2⟩ := row_holdsE encStr hM zs.toArray (by simp)
    refine (Try.slices_Sort_string g 0 ca zs w h1 h2 (by omega)).mono ?_
    rintro e w' ⟨rfl, q, os, rfl⟩
    refine ⟨rfl, ?_⟩
    have := hM.sortedE encStr (zs.mergeSort fun x y => decide (x ≤ y)).toArray (by simp) q os
    simpa [srtL] using this
/-- slices.Compact of such a row: how long it is then. -/
theorem compactS_any {w0 w : World} {T : List Ck} {so : Option Addr} {n ca : Nat} {zs : List (List UInt8)} (hn : n = zs.length) (hl : zs.length ≤ 8796093021952) (hM : Mg w0 w (.row 9 1 (.slice so n ca) n (zs.map encStr) :: T)) :
    Calls Try.prog 46 #[.slice so n ca] w fun e w' => e = .returned (.slice so (compact zs).length ca) ∧ Mg w0 w' T := by
  subst hn
  have hr : w.ownsRow w0.heap.size 9 1 (.slice so zs.length ca) zs.length (zs.map encStr) := hM.has 0 rfl
  rcases hr.2 with ⟨e0, h0⟩ | ⟨g, cap, cur, e0, hB, hc2, hcap, _⟩
  · have hz : zs = [] := List.length_eq_zero_iff.1 h0
    subst hz
    refine (Try.slices_Compact_string_empty so ca w).mono ?_
    rintro e w' ⟨rfl, rfl⟩
    exact ⟨rfl, hM.sub (.cons _ (.refl _))⟩
  · cases e0
    obtain ⟨h1, h2⟩ := row_holdsE encStr hM zs.toArray (by simp)
    refine (Try.slices_Compact_string g 0 ca zs w h1 (by omega) hcap).mono ?_
    rintro e w' ⟨rfl, q, rfl⟩
    refine ⟨rfl, ?_⟩
    have hcl : (compact zs).length ≤ zs.length := by
      have e1 : (compact zs).length = ((List.range zs.length).filter (keeps zs.toArray)).length := by simp [compact, compactUpTo]
      rw [e1]
      refine Nat.le_trans (List.length_filter_le _ _) ?_
      simp
    have := hM.sortedE encStr (compact zs ++ List.replicate (zs.length - (compact zs).length) []).toArray (by simp; omega) q #[]
    rw [show ∀ v : World, grow v #[] = v from fun v => by simp [grow]] at this
    exact this.sub (.cons _ (.refl _))
section
variable {w : World} {so : Option Addr} {ca : Nat} {l : List ByteArray} {s : ByteArray}
theorem indexS_any (hR : Rs w so l) (hl : l.length ≤ 8796093021952) : Calls Try.prog 36 #[.slice so l.length ca, .string s] w fun e w' => e = .returned (.int .i64 (idxOfS l s)) ∧ Below w.heap.size w w' := by
  by_cases hne : l = []
  · subst hne
    refine (Try.slices_Index_string_empty so ca s w).mono ?_
    rintro e w' ⟨rfl, rfl⟩
    exact ⟨rfl, Below.refl _ _⟩
  · obtain ⟨b, off, rfl, hc⟩ := hR.cells hne
    refine (Try.slices_Index_string b off l.length ca l s w (Nat.le_refl _) (by omega) hc).mono ?_
    rintro e w' ⟨rfl, rfl⟩
    rw [List.take_length]
    exact ⟨rfl, Below.refl _ _⟩
theorem containsS_any (hR : Rs w so l) (hl : l.length ≤ 8796093021952) : Calls Try.prog 31 #[.slice so l.length ca, .string s] w fun e w' => e = .returned (.bool (decide (0 ≤ idxOfS l s))) ∧ Below w.heap.size w w' := by
  by_cases hne : l = []
  · subst hne
    refine (Try.slices_Contains_string_empty so ca s w).mono ?_
    rintro e w' ⟨rfl, rfl⟩
    exact ⟨rfl, Below.refl _ _⟩
  · obtain ⟨b, off, rfl, hc⟩ := hR.cells hne
    refine (Try.slices_Contains_string b off l.length ca l s w (Nat.le_refl _) (by omega) hc).mono ?_
    rintro e w' ⟨rfl, rfl⟩
    rw [List.take_length]
    exact ⟨rfl, Below.refl _ _⟩
theorem equalS_any {so2 : Option Addr} {ca2 : Nat} {l2 : List ByteArray} (hR : Rs w so l) (hR2 : Rs w so2 l2) (hl : l.length ≤ 8796093021952) (hl2 : l2.length ≤ 8796093021952) : Calls Try.prog 50 #[.slice so l.length ca, .slice so2 l2.length ca2] w fun e w' => e = .returned (.bool (decide (l = l2))) ∧ Below w.heap.size w w' := by
  by_cases hne : l = []
  · subst hne
    refine (Try.slices_Equal_string_empty so so2 ca l2.length ca2 w (by omega)).mono ?_
    rintro e w' ⟨rfl, rfl⟩
    refine ⟨?_, Below.refl _ _⟩
    congr 2
    cases l2 <;> simp
  · by_cases hne2 : l2 = []
    · subst hne2
      refine (Try.slices_Equal_string_lens so so2 l.length ca 0 ca2 w (fun k => hne (List.length_eq_zero_iff.1 k))).mono ?_
      rintro e w' ⟨rfl, rfl⟩
      refine ⟨?_, Below.refl _ _⟩
      rw [decide_eq_false hne]
    · obtain ⟨b, off, rfl, hc⟩ := hR.cells hne
      obtain ⟨b2, off2, rfl, hc2⟩ := hR2.cells hne2
      refine (Try.slices_Equal_string b off l.length ca b2 off2 l2.length ca2 l l2 w (Nat.le_refl _) (Nat.le_refl _) (by omega) (by omega) hc hc2).mono ?_
      rintro e w' ⟨rfl, q, rfl⟩
      rw [List.take_length, List.take_length]
      exact ⟨rfl, ⟨rfl, rfl, rfl, Nat.le_refl _, fun _ _ => rfl⟩⟩
end
end Go.Proofs.Ytbdhfooeanbnlaa
