/- The library's sorts, searches and comparisons over rows of texts. Walks of rows of texts: collected, sorted, copied. Walks of sets: where, sound, membership, members. Walks of the calls of enum. Walks of what a type may be, of types that are the same, and of copies. Records: what the calls answer, case by case. Walks of what is asked of a store. Records: what calls have made vy as it is; a store as pieces of memory. Walks of what changes a store. -/
import Derived.Test.YtokgmpjblnpjmaaGreatDoorPrecord11d
import Derived.Test.YtokgmpjblnpjmaaGreatDoorShelf
import Derived.Test.YtokgmpjblnpjmaaGreatDoorProg
import Derived.WalkKit
namespace Go.Proofs.YtokgmpjblnpjmaaGreatDoor.G.E
open Go.RowKit Go.Sort Go.Shelf Go.Lib
set_option linter.unusedVariables false
set_option linter.unusedSimpArgs false

section
variable {w0 w : World} {T : List Ck} {e : TypeId} {sz g n cap : Nat} {xs : List Value} {α : Type} [Inhabited α]
theorem qeb (enc : α → Value) (w : World) (g : Nat) (d : Array α) (j : Nat) : (putRow enc w g 0 d).heap[j]? = if g = j then (w.heap[j]?).map (onCells (putCells enc 0 d)) else w.heap[j]? := by
  show (w.heap.modify g (onCells (putCells enc 0 d)))[j]? = _
  rw [Array.getElem?_modify]
/-- A row of the call's own whose cells were laid anew. -/
theorem _root_.Go.Proofs.YtokgmpjblnpjmaaGreatDoor.G.Mg.sortedE (enc : α → Value) (hM : Mg w0 w (.row e sz (.slice (some ⟨g, 0, none⟩) n cap) n xs :: T)) (d : Array α) (hd : d.size = n * sz) (q : Nat) (os : Array Obj) :
    Mg w0 (grow (putRow enc (Sort.ahead w q) g 0 d) os) (.row e sz (.slice (some ⟨g, 0, none⟩) n cap) n (d.toList.map enc) :: T) := by
  have hr : w.ownsRow w0.heap.size e sz (.slice (some ⟨g, 0, none⟩) n cap) n xs := hM.has 0 rfl
  obtain ⟨h1, h2⟩ := hr
  rcases h2 with ⟨e0, _⟩ | ⟨g', cap', cur, e0, hB, hc, hn, hm, hs, ht⟩
  · cases e0
  · cases e0
    have hlt := (Array.getElem?_eq_some_iff.1 hc).1
    have hold : ∀ j, j < w.heap.size → (grow (putRow enc (Sort.ahead w q) g 0 d) os).heap[j]? = (putRow enc (Sort.ahead w q) g 0 d).heap[j]? := fun j hj => heap_grow_old _ os (by rw [size_putRow]; exact hj)
    refine hM.turn 0 (c := .row e sz (.slice (some ⟨g, 0, none⟩) n cap) n xs) (c' := .row e sz (.slice (some ⟨g, 0, none⟩) n cap) n (d.toList.map enc)) rfl (by simp) ⟨rfl, rfl, rfl, by rw [size_grow, size_putRow]; exact Nat.le_add_right _ _, fun j hj hne => ?_⟩ ⟨by simp [hd], .inr ⟨g, cap, putCells enc 0 d cur, rfl, hB, ?_, hn, hm, by simp [putCells, hs], ?_⟩⟩ (fun c _ ha => ?_)
    · rw [hold j hj, qeb, if_neg (fun k => hne (by rw [← k]; rfl))]
      rfl
    · rw [hold g hlt, qeb, if_pos rfl]
      show (w.heap[g]?).map _ = _
      rw [hc]
      rfl
    · have hle : n * sz ≤ cur.size := by rw [hs]; exact Nat.mul_le_mul_right _ hn
      apply List.ext_getElem?
      intro j
      rw [List.getElem?_take]
      by_cases hj : j < n * sz
      · rw [if_pos hj]
        have hjd : j < d.size := by omega
        have hjc : j < cur.size := by omega
        simp only [putCells, Array.getElem?_toList, Array.getElem?_mapIdx, Array.getElem?_eq_getElem hjc, Option.map_some, List.getElem?_map, Array.getElem?_toList, Array.getElem?_eq_getElem hjd]
        rw [if_pos ⟨Nat.zero_le _, by omega⟩, Nat.sub_zero, getElem!_pos d j hjd]
      · rw [if_neg hj, List.getElem?_eq_none (by simp; omega)]
    · cases c with
      | obj g' o' => exact ha
      | row e' sz' v' n' xs' => exact ha
      | bld b' bs' => exact ha
/-- A row holds its cells. -/
theorem qkh (enc : α → Value) (hM : Mg w0 w (.row e sz (.slice (some ⟨g, 0, none⟩) n cap) n xs :: T)) (d : Array α) (hx : d.toList.map enc = xs) : Holds enc w g 0 d ∧ g < w.heap.size := by
  have hr : w.ownsRow w0.heap.size e sz (.slice (some ⟨g, 0, none⟩) n cap) n xs := hM.has 0 rfl
  refine ⟨fun j hj => ?_, (hr.lt g rfl).2⟩
  have hl : j < xs.length := by rw [← hx]; simpa using hj
  have hl2 := hr.1
  refine ⟨?_, World.ownsRow.frozenAt hr _⟩
  rw [Nat.zero_add, World.ownsRow.cellAt hr j (by omega), ← hx, List.getElem?_map]
  rw [getElem!_pos d j hj]
  simp [hj]
end
/-- slices.Sort of a row of texts of the call's own. -/
theorem zeh {w0 w : World} {T : List Ck} {so : Option Addr} {n ca : Nat} {zs : List (List UInt8)} (hn : n = zs.length) (hl : zs.length ≤ 8796093021952) (hM : Mg w0 w (.row 9 1 (.slice so n ca) n (zs.map encStr) :: T)) :
    Calls Tryz.prog 99 #[.slice so n ca] w fun e w' => e = .returned (.tuple #[]) ∧ Mg w0 w' (.row 9 1 (.slice so n ca) n ((qbd zs).map encStr) :: T) := by
  subst hn
  have hr : w.ownsRow w0.heap.size 9 1 (.slice so zs.length ca) zs.length (zs.map encStr) := hM.has 0 rfl
  rcases hr.2 with ⟨e0, h0⟩ | ⟨g, cap, cur, e0, _⟩
  · have hz : zs = [] := List.length_eq_zero_iff.1 h0
    subst hz
    refine (Tryz.slices_Sort_string_none so ca w).mono ?_
    rintro e w' ⟨rfl, rfl⟩
    refine ⟨rfl, ?_⟩
    simpa [qbd] using hM
  · cases e0
    obtain ⟨h1, h2⟩ := qkh encStr hM zs.toArray (by simp)
    refine (Tryz.slices_Sort_string g 0 ca zs w h1 h2 (by omega)).mono ?_
    rintro e w' ⟨rfl, q, os, rfl⟩
    refine ⟨rfl, ?_⟩
    have := hM.sortedE encStr (zs.mergeSort fun x y => decide (x ≤ y)).toArray (by simp) q os
    simpa [qbd] using this
/-- slices.Compact of such a row: how long it is then. -/
theorem qre {w0 w : World} {T : List Ck} {so : Option Addr} {n ca : Nat} {zs : List (List UInt8)} (hn : n = zs.length) (hl : zs.length ≤ 8796093021952) (hM : Mg w0 w (.row 9 1 (.slice so n ca) n (zs.map encStr) :: T)) :
    Calls Tryz.prog 91 #[.slice so n ca] w fun e w' => e = .returned (.slice so (compact zs).length ca) ∧ Mg w0 w' T := by
  subst hn
  have hr : w.ownsRow w0.heap.size 9 1 (.slice so zs.length ca) zs.length (zs.map encStr) := hM.has 0 rfl
  rcases hr.2 with ⟨e0, h0⟩ | ⟨g, cap, cur, e0, hB, hc2, hcap, _⟩
  · have hz : zs = [] := List.length_eq_zero_iff.1 h0
    subst hz
    refine (Tryz.slices_Compact_string_empty so ca w).mono ?_
    rintro e w' ⟨rfl, rfl⟩
    exact ⟨rfl, hM.sub (cn (.refl _))⟩
  · cases e0
    obtain ⟨h1, h2⟩ := qkh encStr hM zs.toArray (by simp)
    refine (Tryz.slices_Compact_string g 0 ca zs w h1 (by omega) hcap).mono ?_
    rintro e w' ⟨rfl, q, rfl⟩
    refine ⟨rfl, ?_⟩
    have hcl : (compact zs).length ≤ zs.length := by
      have e1 : (compact zs).length = ((List.range zs.length).filter (keeps zs.toArray)).length := by simp [compact, compactUpTo]
      rw [e1]
      refine Nat.le_trans (List.length_filter_le _ _) ?_
      simp
    have := hM.sortedE encStr (compact zs ++ List.replicate (zs.length - (compact zs).length) []).toArray (by simp; omega) q #[]
    rw [show ∀ v : World, grow v #[] = v from fun v => by simp [grow]] at this
    exact this.sub (cn (.refl _))
section
variable {w : World} {so : Option Addr} {ca : Nat} {l : List ByteArray} {s : ByteArray}
theorem equalS_any {so2 : Option Addr} {ca2 : Nat} {l2 : List ByteArray} (hR : Rs w so l) (hR2 : Rs w so2 l2) (hl : l.length ≤ 8796093021952) (hl2 : l2.length ≤ 8796093021952) : Calls Tryz.prog 68 #[.slice so l.length ca, .slice so2 l2.length ca2] w fun e w' => e = .returned (.bool (decide (l = l2))) ∧ Below w.heap.size w w' := by
  by_cases hne : l = []
  · subst hne
    refine (Tryz.slices_Equal_string_empty so so2 ca l2.length ca2 w (by omega)).mono ?_
    rintro e w' ⟨rfl, rfl⟩
    refine ⟨?_, Below.refl _ _⟩
    congr 2
    cases l2 <;> simp
  · by_cases hne2 : l2 = []
    · subst hne2
      refine (Tryz.slices_Equal_string_lens so so2 l.length ca 0 ca2 w (fun k => hne (List.length_eq_zero_iff.1 k))).mono ?_
      rintro e w' ⟨rfl, rfl⟩
      refine ⟨?_, Below.refl _ _⟩
      rw [decide_eq_false hne]
    · obtain ⟨b, off, rfl, hc⟩ := hR.cells hne
      obtain ⟨b2, off2, rfl, hc2⟩ := hR2.cells hne2
      refine (Tryz.slices_Equal_string b off l.length ca b2 off2 l2.length ca2 l l2 w (Nat.le_refl _) (Nat.le_refl _) (by omega) (by omega) hc hc2).mono ?_
      rintro e w' ⟨rfl, q, rfl⟩
      rw [List.take_length, List.take_length]
      exact ⟨rfl, ⟨rfl, rfl, rfl, Nat.le_refl _, fun _ _ => rfl⟩⟩
end
open Go.RowKit Go.Lib Go.Sort
set_option maxRecDepth 100000
theorem EnA_is1_9 : Is1 Tryz.prog 9 := ⟨⟨_, Tryz.underlying9, rfl⟩, by kernel_rfl⟩
theorem qug {w : World} {Bs : Nat} {so : Option Addr} {ca : Nat} {l : List ByteArray} (hR : Rs w so l) (hBs : w.cell? ⟨Bs, 0, none⟩ = some (.slice so l.length ca)) (hl : l.length ≤ 8796093021952) : Calls Tryz.prog 98 #[.func (.func 100) #[] [.pointer (some ⟨Bs, 0, none⟩)].toArray] w fun e w' => ∃ so' ca', e = .returned (.slice so' l.length ca') ∧ Mg w w' [.row 9 1 (.slice so' l.length ca') l.length (strC l)] := by
 have M : Mg w w ([]) := Mg.start w
 refine qx (l := [(0, .func (.func 100) #[] [.pointer (some ⟨Bs, 0, none⟩)].toArray)]) Tryz.func98 rfl Tryz.ntmps98 rfl rfl ?_
 intro Q hret hnorm hP a A
 refine wsk fun K1 hK1 => wrl (sda A λa A↦?_)
 refine qa (hK1 _ _ (wsk fun K2 hK2 => wrl (sdm A λa A↦?_)))
 refine sct A (ef rfl rfl) (qmj (hR.below M.bel) ((M.bel.cell (yw hBs)).trans hBs) hl) ?_
 rintro _ w7 ⟨v3, rfl, hM4⟩
 obtain ⟨so5, ca6, rfl⟩ := zv (hM4.has 0 rfl)
 replace M : Mg w w7 (.row 9 1 (.slice so5 l.length ca6) l.length (strC l) :: []) := (M.both hM4 (ql qn) (qg (by simp) (ql qn)))
 refine ⟨_, rfl, ?_⟩
 intro a A
 refine sda A λa A↦?_
 refine qa (hK2 _ _ (wp_ret (hret _ _ (en1 A rfl (qf rfl) ?_))))
 replace M : Mg w w7 (.row 9 1 (.slice so5 l.length ca6) l.length (strC l) :: []) := by
  have h9 := M.sub (cc (.refl _))
  exact h9
 exact ⟨_, _, rfl, M⟩
theorem qye {w : World} {Bs : Nat} {so : Option Addr} {ca : Nat} {l : List ByteArray} (hR : Rs w so l) (hBs : w.cell? ⟨Bs, 0, none⟩ = some (.slice so l.length ca)) (hl : l.length ≤ 8796093021952) : Calls Tryz.prog 89 #[.func (.func 100) #[] [.pointer (some ⟨Bs, 0, none⟩)].toArray] w fun e w' => ∃ so' ca', e = .returned (.slice so' l.length ca') ∧ Mg w w' [.row 9 1 (.slice so' l.length ca') l.length ((qbd (byL l)).map encStr)] := by
 have M : Mg w w ([]) := Mg.start w
 refine qx (l := [(0, .func (.func 100) #[] [.pointer (some ⟨Bs, 0, none⟩)].toArray)]) Tryz.func89 rfl Tryz.ntmps89 rfl rfl ?_
 intro Q hret hnorm hP a A
 refine wsk fun K1 hK1 => wrl (sda A λa A↦?_)
 refine qa (hK1 _ _ (wsk fun K2 hK2 => wrl (sdm A λa A↦?_)))
 refine sct A (ef rfl rfl) (qug (hR.below M.bel) ((M.bel.cell (yw hBs)).trans hBs) hl) ?_
 rintro _ w6 ⟨so3, ca4, rfl, hM5⟩
 replace M : Mg w w6 (.row 9 1 (.slice so3 l.length ca4) l.length (strC l) :: []) := (M.both hM5 (ql qn) (qg (by simp) (ql qn)))
 refine ⟨_, rfl, ?_⟩
 intro a A
 refine sda A λa A↦?_
 refine qa (hK2 _ _ (wsk fun K7 hK7 => wrl (sdm A λa A↦?_)))
 replace M : Mg w w6 (.row 9 1 (.slice so3 l.length ca4) l.length ((byL l).map encStr) :: []) := by rw [zne]; exact M
 refine sct A (ef rfl rfl) (zeh (zs := byL l) (by simp [byL]) (by simpa [byL] using hl) M) ?_
 rintro _ w9 ⟨rfl, hM8⟩
 replace M : Mg w w9 (.row 9 1 (.slice so3 l.length ca4) l.length ((qbd (byL l)).map encStr) :: []) := hM8
 refine ⟨_, rfl, ?_⟩
 intro a A
 refine qa (hK7 _ _ (wsk fun K10 hK10 => wrl (sdm A λa A↦?_)))
 refine sda A λa A↦?_
 refine qa (hK10 _ _ (wp_ret (hret _ _ (en1 A rfl (qf rfl) ?_))))
 replace M : Mg w w9 (.row 9 1 (.slice so3 l.length ca4) l.length ((qbd (byL l)).map encStr) :: []) := by
  have h9 := M.sub (cc (.refl _))
  exact h9
 exact ⟨_, _, rfl, M⟩
theorem qga {w : World} {so : Option Addr} {ca : Nat} {l : List ByteArray} (hR : Rs w so l) (hl : l.length ≤ 8796093021952) : Calls Tryz.prog 78 #[.slice so l.length ca] w fun e w' => e = .returned (.bool (twS l)) ∧ Below w.heap.size w w' := by
 have M : Mg w w ([]) := Mg.start w
 refine qx (l := [(0, .slice so l.length ca)]) Tryz.func78 rfl Tryz.ntmps78 rfl rfl ?_
 intro Q hret hnorm hP a A
 refine wsk fun K1 hK1 => wrl (sda A λa A↦?_)
 refine qa (hK1 _ _ (wsk fun K2 hK2 => wrl (sdm A λa A↦?_)))
 refine sct A (ef rfl rfl) (qyd) ?_
 rintro _ w5 ⟨g3, rfl, hM4⟩
 replace M : Mg w w5 (.obj g3 (.cells #[.slice so l.length ca] 30) :: []) := (M.both hM4 (ql qn) (qg (by simp) (ql qn)))
 refine ⟨_, rfl, ?_⟩
 intro a A
 refine sct A (ef rfl rfl) (qye (hR.below M.bel) (M.cell 0 rfl 0 rfl) hl) ?_
 rintro _ w9 ⟨so6, ca7, rfl, hM8⟩
 replace M : Mg w w9 (.row 9 1 (.slice so6 l.length ca7) l.length ((qbd (byL l)).map encStr) :: .obj g3 (.cells #[.slice so l.length ca] 30) :: []) := (M.both hM8 (qg (by simp) (ql qn)) (qg (by simp) (ql qn)))
 refine ⟨_, rfl, ?_⟩
 intro a A
 refine sda A λa A↦?_
 refine qa (hK2 _ _ (wsk fun K10 hK10 => wrl (sdm A λa A↦?_)))
 refine sct A (ef rfl rfl) (qre (zs := qbd (byL l)) (by simp [qbd, byL]) (by simpa [qbd, byL] using hl) M) ?_
 rintro _ w12 ⟨rfl, hM11⟩
 replace M : Mg w w12 (.obj g3 (.cells #[.slice so l.length ca] 30) :: []) := hM11
 refine ⟨_, rfl, ?_⟩
 intro a A
 refine sdo A (qp Tryz.underlying30 rfl) λa A↦?_
 refine sdm A λa A↦?_
 refine sdo A (qp Tryz.underlying30 rfl) λa A↦?_
 refine sdo (v := .bool (decide ((((compact (qbd (byL l))).length : Nat) : Int) < ((l.length : Nat) : Int)))) A (qi rfl rfl za) λa A↦?_
 refine sda A λa A↦?_
 refine qa (hK10 _ _ (wp_ret (hret _ _ (en1 A rfl (qf rfl) ?_))))
 refine ⟨?_, M.bel⟩
 rw [← qqd l]
 congr 2
 exact decide_eq_decide.2 Int.ofNat_lt
theorem zqd {w : World} {so : Option Addr} {ca : Nat} {l : List ByteArray} (hR : Rs w so l) (hl : l.length ≤ 8796093021952) : Calls Tryz.prog 71 #[.slice so l.length ca] w fun e w' => ∃ v, e = .returned v ∧ Mg w w' [.row 9 1 v l.length (strC l)] := by
 have M : Mg w w ([]) := Mg.start w
 refine qx (l := [(0, .slice so l.length ca)]) Tryz.func71 rfl Tryz.ntmps71 rfl rfl ?_
 intro Q hret hnorm hP a A
 refine wsk fun K1 hK1 => wrl (sda A λa A↦?_)
 refine qa (hK1 _ _ (wsk fun K2 hK2 => wrl (sdm A λa A↦?_)))
 replace M := M.nilRow (ql qn) 9 1
 refine jh (e := 9) (sz := 1) (k := 0) (q := 0) (m := l.length) (xs := []) (news := strC l) (L' := fun v3 => (.row 9 1 (v3) (0 + l.length) ([] ++ strC l) :: [])) A rfl rfl rfl (jp (z := .string ⟨#[]⟩) (sz := 1) (by_ := 16) Tryz.underlying30 (by kernel_rfl) rfl rfl rfl M 0 rfl rfl rfl (zrc l) (hR.below M.bel) (zif l) (by omega)) (fun _ => rfl) ?_
 intro v3 w4 M a A
 refine sda A λa A↦?_
 refine qa (hK2 _ _ (wp_ret (hret _ _ (en1 A rfl (qf rfl) ?_))))
 exact ⟨_, rfl, by rw [Nat.zero_add, List.nil_append] at M; exact M⟩
theorem clone_any {w : World} {s : ByteArray} (hs : s.size ≤ 281474976710656) : Calls Tryz.prog 52 #[.string s] w fun e w' => e = .returned (.string s) ∧ Below w.heap.size w w' := by
 have M : Mg w w ([]) := Mg.start w
 refine qx (l := [(0, .string s)]) Tryz.func52 rfl Tryz.ntmps52 rfl rfl ?_
 intro Q hret hnorm hP a A
 refine wsk fun K1 hK1 => wrl (sda A λa A↦?_)
 refine qa (hK1 _ _ (wsk fun K2 hK2 => wrl (sdm A λa A↦?_)))
 refine gcl A M (ef rfl rfl) (Tryz.stringslite_Clone s _ hs) fun w3 hb1 M a A => ?_
 refine sda A λa A↦?_
 refine qa (hK2 _ _ (wp_ret (hret _ _ (en1 A rfl (qf rfl) ?_))))
 exact ⟨rfl, M.bel⟩
theorem zei {l : List ByteArray} {i : Nat} {s : ByteArray} (h : l[i]? = some s) : (strC l).set i (.string s) = strC l := by
 apply List.ext_getElem?
 intro j
 rw [List.getElem?_set]
 by_cases e : i = j
 ·
  subst e
  have h2 := (List.getElem?_eq_some_iff.1 h).1
  rw [if_pos rfl, if_pos (by simpa [strC] using h2)]
  simp [strC, h]
 ·
  rw [if_neg e]
theorem qyf {w : World} {so : Option Addr} {ca : Nat} {l : List ByteArray} (hR : Rs w so l) (hl : l.length ≤ 8796093021952) (hs : ∀ s ∈ l, s.size ≤ 281474976710656) (hne : l ≠ []) : Calls Tryz.prog 53 #[.slice so l.length ca] w fun e w' => ∃ so' ca', e = .returned (.slice so' l.length ca') ∧ Mg w w' [.row 9 1 (.slice so' l.length ca') l.length (strC l)] := by
 have M : Mg w w ([]) := Mg.start w
 refine qx (l := [(0, .slice so l.length ca)]) Tryz.func53 rfl Tryz.ntmps53 rfl rfl ?_
 intro Q hret hnorm hP a A
 refine wsk fun K1 hK1 => wrl (sda A λa A↦?_)
 refine qa (hK1 _ _ (wsk fun K2 hK2 => wrl (sdm A λa A↦?_)))
 refine sct A (ef rfl rfl) (zqd (hR.below M.bel) hl) ?_
 rintro _ w4 ⟨v9, rfl, hM3⟩
 obtain ⟨g9, c9, rfl⟩ := qjb (hM3.has 0 rfl) (fun k => hne (List.length_eq_zero_iff.1 k))
 replace M : Mg w w4 (.row 9 1 (.slice (some ⟨g9, 0, none⟩) l.length c9) l.length (strC l) :: []) := hM3
 refine ⟨_, rfl, ?_⟩
 intro a A
 refine sda A λa A↦?_
 refine qa (hK2 _ _ (wsk fun K5 hK5 => wsk fun K6 hK6 => wrl (sdm A λa A↦?_)))
 refine sdo A (qp Tryz.underlying30 rfl) λa A↦?_
 refine sdm A λa A↦?_
 refine qa (hK6 _ _ (wp_block (zt (fun m_ a w1 => ∃ (i : Nat), m_ = 1 + (l.length - i) ∧ (i ≤ l.length) ∧ Sl a 22 [(0, .slice so l.length ca), (2, .slice none 0 0), (3, .slice (some ⟨g9, 0, none⟩) l.length c9), (6, .slice so l.length ca), (7, .slice (some ⟨g9, 0, none⟩) l.length c9), (8, .slice (some ⟨g9, 0, none⟩) l.length c9), (9, .int .i64 (((l.length : Nat) : Int))), (10, .int .i64 (((i : Nat) : Int)))] ∧ Mg w w1 (.row 9 1 (.slice (some ⟨g9, 0, none⟩) l.length c9) l.length (strC l) :: [])) _ ⟨0, rfl, Nat.zero_le _, A.keep _ (by repeat' constructor), M⟩ ?_)))
 clear M A
 rintro m_ a w7 ⟨i, rfl, hinv9, A, M⟩ K8 hK8
 have hi0 := hinv9
 refine wsk fun K10 hK10 => wrl ?_
 rcases tf (decide (((i : Nat) : Int) < ((l.length : Nat) : Int))) with hb11 | hb11
 ·
  have hb11' := of_decide_eq_true hb11
  refine sdc A za hb11 λa A↦?_
  refine qa (hK10 _ _ (wsk fun K12 hK12 => wp_cond_true (A.ev rfl) ?_))
  refine wp_skip (hK12 _ _ (wsk fun K13 hK13 => wp_block (wsk fun K14 hK14 => ?_)))
  obtain ⟨s9, it9⟩ : ∃ s, l[i]? = some s := ⟨l[i], List.getElem?_eq_getElem (by omega)⟩
  refine wrl (sdm A λa A↦?_)
  refine sdo (v := .pointer (some ⟨g9, i * 1, none⟩)) A (xp (k := i) Tryz.underlying30 (by kernel_rfl) rfl rfl (by first | rfl | omega) (by first | omega | decide)) λa A↦?_
  refine sdo A (qpe M 0 rfl (show (strC l)[i * 1]? = some (.string s9) by rw [Nat.mul_one]; simp [strC, it9]) EnA_is1_9 rfl) λa A↦?_
  iterate 2 refine sda A λa A↦?_
  refine qa (hK14 _ _ (wrl ?_))
  iterate 3 refine sdm A λa A↦?_
  refine gcl A M (ef rfl rfl) (clone_any (hs _ (List.mem_of_getElem? it9))) fun w15 hb9 M a A => ?_
  refine sdo (v := .pointer (some ⟨g9, i * 1, none⟩)) A (xp (k := i) Tryz.underlying30 (by kernel_rfl) rfl rfl (by first | rfl | omega) (by first | omega | decide)) λa A↦?_
  refine qsj (us := []) (L' := (.row 9 1 (.slice (some ⟨g9, 0, none⟩) l.length c9) l.length (strC l) :: [])) A M rfl rfl (qdd (cs := [.string s9]) rfl rfl rfl (by kernel_rfl) M 0 rfl (by show _ + 1 ≤ _; omega) rfl) 0 rfl (by rw [qua (by rw [Nat.mul_one]; simp [strC]; omega), Nat.mul_one, zei it9]; rfl) ?_
  intro w16 M
  refine qa (hK13 _ _ (wrl (sdo (v := .int .i64 (((i + 1 : Nat) : Int))) A (qi rfl rfl (ar_add ((in_i64 (by omega) (by omega)).trans (by omega)))) λa A↦?_)))
  refine sdm A λa A↦?_
  refine qa ?_
  refine hK8 _ _ _ (by omega) ⟨i + 1, rfl, by omega, A.keep _ (by repeat' constructor), M⟩
 ·
  have hb11' := of_decide_eq_false hb11
  refine sdc A za hb11 λa A↦?_
  refine qa (hK10 _ _ (wsk fun K17 hK17 => wp_cond_false (A.ev rfl) ?_))
  refine wp_exit (hK5 _ _ (wsk fun K18 hK18 => wrl (sdm A λa A↦?_)))
  refine sda A λa A↦?_
  refine qa (hK18 _ _ (wp_ret (hret _ _ (en1 A rfl (qf rfl) ?_))))
  exact ⟨_, _, rfl, M⟩
theorem zej {w : World} {so : Option Addr} {ca : Nat} : Calls Tryz.prog 53 #[.slice so ([] : List ByteArray).length ca] w fun e w' => ∃ so' ca', e = .returned (.slice so' ([] : List ByteArray).length ca') ∧ Mg w w' [.row 9 1 (.slice so' ([] : List ByteArray).length ca') ([] : List ByteArray).length (strC [])] := by
 have M : Mg w w ([]) := Mg.start w
 refine qx (l := [(0, .slice so (([] : List ByteArray).length) ca)]) Tryz.func53 rfl Tryz.ntmps53 rfl rfl ?_
 intro Q hret hnorm hP a A
 refine wsk fun K1 hK1 => wrl (sda A λa A↦?_)
 refine qa (hK1 _ _ (wsk fun K2 hK2 => wrl (sdm A λa A↦?_)))
 refine sct A (ef rfl rfl) (zqd (l := []) rs_nil (by decide)) ?_
 rintro _ w4 ⟨v9, rfl, hM3⟩
 obtain ⟨so9, c9, rfl⟩ := zv (hM3.has 0 rfl)
 replace M : Mg w w4 (.row 9 1 (.slice so9 (([] : List ByteArray).length) c9) (([] : List ByteArray).length) (strC []) :: []) := hM3
 refine ⟨_, rfl, ?_⟩
 intro a A
 refine sda A λa A↦?_
 refine qa (hK2 _ _ (wsk fun K5 hK5 => wsk fun K6 hK6 => wrl (sdm A λa A↦?_)))
 refine sdo A (qp Tryz.underlying30 rfl) λa A↦?_
 refine sdm A λa A↦?_
 refine qa (hK6 _ _ (wp_block (wp_loop_rounds 12 ?_)))
 refine qid fun K7 hK7 => ?_
 refine wsk fun K8 hK8 => wrl (sdo (v := .bool false) A (qi rfl rfl (fun w => (za w).trans (by rw [show (decide (0 < ((([] : List ByteArray).length : Nat) : Int))) = false from (by rfl)]))) λa A↦?_)
 refine qa (hK8 _ _ (wsk fun K9 hK9 => wp_cond_false (A.ev rfl) ?_))
 refine wp_exit (hK5 _ _ (wsk fun K10 hK10 => wrl (sdm A λa A↦?_)))
 refine sda A λa A↦?_
 refine qa (hK10 _ _ (wp_ret (hret _ _ (en1 A rfl (qf rfl) ?_))))
 exact ⟨_, _, rfl, M⟩
theorem texts_any {w : World} {so : Option Addr} {ca : Nat} {l : List ByteArray} (hR : Rs w so l) (hl : l.length ≤ 8796093021952) (hs : ∀ s ∈ l, s.size ≤ 281474976710656) : Calls Tryz.prog 53 #[.slice so l.length ca] w fun e w' => ∃ so' ca', e = .returned (.slice so' l.length ca') ∧ Mg w w' [.row 9 1 (.slice so' l.length ca') l.length (strC l)] := by
 by_cases h : l = []
 ·
  subst h; exact zej
 ·
  exact qyf hR hl hs h
theorem EnB_is1_9 : Is1 Tryz.prog 9 := ⟨⟨_, Tryz.underlying9, rfl⟩, by kernel_rfl⟩
theorem EnB_isS_111 : IsS Tryz.prog 111 2 := ⟨⟨_, Tryz.underlying111⟩, by kernel_rfl⟩
theorem qyg (m : Nat) : (madeCells (Value.bool false).cells (m * 1)).toList = boolC (List.replicate m false) := by
 apply List.ext_getElem?
 intro j
 by_cases hj : j < m
 ·
  simp [madeCells, boolC, Value.cells, hj, List.getElem?_replicate, Nat.mod_one]
 ·
  simp [madeCells, boolC, Value.cells, hj, List.getElem?_replicate]
theorem zfa (bs : List Bool) (i : Nat) (b : Bool) (h : i < bs.length) : over (boolC bs) (i * 1) [.bool b] = boolC (bs.set i b) := by
 rw [qua (by rw [Nat.mul_one]; simpa [boolC] using h), Nat.mul_one]
 simp [boolC, List.map_set]
/-- What stands where so many were asked. -/
def qcf (p : ByteArray → Bool) (l : List ByteArray) (i : Nat) : List Bool := (l.take i).map p ++ List.replicate (l.length - i) false
theorem zjb (p : ByteArray → Bool) (l : List ByteArray) {i : Nat} (h : i ≤ l.length) : (qcf p l i).length = l.length := by
 unfold qcf
 rw [List.length_append, List.length_map, List.length_take, List.length_replicate]
 omega
theorem zfb {p : ByteArray → Bool} {l : List ByteArray} {i : Nat} {s : ByteArray} (h : l[i]? = some s) : (qcf p l i).set i (p s) = qcf p l (i + 1) := by
 have hi := (List.getElem?_eq_some_iff.1 h).1
 unfold qcf
 rw [List.set_append_right _ _ (by rw [List.length_map, List.length_take]; omega), List.length_map, List.length_take, Nat.min_eq_left (by omega), Nat.sub_self, List.take_add_one, h, Option.toList_some, List.map_append, List.append_assoc, show l.length - i = (l.length - (i + 1)) + 1 by omega, List.replicate_succ]
 rfl
theorem zfc {p : ByteArray → Bool} {l : List ByteArray} {i : Nat} (h : l.length ≤ i) : qcf p l i = l.map p := by
 unfold qcf
 rw [List.take_of_length_le h, show l.length - i = 0 by omega]
 simp
theorem zfd {w : World} {so : Option Addr} {ca : Nat} {l : List ByteArray} (hR : Rs w so l) (hl : l.length ≤ 8796093021952) (hs : ∀ s ∈ l, s.size ≤ 281474976710656) {f : FuncId} {cs : List Value} {p : ByteArray → Bool} (hF : AskS Tryz.prog f cs w p) : Calls Tryz.prog 79 #[.slice so l.length ca, .func (.func f) #[] cs.toArray] w fun e w' => ∃ so' ca' si' ci', e = .returned (.agg #[.slice so' l.length ca', .slice si' l.length ci']) ∧ Mg w w' [.row 9 1 (.slice so' l.length ca') l.length (strC l), .row 4 1 (.slice si' l.length ci') l.length (boolC (l.map p))] := by
 have M : Mg w w ([]) := Mg.start w
 refine qx (l := [(0, .slice so l.length ca), (1, .func (.func f) #[] cs.toArray)]) Tryz.func79 rfl Tryz.ntmps79 rfl rfl ?_
 intro Q hret hnorm hP a A
 refine wsk fun K1 hK1 => wrl (jb (vs := [.slice none 0 0, .slice none 0 0]) (t := 111) A M rfl rfl rfl pg (zw (z := .agg #[.slice none 0 0, .slice none 0 0]) (by kernel_rfl) rfl) (by decide) ?_)
 intro g2 w3 M a A
 refine qa (hK1 _ _ (wsk fun K4 hK4 => wrl (sdm A λa A↦?_)))
 refine sdo A (qp Tryz.underlying30 rfl) λa A↦?_
 refine zmd (z := .bool false) (sz := 1) (by_ := 1) (m := l.length) A M Tryz.underlying31 (by kernel_rfl) rfl rfl rfl rfl rfl rfl (by omega) (by omega) (.inl (by decide)) ?_
 intro g5 w6 M a A
 replace M : Mg w w6 (.row 4 1 (.slice (some ⟨g5, 0, none⟩) l.length l.length) l.length (boolC (List.replicate l.length false)) :: .obj g2 (.cells #[.slice none 0 0, .slice none 0 0] 111) :: []) := by rw [← qyg]; exact M
 refine sda A λa A↦?_
 refine qa (hK4 _ _ (wsk fun K7 hK7 => wsk fun K8 hK8 => wrl (sdm A λa A↦?_)))
 refine sdo A (qp Tryz.underlying30 rfl) λa A↦?_
 refine sdm A λa A↦?_
 refine qa (hK8 _ _ (wp_block ?_))
 replace M : Mg w w6 (.row 4 1 (.slice (some ⟨g5, 0, none⟩) l.length l.length) l.length (boolC (qcf p l 0)) :: .obj g2 (.cells #[.slice none 0 0, .slice none 0 0] 111) :: []) := by rw [show qcf p l 0 = List.replicate l.length false by simp [qcf]]; exact M
 refine zt (fun m_ a w1 => ∃ (i : Nat), m_ = 1 + (l.length - i) ∧ (i ≤ l.length) ∧ Sl a 29 [(0, .slice so l.length ca), (1, .func (.func f) #[] cs.toArray), (4, .pointer (some ⟨g2, 0, none⟩)), (5, .slice (some ⟨g5, 0, none⟩) l.length l.length), (8, .slice so l.length ca), (9, .int .i64 (((l.length : Nat) : Int))), (10, .slice (some ⟨g5, 0, none⟩) l.length l.length), (11, .slice so l.length ca), (12, .int .i64 (((l.length : Nat) : Int))), (13, .int .i64 (((i : Nat) : Int)))] ∧ Mg w w1 (.row 4 1 (.slice (some ⟨g5, 0, none⟩) l.length l.length) l.length (boolC (qcf p l i)) :: .obj g2 (.cells #[.slice none 0 0, .slice none 0 0] 111) :: [])) _ ⟨0, rfl, Nat.zero_le _, A.keep _ (by repeat' constructor), M⟩ ?_
 clear M A
 rintro m_ a w9 ⟨i, rfl, hinv11, A, M⟩ K10 hK10
 have hi0 := hinv11
 refine wsk fun K12 hK12 => wrl ?_
 rcases tf (decide (((i : Nat) : Int) < ((l.length : Nat) : Int))) with hb13 | hb13
 ·
  have hb13' := of_decide_eq_true hb13
  refine sdc A za hb13 λa A↦?_
  refine qa (hK12 _ _ (wsk fun K14 hK14 => wp_cond_true (A.ev rfl) ?_))
  refine wp_skip (hK14 _ _ (wsk fun K15 hK15 => wp_block (wsk fun K16 hK16 => wrl (sdm A λa A↦?_))))
  obtain ⟨bx17, ox18, sx19, hs20, hc21, hi22⟩ := hR.at_ (i := i) (by omega)
  refine sdo (v := .pointer (some ⟨bx17, ox18 + i, none⟩)) A (zp (k := i) Tryz.underlying30 (by kernel_rfl) rfl rfl (by first | rfl | omega) hs20 (by omega)) λa A↦?_
  refine sdo A (m_loadX M hc21 EnB_is1_9 rfl) λa A↦?_
  iterate 2 refine sda A λa A↦?_
  refine qa (hK16 _ _ (wrl ?_))
  iterate 4 refine sdm A λa A↦?_
  refine xu A rfl rfl rfl (kf rfl rfl hF.inv) (hF.run sx19 _ M.bel) ?_
  rintro _ w24 ⟨rfl, hb23⟩
  replace M := M.call hb23
  refine ⟨_, rfl, ?_⟩
  intro a A
  refine sdo (v := .pointer (some ⟨g5, i * 1, none⟩)) A (xp (k := i) Tryz.underlying31 (by kernel_rfl) rfl rfl (by first | rfl | omega) (by first | omega | decide)) λa A↦?_
  refine qsj (us := []) (L' := (.row 4 1 (.slice (some ⟨g5, 0, none⟩) l.length l.length) l.length (boolC (qcf p l (i + 1))) :: .obj g2 (.cells #[.slice none 0 0, .slice none 0 0] 111) :: [])) A M rfl rfl (qdd (cs := [.bool (p sx19)]) rfl rfl rfl (by kernel_rfl) M 0 rfl (by show _ + 1 ≤ _; omega) rfl) 0 rfl (by rw [zfa _ _ _ (by rw [zjb p l (by omega)]; omega), zfb hi22]; rfl) ?_
  intro w25 M
  refine qa (hK15 _ _ (wrl (sdo (v := .int .i64 (((i + 1 : Nat) : Int))) A (qi rfl rfl (ar_add ((in_i64 (by omega) (by omega)).trans (by omega)))) λa A↦?_)))
  refine sdm A λa A↦?_
  refine qa ?_
  refine hK10 _ _ _ (by omega) ⟨i + 1, rfl, by omega, A.keep _ (by repeat' constructor), M⟩
 ·
  have hb13' := of_decide_eq_false hb13
  refine sdc A za hb13 λa A↦?_
  refine qa (hK12 _ _ (wsk fun K26 hK26 => wp_cond_false (A.ev rfl) ?_))
  refine wp_exit (hK7 _ _ (wsk fun K27 hK27 => wrl (sdm A λa A↦?_)))
  refine sct A (ef rfl rfl) (texts_any (hR.below M.bel) hl hs) ?_
  rintro _ w31 ⟨so28, ca29, rfl, hM30⟩
  replace M : Mg w w31 (.row 9 1 (.slice so28 l.length ca29) l.length (strC l) :: .row 4 1 (.slice (some ⟨g5, 0, none⟩) l.length l.length) l.length (boolC (qcf p l i)) :: .obj g2 (.cells #[.slice none 0 0, .slice none 0 0] 111) :: []) := (M.both hM30 (qg (by simp) (qg (by simp) (ql qn))) (qg (by simp) (ql qn)))
  refine ⟨_, rfl, ?_⟩
  intro a A
  refine sdm A λa A↦?_
  refine sdo (v := .agg #[.slice so28 l.length ca29, .slice (some ⟨g5, 0, none⟩) l.length l.length]) A (jd rfl (fun w => by kernel_rfl)) λa A↦?_
  refine zr (us := [.slice so28 l.length ca29, .slice (some ⟨g5, 0, none⟩) l.length l.length]) (L' := (.row 9 1 (.slice so28 l.length ca29) l.length (strC l) :: .row 4 1 (.slice (some ⟨g5, 0, none⟩) l.length l.length) l.length (boolC (qcf p l i)) :: .obj g2 (.cells #[.slice so28 l.length ca29, .slice (some ⟨g5, 0, none⟩) l.length l.length] 111) :: [])) A M rfl rfl (qz rfl rfl rfl (by kernel_rfl) M 2 rfl rfl rfl) 2 rfl rfl rfl ?_
  intro w32 M
  refine qa (hK27 _ _ (wp_ret (hret _ _ (en1 A rfl (zm M EnB_isS_111 rfl 2 rfl (cs := [.slice so28 l.length ca29, .slice (some ⟨g5, 0, none⟩) l.length l.length]) rfl rfl) ?_))))
  replace M : Mg w w32 (.row 9 1 (.slice so28 l.length ca29) l.length (strC l) :: .row 4 1 (.slice (some ⟨g5, 0, none⟩) l.length l.length) l.length (boolC (qcf p l i)) :: []) := by
   have h9 := M.sub (cc (cc (cn (.refl _))))
   exact h9
  rw [zfc (show l.length ≤ i by omega)] at M
  exact ⟨_, _, _, _, rfl, M⟩
theorem EnC_isS_111 : IsS Tryz.prog 111 2 := ⟨⟨_, Tryz.underlying111⟩, by kernel_rfl⟩
theorem zjc {w : World} {s : ByteArray} : Calls Tryz.prog 80 #[.string s] w fun e w' => e = .returned (.bool true) ∧ Below w.heap.size w w' := by
 have M : Mg w w ([]) := Mg.start w
 refine qx (l := [(0, .string s)]) Tryz.func80 rfl Tryz.ntmps80 rfl rfl ?_
 intro Q hret hnorm hP a A
 refine wsk fun K1 hK1 => wrl (sda A λa A↦?_)
 refine qa (hK1 _ _ (wsk fun K2 hK2 => wrl (sda A λa A↦?_)))
 refine qa (hK2 _ _ (wp_ret (hret _ _ (en1 A rfl (qf rfl) ?_))))
 exact ⟨rfl, M.bel⟩
theorem zjd {w : World} : AskS Tryz.prog 80 [] w (fun _ => true) := ⟨fun us w => by kernel_rfl, fun s w1 hb => zjc⟩
theorem new_twice {w : World} {so : Option Addr} {ca : Nat} {l : List ByteArray} (hR : Rs w so l) (hl : l.length ≤ 8796093021952) (ht : twS l = true) : Calls Tryz.prog 67 #[.slice so l.length ca] w fun e w' => e = .returned (.tuple #[.agg #[.slice none 0 0, .slice none 0 0], .int .i64 8]) ∧ Below w.heap.size w w' := by
 have M : Mg w w ([]) := Mg.start w
 refine qx (l := [(0, .slice so l.length ca)]) Tryz.func67 rfl Tryz.ntmps67 rfl rfl ?_
 intro Q hret hnorm hP a A
 refine wsk fun K1 hK1 => wrl (jb (vs := [.slice none 0 0, .slice none 0 0]) (t := 111) A M rfl rfl rfl pg (zw (z := .agg #[.slice none 0 0, .slice none 0 0]) (by kernel_rfl) rfl) (by decide) ?_)
 intro g2 w3 M a A
 refine sda A λa A↦?_
 refine qa (hK1 _ _ (wsk fun K4 hK4 => wp_block (wsk fun K5 hK5 => wrl (sdm A λa A↦?_))))
 refine gcl A M (ef rfl rfl) ((ht ▸ qga (hR.below M.bel) (by omega))) fun w7 hb6 M a A => ?_
 refine sda A λa A↦?_
 refine qa (hK5 _ _ (wp_cond_true (A.ev rfl) ?_))
 refine wsk fun K8 hK8 => wrl (sdo (v := .agg #[.slice none 0 0, .slice none 0 0]) A (jd rfl (fun w => by kernel_rfl)) λa A↦?_)
 refine zr (us := [.slice none 0 0, .slice none 0 0]) (L' := (.obj g2 (.cells #[.slice none 0 0, .slice none 0 0] 111) :: [])) A M rfl rfl (qz rfl rfl rfl (by kernel_rfl) M 0 rfl rfl rfl) 0 rfl rfl rfl ?_
 intro w9 M
 refine sda A λa A↦?_
 refine qa (hK8 _ _ (wp_ret (hret _ _ (en2 A rfl (zm M EnC_isS_111 rfl 0 rfl (cs := [.slice none 0 0, .slice none 0 0]) rfl rfl) (qf rfl) ?_))))
 exact ⟨rfl, M.bel⟩
theorem new_large {w : World} {so : Option Addr} {ca : Nat} {l : List ByteArray} (hR : Rs w so l) (hl : l.length ≤ 8796093021952) (ht : twS l = false) (h64 : 64 < l.length) : Calls Tryz.prog 67 #[.slice so l.length ca] w fun e w' => e = .returned (.tuple #[.agg #[.slice none 0 0, .slice none 0 0], .int .i64 4]) ∧ Below w.heap.size w w' := by
 have M : Mg w w ([]) := Mg.start w
 refine qx (l := [(0, .slice so l.length ca)]) Tryz.func67 rfl Tryz.ntmps67 rfl rfl ?_
 intro Q hret hnorm hP a A
 refine wsk fun K1 hK1 => wrl (jb (vs := [.slice none 0 0, .slice none 0 0]) (t := 111) A M rfl rfl rfl pg (zw (z := .agg #[.slice none 0 0, .slice none 0 0]) (by kernel_rfl) rfl) (by decide) ?_)
 intro g2 w3 M a A
 refine sda A λa A↦?_
 refine qa (hK1 _ _ (wsk fun K4 hK4 => wp_block (wsk fun K5 hK5 => wrl (sdm A λa A↦?_))))
 refine gcl A M (ef rfl rfl) ((ht ▸ qga (hR.below M.bel) (by omega))) fun w7 hb6 M a A => ?_
 refine sda A λa A↦?_
 refine qa (hK5 _ _ (wp_cond_false (A.ev rfl) ?_))
 refine wsk fun K8 hK8 => wrl (sdm A λa A↦?_)
 refine sdo A (qp Tryz.underlying30 rfl) λa A↦?_
 refine sdo (v := .bool true) A (qi rfl rfl (fun w => (jj w).trans (by rw [show (decide (64 < ((l.length : Nat) : Int))) = true from (decide_eq_true (by omega))]))) λa A↦?_
 refine sda A λa A↦?_
 refine qa (hK8 _ _ (wp_cond_true (A.ev rfl) ?_))
 refine wsk fun K9 hK9 => wrl (sdo (v := .agg #[.slice none 0 0, .slice none 0 0]) A (jd rfl (fun w => by kernel_rfl)) λa A↦?_)
 refine zr (us := [.slice none 0 0, .slice none 0 0]) (L' := (.obj g2 (.cells #[.slice none 0 0, .slice none 0 0] 111) :: [])) A M rfl rfl (qz rfl rfl rfl (by kernel_rfl) M 0 rfl rfl rfl) 0 rfl rfl rfl ?_
 intro w10 M
 refine sda A λa A↦?_
 refine qa (hK9 _ _ (wp_ret (hret _ _ (en2 A rfl (zm M EnC_isS_111 rfl 0 rfl (cs := [.slice none 0 0, .slice none 0 0]) rfl rfl) (qf rfl) ?_))))
 exact ⟨rfl, M.bel⟩
theorem new_ok {w : World} {so : Option Addr} {ca : Nat} {l : List ByteArray} (hR : Rs w so l) (hs : ∀ s ∈ l, s.size ≤ 281474976710656) (ht : twS l = false) (h64 : l.length ≤ 64) : Calls Tryz.prog 67 #[.slice so l.length ca] w fun e w' => ∃ so' ca' si' ci', e = .returned (.tuple #[.agg #[.slice so' l.length ca', .slice si' l.length ci'], .int .i64 0]) ∧ Mg w w' [.row 9 1 (.slice so' l.length ca') l.length (strC l), .row 4 1 (.slice si' l.length ci') l.length (boolC (l.map fun _ => true))] := by
 have M : Mg w w ([]) := Mg.start w
 refine qx (l := [(0, .slice so l.length ca)]) Tryz.func67 rfl Tryz.ntmps67 rfl rfl ?_
 intro Q hret hnorm hP a A
 refine wsk fun K1 hK1 => wrl (jb (vs := [.slice none 0 0, .slice none 0 0]) (t := 111) A M rfl rfl rfl pg (zw (z := .agg #[.slice none 0 0, .slice none 0 0]) (by kernel_rfl) rfl) (by decide) ?_)
 intro g2 w3 M a A
 refine sda A λa A↦?_
 refine qa (hK1 _ _ (wsk fun K4 hK4 => wp_block (wsk fun K5 hK5 => wrl (sdm A λa A↦?_))))
 refine gcl A M (ef rfl rfl) ((ht ▸ qga (hR.below M.bel) (by omega))) fun w7 hb6 M a A => ?_
 refine sda A λa A↦?_
 refine qa (hK5 _ _ (wp_cond_false (A.ev rfl) ?_))
 refine wsk fun K8 hK8 => wrl (sdm A λa A↦?_)
 refine sdo A (qp Tryz.underlying30 rfl) λa A↦?_
 refine sdo (v := .bool false) A (qi rfl rfl (fun w => (jj w).trans (by rw [show (decide (64 < ((l.length : Nat) : Int))) = false from (decide_eq_false (by omega))]))) λa A↦?_
 refine sda A λa A↦?_
 refine qa (hK8 _ _ (wp_cond_false (A.ev rfl) ?_))
 refine wp_skip (hK4 _ _ (wsk fun K9 hK9 => wrl (sdm A λa A↦?_)))
 refine sct A (ef rfl rfl) (zfd (hR.below M.bel) (by omega) hs (cs := []) zjd) ?_
 rintro _ w15 ⟨so10, ca11, si12, ci13, rfl, hM14⟩
 replace M : Mg w w15 (.row 9 1 (.slice so10 l.length ca11) l.length (strC l) :: .row 4 1 (.slice si12 l.length ci13) l.length (boolC (l.map (fun _ => true))) :: .obj g2 (.cells #[.slice none 0 0, .slice none 0 0] 111) :: []) := (M.both hM14 (qg (by simp) (ql qn)) (qg (by simp) (qg (by simp) (ql qn))))
 refine ⟨_, rfl, ?_⟩
 intro a A
 refine zr (us := [.slice so10 l.length ca11, .slice si12 l.length ci13]) (L' := (.row 9 1 (.slice so10 l.length ca11) l.length (strC l) :: .row 4 1 (.slice si12 l.length ci13) l.length (boolC (l.map (fun _ => true))) :: .obj g2 (.cells #[.slice so10 l.length ca11, .slice si12 l.length ci13] 111) :: [])) A M rfl rfl (qz rfl rfl rfl (by kernel_rfl) M 2 rfl rfl rfl) 2 rfl rfl rfl ?_
 intro w16 M
 refine sda A λa A↦?_
 refine qa (hK9 _ _ (wp_ret (hret _ _ (en2 A rfl (zm M EnC_isS_111 rfl 2 rfl (cs := [.slice so10 l.length ca11, .slice si12 l.length ci13]) rfl rfl) (qf rfl) ?_))))
 replace M : Mg w w16 (.row 9 1 (.slice so10 l.length ca11) l.length (strC l) :: .row 4 1 (.slice si12 l.length ci13) l.length (boolC (l.map (fun _ => true))) :: []) := by
  have h9 := M.sub (cc (cc (cn (.refl _))))
  exact h9
 exact ⟨_, _, _, _, rfl, M⟩
end Go.Proofs.YtokgmpjblnpjmaaGreatDoor.G.E
namespace Go.Proofs.YtokgmpjblnpjmaaGreatDoor.G
open Go.RowKit
set_option linter.unusedVariables false
set_option linter.unusedSimpArgs false
set_option maxRecDepth 100000
theorem RcB_is1_26 : Is1 Tryz.prog 26 := ⟨⟨_, Tryz.underlying26, rfl⟩, by kernel_rfl⟩
theorem RcB_is1_3 : Is1 Tryz.prog 3 := ⟨⟨_, Tryz.underlying3, rfl⟩, by kernel_rfl⟩
theorem RcB_is1_30 : Is1 Tryz.prog 30 := ⟨⟨_, Tryz.underlying30, rfl⟩, by kernel_rfl⟩
theorem RcB_is1_31 : Is1 Tryz.prog 31 := ⟨⟨_, Tryz.underlying31, rfl⟩, by kernel_rfl⟩
theorem RcB_is1_4 : Is1 Tryz.prog 4 := ⟨⟨_, Tryz.underlying4, rfl⟩, by kernel_rfl⟩
theorem RcB_is1_9 : Is1 Tryz.prog 9 := ⟨⟨_, Tryz.underlying9, rfl⟩, by kernel_rfl⟩
theorem RcB_fld_33_0 : FieldAt Tryz.prog 33 0 0 := ⟨_, _, Tryz.underlying33, rfl, rfl, by kernel_rfl⟩
theorem RcB_fld_33_1 : FieldAt Tryz.prog 33 1 1 := ⟨_, _, Tryz.underlying33, rfl, rfl, by kernel_rfl⟩
theorem RcB_fld_33_2 : FieldAt Tryz.prog 33 2 2 := ⟨_, _, Tryz.underlying33, rfl, rfl, by kernel_rfl⟩
theorem RcB_fld_33_3 : FieldAt Tryz.prog 33 3 3 := ⟨_, _, Tryz.underlying33, rfl, rfl, by kernel_rfl⟩
theorem RcB_fld_33_4 : FieldAt Tryz.prog 33 4 4 := ⟨_, _, Tryz.underlying33, rfl, rfl, by kernel_rfl⟩
theorem RcB_fld_33_5 : FieldAt Tryz.prog 33 5 5 := ⟨_, _, Tryz.underlying33, rfl, rfl, by kernel_rfl⟩
theorem RcB_fld_33_6 : FieldAt Tryz.prog 33 6 6 := ⟨_, _, Tryz.underlying33, rfl, rfl, by kernel_rfl⟩
theorem RcB_fld_73_0 : FieldAt Tryz.prog 73 0 0 := ⟨_, _, Tryz.underlying73, rfl, rfl, by kernel_rfl⟩
theorem RcB_isS_33 : IsS Tryz.prog 33 7 := ⟨⟨_, Tryz.underlying33⟩, by kernel_rfl⟩
theorem qec {w : World} {so : Option Addr} {ca : Nat} {l : List ByteArray} (hR : E.Rs w so l) (hl : l.length ≤ 2000000) (hs : ∀ s ∈ l, s.size ≤ 281474976710656) : Calls Tryz.prog 48 #[.slice so l.length ca] w fun e w' => e = .returned (.bool (E.twS l)) ∧ Below w.heap.size w w' := by
 have M : Mg w w ([]) := Mg.start w
 refine qx (l := [(0, .slice so l.length ca)]) Tryz.func48 rfl Tryz.ntmps48 rfl rfl ?_
 intro Q hret hnorm hP a A
 refine wsk fun K1 hK1 => wrl (sda A λa A↦?_)
 refine qa (hK1 _ _ (wsk fun K2 hK2 => wrl (sdm A λa A↦?_)))
 rcases tf (E.twS l) with hb4 | hb4
 ·
  refine gcl A M (ef rfl rfl) (E.new_twice (hR.below M.bel) (by omega) hb4) fun w6 hb5 M a A => ?_
  refine sdm A λa A↦?_
  iterate 2 refine sdo A (ze (vs := [.agg #[.slice none 0 0, .slice none 0 0], .int .i64 8]) rfl rfl) λa A↦?_
  refine jb (vs := [.slice none 0 0, .slice none 0 0]) (t := 111) A M rfl rfl rfl pg (zw (z := .agg #[.slice none 0 0, .slice none 0 0]) (by kernel_rfl) rfl) (by decide) ?_
  intro g7 w8 M a A
  refine zr (us := [.slice none 0 0, .slice none 0 0]) (L' := (.obj g7 (.cells #[.slice none 0 0, .slice none 0 0] 111) :: [])) A M rfl rfl (qz rfl rfl rfl (by kernel_rfl) M 0 rfl rfl rfl) 0 rfl rfl rfl ?_
  intro w9 M
  refine sda A λa A↦?_
  refine qa (hK2 _ _ (wsk fun K10 hK10 => wrl (sdm A λa A↦?_)))
  refine sdo (v := .bool true) A (qi rfl rfl (fun w => by kernel_rfl)) λa A↦?_
  refine sda A λa A↦?_
  refine qa (hK10 _ _ (wp_ret (hret _ _ (en1 A rfl (qf rfl) ?_))))
  exact ⟨by rw [hb4], M.bel⟩
 ·
  rcases tf (decide (64 < l.length)) with hb12 | hb12
  ·
   have hb12' := of_decide_eq_true hb12
   refine gcl A M (ef rfl rfl) (E.new_large (hR.below M.bel) (by omega) hb4 (of_decide_eq_true hb12)) fun w14 hb13 M a A => ?_
   refine sdm A λa A↦?_
   iterate 2 refine sdo A (ze (vs := [.agg #[.slice none 0 0, .slice none 0 0], .int .i64 4]) rfl rfl) λa A↦?_
   refine jb (vs := [.slice none 0 0, .slice none 0 0]) (t := 111) A M rfl rfl rfl pg (zw (z := .agg #[.slice none 0 0, .slice none 0 0]) (by kernel_rfl) rfl) (by decide) ?_
   intro g15 w16 M a A
   refine zr (us := [.slice none 0 0, .slice none 0 0]) (L' := (.obj g15 (.cells #[.slice none 0 0, .slice none 0 0] 111) :: [])) A M rfl rfl (qz rfl rfl rfl (by kernel_rfl) M 0 rfl rfl rfl) 0 rfl rfl rfl ?_
   intro w17 M
   refine sda A λa A↦?_
   refine qa (hK2 _ _ (wsk fun K18 hK18 => wrl (sdm A λa A↦?_)))
   refine sdo (v := .bool false) A (qi rfl rfl (fun w => by kernel_rfl)) λa A↦?_
   refine sda A λa A↦?_
   refine qa (hK18 _ _ (wp_ret (hret _ _ (en1 A rfl (qf rfl) ?_))))
   exact ⟨by rw [hb4], M.bel⟩
  ·
   have hb12' := of_decide_eq_false hb12
   refine sct A (ef rfl rfl) (E.new_ok (hR.below M.bel) hs hb4 (by have := of_decide_eq_false hb12; omega)) ?_
   rintro _ w20 ⟨s1, c1, s2, c2, rfl, hb19⟩
   replace M := M.call hb19.bel
   refine ⟨_, rfl, ?_⟩
   intro a A
   refine sdm A λa A↦?_
   iterate 2 refine sdo A (ze (vs := [.agg #[.slice s1 l.length c1, .slice s2 l.length c2], .int .i64 0]) rfl rfl) λa A↦?_
   refine jb (vs := [.slice none 0 0, .slice none 0 0]) (t := 111) A M rfl rfl rfl pg (zw (z := .agg #[.slice none 0 0, .slice none 0 0]) (by kernel_rfl) rfl) (by decide) ?_
   intro g21 w22 M a A
   refine zr (us := [.slice s1 l.length c1, .slice s2 l.length c2]) (L' := (.obj g21 (.cells #[.slice s1 l.length c1, .slice s2 l.length c2] 111) :: [])) A M rfl rfl (qz rfl rfl rfl (by kernel_rfl) M 0 rfl rfl rfl) 0 rfl rfl rfl ?_
   intro w23 M
   refine sda A λa A↦?_
   refine qa (hK2 _ _ (wsk fun K24 hK24 => wrl (sdm A λa A↦?_)))
   refine sdo (v := .bool false) A (qi rfl rfl (fun w => by kernel_rfl)) λa A↦?_
   refine sda A λa A↦?_
   refine qa (hK24 _ _ (wp_ret (hret _ _ (en1 A rfl (qf rfl) ?_))))
   exact ⟨by rw [hb4], M.bel⟩
theorem qyh {w : World} {b tc rc : Nat} {tz ro : Option Addr} {ts : List Ty} {rs : List Rk} (V : SR w b tz tc ts ro rc rs) (hW : WS (ts.map Ty.k) (rs.map Rk.k)) {u : Ty} (hU : TyR w u) (hul : u.fs.length ≤ 2000000) (huz : ∀ s ∈ u.fs, s.size ≤ 281474976710656) : Calls Tryz.prog 25 #[.pointer (some ⟨b, 0, none⟩), .agg #[.string u.nm, .int .i64 u.par, .slice u.fo u.fs.length u.fc, .slice u.mo u.ms.length u.mc, .bool u.sl, .bool u.op, .string u.ui]] w fun e w' => e = .returned (.bool (gdB ts.length u.k)) ∧ Below w.heap.size w w' := by
 have M : Mg w w ([]) := Mg.start w
 refine qx (l := [(0, .pointer (some ⟨b, 0, none⟩)), (1, .agg #[.string u.nm, .int .i64 u.par, .slice u.fo u.fs.length u.fc, .slice u.mo u.ms.length u.mc, .bool u.sl, .bool u.op, .string u.ui])]) Tryz.func25 rfl Tryz.ntmps25 rfl rfl ?_
 intro Q hret hnorm hP a A
 refine wsk fun K1 hK1 => wrl (jb (vs := [.string u.nm, .int .i64 u.par, .slice u.fo u.fs.length u.fc, .slice u.mo u.ms.length u.mc, .bool u.sl, .bool u.op, .string u.ui]) (t := 33) A M rfl rfl rfl pg (zh rfl rfl) (by decide) ?_)
 intro g2 w3 M a A
 refine sda A λa A↦?_
 refine qa (hK1 _ _ (wsk fun K4 hK4 => wrl (sdo (v := .pointer (some ⟨g2, 3, none⟩)) A (qb RcB_fld_33_3 rfl rfl) λa A↦?_)))
 refine sdo A (qh M RcB_is1_31 rfl 0 rfl rfl) λa A↦?_
 refine sdo A (qp Tryz.underlying31 rfl) λa A↦?_
 refine sdo (v := .pointer (some ⟨g2, 2, none⟩)) A (qb RcB_fld_33_2 rfl rfl) λa A↦?_
 refine sdo A (qh M RcB_is1_30 rfl 0 rfl rfl) λa A↦?_
 refine sdo A (qp Tryz.underlying30 rfl) λa A↦?_
 rcases tf ((((u.ms.length : Nat) : Int) == ((u.fs.length : Nat) : Int))) with hb5 | hb5
 ·
  have hb5' := eq_of_beq hb5
  refine sdc A qt hb5 λa A↦?_
  refine sdm A λa A↦?_
  refine sdo (v := .pointer (some ⟨g2, 2, none⟩)) A (qb RcB_fld_33_2 rfl rfl) λa A↦?_
  refine sdo A (qh M RcB_is1_30 rfl 0 rfl rfl) λa A↦?_
  rcases tf (E.twS u.fs) with hb6 | hb6
  ·
   refine gcl A M (ef rfl rfl) ((hb6 ▸ qec (hU.f.below M.bel) hul huz)) fun w8 hb7 M a A => ?_
   refine sdo (v := .bool false) A (zj rfl zq) λa A↦?_
   refine sdk (v := .bool false) A λa A↦?_
   refine sdm A λa A↦?_
   iterate 4 refine qk A rfl rfl rfl λa A↦?_
   iterate 5 refine kg A rfl rfl rfl λa A↦?_
   refine qk A rfl rfl rfl λa A↦?_
   refine sdk (v := .bool false) A λa A↦?_
   refine sda A λa A↦?_
   refine qa (hK4 _ _ (wp_ret (hret _ _ (en1 A rfl (qf rfl) ?_))))
   exact ⟨by rw [uy (n := ts.length) (k := u.k) (.inr (.inl hb6))], M.bel⟩
  ·
   refine gcl A M (ef rfl rfl) ((hb6 ▸ qec (hU.f.below M.bel) hul huz)) fun w10 hb9 M a A => ?_
   refine sdo (v := .bool true) A (zj rfl zq) λa A↦?_
   refine sdk (v := .bool true) A λa A↦?_
   refine sdm A λa A↦?_
   refine sdo (v := .pointer (some ⟨g2, 1, none⟩)) A (qb RcB_fld_33_1 rfl rfl) λa A↦?_
   refine sdo A (qh M RcB_is1_3 rfl 0 rfl rfl) λa A↦?_
   rcases tf ((u.par == -1)) with hb11 | hb11
   ·
    have hb11' := eq_of_beq hb11
    refine sdc A qt hb11 λa A↦?_
    refine sdm A λa A↦?_
    iterate 5 refine qk A rfl rfl rfl λa A↦?_
    iterate 2 refine sdk (v := .bool true) A λa A↦?_
    refine sda A λa A↦?_
    refine qa (hK4 _ _ (wp_ret (hret _ _ (en1 A rfl (qf rfl) ?_))))
    exact ⟨by rw [zih (n := ts.length) (k := u.k) (show u.ms.length = u.fs.length by omega) hb6 (show -1 ≤ u.par by omega) (show u.par < _ by omega)], M.bel⟩
   ·
    have hb11' := ne_of_beq_false hb11
    refine sdc A qt hb11 λa A↦?_
    iterate 2 refine sdm A λa A↦?_
    refine sdo (v := .pointer (some ⟨g2, 1, none⟩)) A (qb RcB_fld_33_1 rfl rfl) λa A↦?_
    refine sdo A (qh M RcB_is1_3 rfl 0 rfl rfl) λa A↦?_
    rcases tf (okT ts.length u.par) with hb12 | hb12
    ·
     have hx14 := ka hb12
     refine gcl A M (ef rfl rfl) (vj (V.below M.bel) hW hb12) fun w15 hb13 M a A => ?_
     refine sdo (v := .bool true) A (qi rfl rfl (fun w => by kernel_rfl)) λa A↦?_
     iterate 2 refine sdk (v := .bool true) A λa A↦?_
     refine sda A λa A↦?_
     refine qa (hK4 _ _ (wp_ret (hret _ _ (en1 A rfl (qf rfl) ?_))))
     exact ⟨by rw [zih (n := ts.length) (k := u.k) (show u.ms.length = u.fs.length by omega) hb6 (show -1 ≤ u.par by omega) (show u.par < _ by omega)], M.bel⟩
    ·
     have hx17 := qbe hb12
     refine gcl A M (ef rfl rfl) (kp (V.below M.bel) hW hb12) fun w18 hb16 M a A => ?_
     refine sdo (v := .bool false) A (qi rfl rfl (fun w => by kernel_rfl)) λa A↦?_
     iterate 2 refine sdk (v := .bool false) A λa A↦?_
     refine sda A λa A↦?_
     refine qa (hK4 _ _ (wp_ret (hret _ _ (en1 A rfl (qf rfl) ?_))))
     exact ⟨by rw [uy (n := ts.length) (k := u.k) (.inr (.inr (show u.par < -1 ∨ ((ts.length : Nat) : Int) ≤ u.par by omega)))], M.bel⟩
 ·
  have hb5' := ne_of_beq_false hb5
  refine sdc A qt hb5 λa A↦?_
  refine sdm A λa A↦?_
  iterate 4 refine qk A rfl rfl rfl λa A↦?_
  refine sdk (v := .bool false) A λa A↦?_
  refine sdm A λa A↦?_
  iterate 4 refine qk A rfl rfl rfl λa A↦?_
  iterate 5 refine kg A rfl rfl rfl λa A↦?_
  refine qk A rfl rfl rfl λa A↦?_
  refine sdk (v := .bool false) A λa A↦?_
  refine sda A λa A↦?_
  refine qa (hK4 _ _ (wp_ret (hret _ _ (en1 A rfl (qf rfl) ?_))))
  exact ⟨by rw [uy (n := ts.length) (k := u.k) (.inl (show u.ms.length ≠ u.fs.length by omega))], M.bel⟩
theorem qgb {w : World} {b tc rc : Nat} {tz ro : Option Addr} {ts : List Ty} {rs : List Rk} (V : SR w b tz tc ts ro rc rs) (hW : WS (ts.map Ty.k) (rs.map Rk.k)) {u : Ty} (hU : TyR w u) (hul : u.fs.length ≤ 2000000) (huz : ∀ s ∈ u.fs, s.size ≤ 281474976710656) {v : Bool} (h : gdB ts.length u.k = v) : Calls Tryz.prog 25 #[.pointer (some ⟨b, 0, none⟩), .agg #[.string u.nm, .int .i64 u.par, .slice u.fo u.fs.length u.fc, .slice u.mo u.ms.length u.mc, .bool u.sl, .bool u.op, .string u.ui]] w fun e w' => e = .returned (.bool v) ∧ Below w.heap.size w w' := h ▸ qyh V hW hU hul huz
theorem qki {w : World} {so so2 : Option Addr} {ca ca2 : Nat} {l l2 : List Bool} (hR : E.Rl w so l) (hR2 : E.Rl w so2 l2) (hl : l.length ≤ 2000000) (hl2 : l2.length ≤ 1000000000) : Calls Tryz.prog 69 #[.slice so l.length ca, .slice so2 l2.length ca2] w fun e w' => e = .returned (.bool (decide (l = l2))) ∧ Below w.heap.size w w' := by
 have M : Mg w w ([]) := Mg.start w
 refine qx (l := [(0, .slice so l.length ca), (1, .slice so2 l2.length ca2)]) Tryz.func69 rfl Tryz.ntmps69 rfl rfl ?_
 intro Q hret hnorm hP a A
 refine wsk fun K1 hK1 => wrl (sda A λa A↦?_)
 refine qa (hK1 _ _ (wsk fun K2 hK2 => wsk fun K3 hK3 => wrl (sdm A λa A↦?_)))
 refine sdo A (qp Tryz.underlying31 rfl) λa A↦?_
 refine sdm A λa A↦?_
 refine sdo A (qp Tryz.underlying31 rfl) λa A↦?_
 rcases tf ((((l.length : Nat) : Int) != ((l2.length : Nat) : Int))) with hb4 | hb4
 ·
  have hb4' := bne_iff_ne.1 hb4
  refine sdc A zi hb4 λa A↦?_
  refine qa (hK3 _ _ (wp_cond_true (A.ev rfl) ?_))
  refine wsk fun K5 hK5 => wrl (sda A λa A↦?_)
  refine qa (hK5 _ _ (wp_ret (hret _ _ (en1 A rfl (qf rfl) ?_))))
  refine ⟨?_, M.bel⟩
  rw [decide_eq_false (fun e9 => by rw [e9] at hb4'; exact hb4' rfl)]
 ·
  have hb4' := bne_eq_false_iff_eq.1 hb4
  refine sdc A zi hb4 λa A↦?_
  refine qa (hK3 _ _ (wp_cond_false (A.ev rfl) ?_))
  refine wp_skip (hK2 _ _ (wsk fun K6 hK6 => wsk fun K7 hK7 => wrl (sdm A λa A↦?_)))
  refine sdo A (qp Tryz.underlying31 rfl) λa A↦?_
  refine sdm A λa A↦?_
  refine qa (hK7 _ _ (wp_block (zt (fun m_ a w1 => ∃ (i : Nat), m_ = 1 + (l.length - i) ∧ (i ≤ l.length ∧ ∀ j : Nat, j < i → l[j]? = l2[j]?) ∧ Sl a 26 [(0, .slice so l.length ca), (1, .slice so2 l2.length ca2), (6, .slice so l.length ca), (7, .int .i64 (((l.length : Nat) : Int))), (8, .slice so2 l2.length ca2), (9, .int .i64 (((l2.length : Nat) : Int))), (10, .bool false), (11, .slice so l.length ca), (12, .int .i64 (((l.length : Nat) : Int))), (13, .int .i64 (((i : Nat) : Int)))] ∧ Mg w w1 ([])) _ ⟨0, rfl, ⟨Nat.zero_le _, fun j h => absurd h (Nat.not_lt_zero _)⟩, A.keep _ (by repeat' constructor), M⟩ ?_)))
  clear M A
  rintro m_ a w8 ⟨i, rfl, hinv10, A, M⟩ K9 hK9
  obtain ⟨hi0, hin9⟩ := hinv10
  refine wsk fun K11 hK11 => wrl ?_
  rcases tf (decide (((i : Nat) : Int) < ((l.length : Nat) : Int))) with hb12 | hb12
  ·
   have hb12' := of_decide_eq_true hb12
   refine sdc A za hb12 λa A↦?_
   refine qa (hK11 _ _ (wsk fun K13 hK13 => wp_cond_true (A.ev rfl) ?_))
   refine wp_skip (hK13 _ _ (wsk fun K14 hK14 => wp_block (wsk fun K15 hK15 => wrl (sdm A λa A↦?_))))
   refine sda A λa A↦?_
   refine qa (hK15 _ _ (wsk fun K16 hK16 => zn (S := fun w1 => Mg w w1 ([])) (by kernel_rfl) ?_))
   replace M := M.drew
   refine qe A 0 rfl rfl rfl rfl hP (M.sub (List.nil_sublist _)) (fun w1 M => qr rfl) λa A↦?_
   refine qe A 1 rfl rfl rfl rfl hP (M.sub (List.nil_sublist _)) (fun w1 M => qr rfl) λa A↦?_
   obtain ⟨bx17, ox18, sx19, hs20, hc21, hi22⟩ := hR.at_ (i := i) (by omega)
   refine qe (v := .pointer (some ⟨bx17, ox18 + i, none⟩)) A 2 rfl rfl rfl rfl hP (M.sub (List.nil_sublist _)) (fun w1 M => zp (k := i) Tryz.underlying31 (by kernel_rfl) rfl rfl (by first | rfl | omega) hs20 (by omega)) λa A↦?_
   refine qe A 3 rfl rfl rfl rfl hP (M.sub (List.nil_sublist _)) (fun w1 M => E.m_loadX M hc21 RcB_is1_4 rfl) λa A↦?_
   refine qe A 4 rfl rfl rfl rfl hP (M.sub (List.nil_sublist _)) (fun w1 M => qr rfl) λa A↦?_
   refine qe A 5 rfl rfl rfl rfl hP (M.sub (List.nil_sublist _)) (fun w1 M => qr rfl) λa A↦?_
   obtain ⟨bx23, ox24, sx25, hs26, hc27, hi28⟩ := hR2.at_ (i := i) (by omega)
   refine qe (v := .pointer (some ⟨bx23, ox24 + i, none⟩)) A 6 rfl rfl rfl rfl hP (M.sub (List.nil_sublist _)) (fun w1 M => zp (k := i) Tryz.underlying31 (by kernel_rfl) rfl rfl (by first | rfl | omega) hs26 (by omega)) λa A↦?_
   refine qe A 7 rfl rfl rfl rfl hP (M.sub (List.nil_sublist _)) (fun w1 M => E.m_loadX M hc27 RcB_is1_4 rfl) λa A↦?_
   rcases tf (!(sx19 == sx25)) with hb29 | hb29
   ·
    refine qe (v := .bool true) A 8 rfl rfl rfl rfl hP (M.sub (List.nil_sublist _)) (fun w1 M => qi rfl rfl (fun w => ((ve Tryz.underlying4) w).trans (by rw [hb29]))) λa A↦?_
    refine zd (by kernel_rfl) ?_
    refine hK16 _ _ (wp_cond_true (A.ev rfl) ?_)
    refine wsk fun K30 hK30 => wrl (sda A λa A↦?_)
    refine qa (hK30 _ _ (wp_ret (hret _ _ (en1 A rfl (qf rfl) ?_))))
    refine ⟨?_, M.bel⟩
    rw [decide_eq_false (fun e9 => by rw [e9, hi28] at hi22; have e8 := Option.some.inj hi22; rw [e8] at hb29; simp at hb29)]
   ·
    refine qe (v := .bool false) A 8 rfl rfl rfl rfl hP (M.sub (List.nil_sublist _)) (fun w1 M => qi rfl rfl (fun w => ((ve Tryz.underlying4) w).trans (by rw [hb29]))) λa A↦?_
    refine zd (by kernel_rfl) ?_
    refine hK16 _ _ (wp_cond_false (A.ev rfl) ?_)
    refine wp_skip (hK14 _ _ (wrl (sdo (v := .int .i64 (((i + 1 : Nat) : Int))) A (qi rfl rfl (fun w => (jc (jg (by omega) (by omega)) w).trans (by rw [show (((i : Nat) : Int) + 1 : Int) = ((i + 1 : Nat) : Int) from by omega]))) λa A↦?_)))
    refine sdm A λa A↦?_
    refine qa ?_
    refine hK9 _ _ _ (by omega) ⟨i + 1, rfl, ⟨by omega, fun j hj => if h9 : j < i then hin9 j h9 else by have h8 : j = i := (by omega); subst h8; rw [hi22, hi28, show sx19 = sx25 from by simpa using hb29]⟩, A.keep _ (by repeat' constructor), M⟩
  ·
   have hb12' := of_decide_eq_false hb12
   refine sdc A za hb12 λa A↦?_
   refine qa (hK11 _ _ (wsk fun K31 hK31 => wp_cond_false (A.ev rfl) ?_))
   refine wp_exit (hK6 _ _ (wsk fun K32 hK32 => wrl (sda A λa A↦?_)))
   refine qa (hK32 _ _ (wp_ret (hret _ _ (en1 A rfl (qf rfl) ?_))))
   refine ⟨?_, M.bel⟩
   rw [decide_eq_true (List.ext_getElem? fun j => if h9 : j < i then hin9 j h9 else by rw [List.getElem?_eq_none (by omega), List.getElem?_eq_none (by omega)])]
theorem same_any {w : World} {ya yb : Ty} (hA1 : TyR w ya) (hB1 : TyR w yb) (ha1 : ya.fs.length ≤ 2000000) (hb1 : yb.fs.length ≤ 2000000) (ha2 : ya.ms.length ≤ 2000000) (hb2 : yb.ms.length ≤ 2000000) : Calls Tryz.prog 51 #[.agg #[.string ya.nm, .int .i64 ya.par, .slice ya.fo ya.fs.length ya.fc, .slice ya.mo ya.ms.length ya.mc, .bool ya.sl, .bool ya.op, .string ya.ui], .agg #[.string yb.nm, .int .i64 yb.par, .slice yb.fo yb.fs.length yb.fc, .slice yb.mo yb.ms.length yb.mc, .bool yb.sl, .bool yb.op, .string yb.ui]] w fun e w' => e = .returned (.bool (xm ya.k yb.k)) ∧ Below w.heap.size w w' := by
 have M : Mg w w ([]) := Mg.start w
 refine qx (l := [(0, .agg #[.string ya.nm, .int .i64 ya.par, .slice ya.fo ya.fs.length ya.fc, .slice ya.mo ya.ms.length ya.mc, .bool ya.sl, .bool ya.op, .string ya.ui]), (1, .agg #[.string yb.nm, .int .i64 yb.par, .slice yb.fo yb.fs.length yb.fc, .slice yb.mo yb.ms.length yb.mc, .bool yb.sl, .bool yb.op, .string yb.ui])]) Tryz.func51 rfl Tryz.ntmps51 rfl rfl ?_
 intro Q hret hnorm hP a A
 refine wsk fun K1 hK1 => wrl (jb (vs := [.string ya.nm, .int .i64 ya.par, .slice ya.fo ya.fs.length ya.fc, .slice ya.mo ya.ms.length ya.mc, .bool ya.sl, .bool ya.op, .string ya.ui]) (t := 33) A M rfl rfl rfl pg (zh rfl rfl) (by decide) ?_)
 intro g2 w3 M a A
 refine jb (vs := [.string yb.nm, .int .i64 yb.par, .slice yb.fo yb.fs.length yb.fc, .slice yb.mo yb.ms.length yb.mc, .bool yb.sl, .bool yb.op, .string yb.ui]) (t := 33) A M rfl rfl rfl pg (zh rfl rfl) (by decide) ?_
 intro g4 w5 M a A
 refine sda A λa A↦?_
 refine qa (hK1 _ _ (wsk fun K6 hK6 => wrl (sdo (v := .pointer (some ⟨g2, 0, none⟩)) A (qb RcB_fld_33_0 rfl rfl) λa A↦?_)))
 refine sdo A (qh M RcB_is1_9 rfl 1 rfl rfl) λa A↦?_
 refine sdo (v := .pointer (some ⟨g4, 0, none⟩)) A (qb RcB_fld_33_0 rfl rfl) λa A↦?_
 refine sdo A (qh M RcB_is1_9 rfl 0 rfl rfl) λa A↦?_
 rcases tf (decide (ya.nm = yb.nm)) with hb7 | hb7
 ·
  have hb7' := of_decide_eq_true hb7
  refine sdo (v := .bool true) A (qi rfl rfl (fun w => (xk Tryz.underlying9 w).trans (by rw [hb7] <;> rfl))) λa A↦?_
  refine sdm A λa A↦?_
  refine sdo (v := .pointer (some ⟨g2, 1, none⟩)) A (qb RcB_fld_33_1 rfl rfl) λa A↦?_
  refine sdo A (qh M RcB_is1_3 rfl 1 rfl rfl) λa A↦?_
  refine sdo (v := .pointer (some ⟨g4, 1, none⟩)) A (qb RcB_fld_33_1 rfl rfl) λa A↦?_
  refine sdo A (qh M RcB_is1_3 rfl 0 rfl rfl) λa A↦?_
  rcases tf ((ya.par == yb.par)) with hb8 | hb8
  ·
   have hb8' := eq_of_beq hb8
   refine sdc A qt hb8 λa A↦?_
   refine sdk (v := .bool true) A λa A↦?_
   refine sdm A λa A↦?_
   refine sdo (v := .pointer (some ⟨g2, 2, none⟩)) A (qb RcB_fld_33_2 rfl rfl) λa A↦?_
   refine sdo A (qh M RcB_is1_30 rfl 1 rfl rfl) λa A↦?_
   refine sdo (v := .pointer (some ⟨g4, 2, none⟩)) A (qb RcB_fld_33_2 rfl rfl) λa A↦?_
   refine sdo A (qh M RcB_is1_30 rfl 0 rfl rfl) λa A↦?_
   rcases tf (decide (ya.fs = yb.fs)) with hb9 | hb9
   ·
    have hb9' := of_decide_eq_true hb9
    refine gcl A M (ef rfl rfl) ((hb9 ▸ E.equalS_any (hA1.f.below M.bel) (hB1.f.below M.bel) (by omega) (by omega))) fun w11 hb10 M a A => ?_
    refine sdk (v := .bool true) A λa A↦?_
    refine sdm A λa A↦?_
    refine sdo (v := .pointer (some ⟨g2, 3, none⟩)) A (qb RcB_fld_33_3 rfl rfl) λa A↦?_
    refine sdo A (qh M RcB_is1_31 rfl 1 rfl rfl) λa A↦?_
    refine sdo (v := .pointer (some ⟨g4, 3, none⟩)) A (qb RcB_fld_33_3 rfl rfl) λa A↦?_
    refine sdo A (qh M RcB_is1_31 rfl 0 rfl rfl) λa A↦?_
    rcases tf (decide (ya.ms = yb.ms)) with hb12 | hb12
    ·
     have hb12' := of_decide_eq_true hb12
     refine gcl A M (ef rfl rfl) ((hb12 ▸ qki (hA1.m.below M.bel) (hB1.m.below M.bel) (by omega) (by omega))) fun w14 hb13 M a A => ?_
     refine sdk (v := .bool true) A λa A↦?_
     refine sdm A λa A↦?_
     refine sdo (v := .pointer (some ⟨g2, 4, none⟩)) A (qb RcB_fld_33_4 rfl rfl) λa A↦?_
     refine sdo A (qh M RcB_is1_4 rfl 1 rfl rfl) λa A↦?_
     refine sdo (v := .pointer (some ⟨g4, 4, none⟩)) A (qb RcB_fld_33_4 rfl rfl) λa A↦?_
     refine sdo A (qh M RcB_is1_4 rfl 0 rfl rfl) λa A↦?_
     rcases tf ((ya.sl == yb.sl)) with hb15 | hb15
     ·
      have hb15' := eq_of_beq hb15
      refine sdo (v := .bool true) A (qi rfl rfl (fun w => ((yd Tryz.underlying4) w).trans (by rw [hb15]))) λa A↦?_
      refine sdk (v := .bool true) A λa A↦?_
      refine sdm A λa A↦?_
      refine sdo (v := .pointer (some ⟨g2, 5, none⟩)) A (qb RcB_fld_33_5 rfl rfl) λa A↦?_
      refine sdo A (qh M RcB_is1_4 rfl 1 rfl rfl) λa A↦?_
      refine sdo (v := .pointer (some ⟨g4, 5, none⟩)) A (qb RcB_fld_33_5 rfl rfl) λa A↦?_
      refine sdo A (qh M RcB_is1_4 rfl 0 rfl rfl) λa A↦?_
      rcases tf ((ya.op == yb.op)) with hb16 | hb16
      ·
       have hb16' := eq_of_beq hb16
       refine sdo (v := .bool true) A (qi rfl rfl (fun w => ((yd Tryz.underlying4) w).trans (by rw [hb16]))) λa A↦?_
       refine sdk (v := .bool true) A λa A↦?_
       refine sdm A λa A↦?_
       refine sdo (v := .pointer (some ⟨g2, 6, none⟩)) A (qb RcB_fld_33_6 rfl rfl) λa A↦?_
       refine sdo A (qh M RcB_is1_9 rfl 1 rfl rfl) λa A↦?_
       refine sdo (v := .pointer (some ⟨g4, 6, none⟩)) A (qb RcB_fld_33_6 rfl rfl) λa A↦?_
       refine sdo A (qh M RcB_is1_9 rfl 0 rfl rfl) λa A↦?_
       rcases tf (decide (ya.ui = yb.ui)) with hb17 | hb17
       ·
        have hb17' := of_decide_eq_true hb17
        refine sdo (v := .bool true) A (qi rfl rfl (fun w => (xk Tryz.underlying9 w).trans (by rw [hb17] <;> rfl))) λa A↦?_
        refine sdk (v := .bool true) A λa A↦?_
        refine sda A λa A↦?_
        refine qa (hK6 _ _ (wp_ret (hret _ _ (en1 A rfl (qf rfl) ?_))))
        refine ⟨?_, M.bel⟩
        rw [show xm ya.k yb.k = true from by rw [vx, hb7, hb8, hb9, hb12, hb15, hb16, hb17]; rfl]
       ·
        have hb17' := of_decide_eq_false hb17
        refine sdo (v := .bool false) A (qi rfl rfl (fun w => (xk Tryz.underlying9 w).trans (by rw [hb17] <;> rfl))) λa A↦?_
        refine sdk (v := .bool false) A λa A↦?_
        refine sda A λa A↦?_
        refine qa (hK6 _ _ (wp_ret (hret _ _ (en1 A rfl (qf rfl) ?_))))
        refine ⟨?_, M.bel⟩
        rw [show xm ya.k yb.k = false from by rw [vx, hb7, hb8, hb9, hb12, hb15, hb16, hb17]; rfl]
      ·
       have hb16' := ne_of_beq_false hb16
       refine sdo (v := .bool false) A (qi rfl rfl (fun w => ((yd Tryz.underlying4) w).trans (by rw [hb16]))) λa A↦?_
       refine sdk (v := .bool false) A λa A↦?_
       refine sdm A λa A↦?_
       iterate 5 refine qk A rfl rfl rfl λa A↦?_
       refine sdk (v := .bool false) A λa A↦?_
       refine sda A λa A↦?_
       refine qa (hK6 _ _ (wp_ret (hret _ _ (en1 A rfl (qf rfl) ?_))))
       refine ⟨?_, M.bel⟩
       rw [show xm ya.k yb.k = false from by rw [vx, hb7, hb8, hb9, hb12, hb15, hb16]; rfl]
     ·
      have hb15' := ne_of_beq_false hb15
      refine sdo (v := .bool false) A (qi rfl rfl (fun w => ((yd Tryz.underlying4) w).trans (by rw [hb15]))) λa A↦?_
      refine sdk (v := .bool false) A λa A↦?_
      refine sdm A λa A↦?_
      iterate 5 refine qk A rfl rfl rfl λa A↦?_
      refine sdk (v := .bool false) A λa A↦?_
      refine sdm A λa A↦?_
      iterate 5 refine qk A rfl rfl rfl λa A↦?_
      refine sdk (v := .bool false) A λa A↦?_
      refine sda A λa A↦?_
      refine qa (hK6 _ _ (wp_ret (hret _ _ (en1 A rfl (qf rfl) ?_))))
      refine ⟨?_, M.bel⟩
      rw [show xm ya.k yb.k = false from by rw [vx, hb7, hb8, hb9, hb12, hb15]; rfl]
    ·
     have hb12' := of_decide_eq_false hb12
     refine gcl A M (ef rfl rfl) ((hb12 ▸ qki (hA1.m.below M.bel) (hB1.m.below M.bel) (by omega) (by omega))) fun w19 hb18 M a A => ?_
     refine sdk (v := .bool false) A λa A↦?_
     refine sdm A λa A↦?_
     iterate 5 refine qk A rfl rfl rfl λa A↦?_
     refine sdk (v := .bool false) A λa A↦?_
     refine sdm A λa A↦?_
     iterate 5 refine qk A rfl rfl rfl λa A↦?_
     refine sdk (v := .bool false) A λa A↦?_
     refine sdm A λa A↦?_
     iterate 5 refine qk A rfl rfl rfl λa A↦?_
     refine sdk (v := .bool false) A λa A↦?_
     refine sda A λa A↦?_
     refine qa (hK6 _ _ (wp_ret (hret _ _ (en1 A rfl (qf rfl) ?_))))
     refine ⟨?_, M.bel⟩
     rw [show xm ya.k yb.k = false from by rw [vx, hb7, hb8, hb9, hb12]; rfl]
   ·
    have hb9' := of_decide_eq_false hb9
    refine gcl A M (ef rfl rfl) ((hb9 ▸ E.equalS_any (hA1.f.below M.bel) (hB1.f.below M.bel) (by omega) (by omega))) fun w21 hb20 M a A => ?_
    refine sdk (v := .bool false) A λa A↦?_
    refine sdm A λa A↦?_
    iterate 5 refine qk A rfl rfl rfl λa A↦?_
    refine sdk (v := .bool false) A λa A↦?_
    refine sdm A λa A↦?_
    iterate 5 refine qk A rfl rfl rfl λa A↦?_
    refine sdk (v := .bool false) A λa A↦?_
    refine sdm A λa A↦?_
    iterate 5 refine qk A rfl rfl rfl λa A↦?_
    refine sdk (v := .bool false) A λa A↦?_
    refine sdm A λa A↦?_
    iterate 5 refine qk A rfl rfl rfl λa A↦?_
    refine sdk (v := .bool false) A λa A↦?_
    refine sda A λa A↦?_
    refine qa (hK6 _ _ (wp_ret (hret _ _ (en1 A rfl (qf rfl) ?_))))
    refine ⟨?_, M.bel⟩
    rw [show xm ya.k yb.k = false from by rw [vx, hb7, hb8, hb9]; rfl]
  ·
   have hb8' := ne_of_beq_false hb8
   refine sdc A qt hb8 λa A↦?_
   refine sdk (v := .bool false) A λa A↦?_
   refine sdm A λa A↦?_
   iterate 5 refine qk A rfl rfl rfl λa A↦?_
   refine sdk (v := .bool false) A λa A↦?_
   refine sdm A λa A↦?_
   iterate 5 refine qk A rfl rfl rfl λa A↦?_
   refine sdk (v := .bool false) A λa A↦?_
   refine sdm A λa A↦?_
   iterate 5 refine qk A rfl rfl rfl λa A↦?_
   refine sdk (v := .bool false) A λa A↦?_
   refine sdm A λa A↦?_
   iterate 5 refine qk A rfl rfl rfl λa A↦?_
   refine sdk (v := .bool false) A λa A↦?_
   refine sdm A λa A↦?_
   iterate 5 refine qk A rfl rfl rfl λa A↦?_
   refine sdk (v := .bool false) A λa A↦?_
   refine sda A λa A↦?_
   refine qa (hK6 _ _ (wp_ret (hret _ _ (en1 A rfl (qf rfl) ?_))))
   refine ⟨?_, M.bel⟩
   rw [show xm ya.k yb.k = false from by rw [vx, hb7, hb8]; rfl]
 ·
  have hb7' := of_decide_eq_false hb7
  refine sdo (v := .bool false) A (qi rfl rfl (fun w => (xk Tryz.underlying9 w).trans (by rw [hb7] <;> rfl))) λa A↦?_
  refine sdm A λa A↦?_
  iterate 5 refine qk A rfl rfl rfl λa A↦?_
  refine sdk (v := .bool false) A λa A↦?_
  refine sdm A λa A↦?_
  iterate 5 refine qk A rfl rfl rfl λa A↦?_
  refine sdk (v := .bool false) A λa A↦?_
  refine sdm A λa A↦?_
  iterate 5 refine qk A rfl rfl rfl λa A↦?_
  refine sdk (v := .bool false) A λa A↦?_
  refine sdm A λa A↦?_
  iterate 5 refine qk A rfl rfl rfl λa A↦?_
  refine sdk (v := .bool false) A λa A↦?_
  refine sdm A λa A↦?_
  iterate 5 refine qk A rfl rfl rfl λa A↦?_
  refine sdk (v := .bool false) A λa A↦?_
  refine sdm A λa A↦?_
  iterate 5 refine qk A rfl rfl rfl λa A↦?_
  refine sdk (v := .bool false) A λa A↦?_
  refine sda A λa A↦?_
  refine qa (hK6 _ _ (wp_ret (hret _ _ (en1 A rfl (qf rfl) ?_))))
  refine ⟨?_, M.bel⟩
  rw [show xm ya.k yb.k = false from by rw [vx, hb7]; rfl]
theorem zcb {w : World} {ya yb : Ty} (hA1 : TyR w ya) (hB1 : TyR w yb) (ha1 : ya.fs.length ≤ 2000000) (hb1 : yb.fs.length ≤ 2000000) (ha2 : ya.ms.length ≤ 2000000) (hb2 : yb.ms.length ≤ 2000000) {v : Bool} (h : xm ya.k yb.k = v) : Calls Tryz.prog 51 #[.agg #[.string ya.nm, .int .i64 ya.par, .slice ya.fo ya.fs.length ya.fc, .slice ya.mo ya.ms.length ya.mc, .bool ya.sl, .bool ya.op, .string ya.ui], .agg #[.string yb.nm, .int .i64 yb.par, .slice yb.fo yb.fs.length yb.fc, .slice yb.mo yb.ms.length yb.mc, .bool yb.sl, .bool yb.op, .string yb.ui]] w fun e w' => e = .returned (.bool v) ∧ Below w.heap.size w w' := h ▸ same_any hA1 hB1 ha1 hb1 ha2 hb2
theorem qyi {w : World} {tz : Option Addr} {tc : Nat} {ts : List Ty} (hT : TR w tz ts) (hl : ts.length ≤ 2000000) {f : FuncId} {cs : List Value} {p : Ty → Bool} (hF : AskG (fun t => .agg t.c.toArray) Tryz.prog f cs w ts p) : Calls Tryz.prog 49 #[.slice tz ts.length tc, .func (.func f) #[] cs.toArray] w fun e w' => e = .returned (.int .i64 (ixG p ts)) ∧ Below w.heap.size w w' := by
 have M : Mg w w ([]) := Mg.start w
 refine qx (l := [(0, .slice tz ts.length tc), (1, .func (.func f) #[] cs.toArray)]) Tryz.func49 rfl Tryz.ntmps49 rfl rfl ?_
 intro Q hret hnorm hP a A
 refine wsk fun K1 hK1 => wrl (sda A λa A↦?_)
 refine qa (hK1 _ _ (wsk fun K2 hK2 => wsk fun K3 hK3 => wrl (sdm A λa A↦?_)))
 refine sdo A (qp Tryz.underlying26 rfl) λa A↦?_
 refine sdm A λa A↦?_
 refine qa (hK3 _ _ (wp_block (zt (fun m_ a w1 => ∃ (i : Nat), m_ = 1 + (ts.length - i) ∧ (i ≤ ts.length ∧ ∀ (j : Nat) u, j < i → ts[j]? = some u → p u = false) ∧ Sl a 19 [(0, .slice tz ts.length tc), (1, .func (.func f) #[] cs.toArray), (6, .slice tz ts.length tc), (7, .int .i64 (((ts.length : Nat) : Int))), (8, .int .i64 (((i : Nat) : Int)))] ∧ Mg w w1 ([])) _ ⟨0, rfl, ⟨Nat.zero_le _, fun j u h => absurd h (Nat.not_lt_zero _)⟩, A.keep _ ⟨rfl, rfl, rfl, rfl, rfl, trivial⟩, M⟩ ?_)))
 clear M A
 rintro m_ a w4 ⟨i, rfl, hinv6, A, M⟩ K5 hK5
 obtain ⟨hi0, hin9⟩ := hinv6
 refine wsk fun K7 hK7 => wrl ?_
 rcases tf (decide (((i : Nat) : Int) < ((ts.length : Nat) : Int))) with hb8 | hb8
 ·
  have hb8' := of_decide_eq_true hb8
  refine sdc A za hb8 λa A↦?_
  refine qa (hK7 _ _ (wsk fun K9 hK9 => wp_cond_true (A.ev rfl) ?_))
  refine wp_skip (hK9 _ _ (wsk fun K10 hK10 => wp_block (wsk fun K11 hK11 => wrl (sdm A λa A↦?_))))
  refine sda A λa A↦?_
  refine qa (hK11 _ _ (wsk fun K12 hK12 => wrl ?_))
  iterate 3 refine sdm A λa A↦?_
  obtain ⟨ty13, bt14, ot15, it16, mt17, rt18, lt19, Ht20⟩ := hT.at_ (i := i) (by omega)
  refine sdo (v := .pointer (some ⟨bt14, ot15 + i * 7, none⟩)) A (zb (k := i) Tryz.underlying26 (by kernel_rfl) rfl rfl (by first | rfl | omega) lt19 (by omega)) λa A↦?_
  refine sdo (v := .agg #[.string ty13.nm, .int .i64 ty13.par, .slice ty13.fo ty13.fs.length ty13.fc, .slice ty13.mo ty13.ms.length ty13.mc, .bool ty13.sl, .bool ty13.op, .string ty13.ui]) A (xa M Ht20 RcB_isS_33 rfl rfl) λa A↦?_
  rcases tf (p ty13) with hb21 | hb21
  ·
   refine xu A rfl rfl rfl (kf rfl rfl hF.inv) ((hb21 ▸ hF.run ty13 _ mt17 M.bel)) ?_
   rintro _ w23 ⟨rfl, hb22⟩
   replace M := M.call hb22
   refine ⟨_, rfl, ?_⟩
   intro a A
   refine qa (hK12 _ _ (wp_cond_true (A.ev rfl) ?_))
   refine wsk fun K24 hK24 => wrl (sdm A λa A↦?_)
   refine sda A λa A↦?_
   refine qa (hK24 _ _ (wp_ret (hret _ _ (en1 A rfl (qf rfl) ?_))))
   exact ⟨by rw [qhh (p := p) hin9 it16 hb21], M.bel⟩
  ·
   refine xu A rfl rfl rfl (kf rfl rfl hF.inv) ((hb21 ▸ hF.run ty13 _ mt17 M.bel)) ?_
   rintro _ w26 ⟨rfl, hb25⟩
   replace M := M.call hb25
   refine ⟨_, rfl, ?_⟩
   intro a A
   refine qa (hK12 _ _ (wp_cond_false (A.ev rfl) ?_))
   refine wp_skip (hK10 _ _ (wrl (sdo (v := .int .i64 (((i + 1 : Nat) : Int))) A (qi rfl rfl (fun w => (jc (jg (by omega) (by omega)) w).trans (by rw [show (((i : Nat) : Int) + 1 : Int) = ((i + 1 : Nat) : Int) from by omega]))) λa A↦?_)))
   refine sdm A λa A↦?_
   refine qa ?_
   refine hK5 _ _ _ (by omega) ⟨i + 1, rfl, ⟨by omega, fun j u hj hu => if h9 : j < i then hin9 j u h9 hu else by have h8 : j = i := (by omega); subst h8; rw [it16] at hu; rw [← Option.some.inj hu]; exact hb21⟩, A.keep _ ⟨rfl, rfl, rfl, rfl, rfl, trivial⟩, M⟩
 ·
  have hb8' := of_decide_eq_false hb8
  refine sdc A za hb8 λa A↦?_
  refine qa (hK7 _ _ (wsk fun K27 hK27 => wp_cond_false (A.ev rfl) ?_))
  refine wp_exit (hK2 _ _ (wsk fun K28 hK28 => wrl (sda A λa A↦?_)))
  refine qa (hK28 _ _ (wp_ret (hret _ _ (en1 A rfl (qf rfl) ?_))))
  exact ⟨by rw [qdj (p := p) (fun j u hj => hin9 j u (by omega))], M.bel⟩
theorem qrf {w : World} {u : Ty} {gb : Nat} {s : ByteArray} (hg : w.cell? ⟨gb, 0, none⟩ = some (.string s)) : Calls Tryz.prog 50 #[.agg #[.string u.nm, .int .i64 u.par, .slice u.fo u.fs.length u.fc, .slice u.mo u.ms.length u.mc, .bool u.sl, .bool u.op, .string u.ui], .pointer (some ⟨gb, 0, none⟩)] w fun e w' => e = .returned (.bool (decide (u.ui = s))) ∧ Below w.heap.size w w' := by
 have M : Mg w w ([]) := Mg.start w
 refine qx (l := [(0, .agg #[.string u.nm, .int .i64 u.par, .slice u.fo u.fs.length u.fc, .slice u.mo u.ms.length u.mc, .bool u.sl, .bool u.op, .string u.ui]), (1, .pointer (some ⟨gb, 0, none⟩))]) Tryz.func50 rfl Tryz.ntmps50 rfl rfl ?_
 intro Q hret hnorm hP a A
 refine wsk fun K1 hK1 => wrl (jb (vs := [.string u.nm, .int .i64 u.par, .slice u.fo u.fs.length u.fc, .slice u.mo u.ms.length u.mc, .bool u.sl, .bool u.op, .string u.ui]) (t := 33) A M rfl rfl rfl pg (zh rfl rfl) (by decide) ?_)
 intro g2 w3 M a A
 refine sda A λa A↦?_
 refine qa (hK1 _ _ (wsk fun K4 hK4 => wrl (sdo (v := .pointer (some ⟨g2, 6, none⟩)) A (qb RcB_fld_33_6 rfl rfl) λa A↦?_)))
 refine sdo A (qh M RcB_is1_9 rfl 0 rfl rfl) λa A↦?_
 refine sdo A (E.m_loadX M hg RcB_is1_9 rfl) λa A↦?_
 rcases tf (decide (u.ui = s)) with hb5 | hb5
 ·
  have hb5' := of_decide_eq_true hb5
  refine sdo (v := .bool true) A (qi rfl rfl (fun w => (xk Tryz.underlying9 w).trans (by rw [hb5] <;> rfl))) λa A↦?_
  refine sda A λa A↦?_
  refine qa (hK4 _ _ (wp_ret (hret _ _ (en1 A rfl (qf rfl) ?_))))
  exact ⟨by rw [hb5], M.bel⟩
 ·
  have hb5' := of_decide_eq_false hb5
  refine sdo (v := .bool false) A (qi rfl rfl (fun w => (xk Tryz.underlying9 w).trans (by rw [hb5] <;> rfl))) λa A↦?_
  refine sda A λa A↦?_
  refine qa (hK4 _ _ (wp_ret (hret _ _ (en1 A rfl (qf rfl) ?_))))
  exact ⟨by rw [hb5], M.bel⟩
theorem qgf {w : World} {b tc rc : Nat} {tz ro : Option Addr} {ts : List Ty} {rs : List Rk} (V : SR w b tz tc ts ro rc rs) (hW : WS (ts.map Ty.k) (rs.map Rk.k)) {s : ByteArray} : Calls Tryz.prog 26 #[.pointer (some ⟨b, 0, none⟩), .string s] w fun e w' => e = .returned (.int .i64 (uix (ts.map Ty.k) s)) ∧ Below w.heap.size w w' := by
 have hkl := hW.kl
 have hrl := hW.rl
 rw [List.length_map] at hkl hrl
 have M : Mg w w ([]) := Mg.start w
 refine qx (l := [(0, .pointer (some ⟨b, 0, none⟩)), (1, .string s)]) Tryz.func26 rfl Tryz.ntmps26 rfl rfl ?_
 intro Q hret hnorm hP a A
 refine wsk fun K1 hK1 => wrl (jb (vs := [.string s]) (t := 9) A M rfl rfl rfl pg (zh rfl rfl) (by decide) ?_)
 intro g2 w3 M a A
 refine sda A λa A↦?_
 refine qa (hK1 _ _ (wsk fun K4 hK4 => wsk fun K5 hK5 => wrl (sdo A (qh M RcB_is1_9 rfl 0 rfl rfl) λa A↦?_)))
 rcases tf (decide (s = ⟨#[]⟩)) with hb6 | hb6
 ·
  have hb6' := of_decide_eq_true hb6
  refine sdo (v := .bool true) A (qi rfl rfl (fun w => (xk Tryz.underlying9 w).trans (by rw [hb6] <;> rfl))) λa A↦?_
  refine qa (hK5 _ _ (wp_cond_true (A.ev rfl) ?_))
  refine wsk fun K7 hK7 => wrl (sda A λa A↦?_)
  refine qa (hK7 _ _ (wp_ret (hret _ _ (en1 A rfl (qf rfl) ?_))))
  exact ⟨by unfold uix; rw [if_pos hb6], M.bel⟩
 ·
  have hb6' := of_decide_eq_false hb6
  refine sdo (v := .bool false) A (qi rfl rfl (fun w => (xk Tryz.underlying9 w).trans (by rw [hb6] <;> rfl))) λa A↦?_
  refine qa (hK5 _ _ (wp_cond_false (A.ev rfl) ?_))
  refine wp_skip (hK4 _ _ (wsk fun K8 hK8 => wrl (sdm A λa A↦?_)))
  refine sdo A (zf rfl) λa A↦?_
  refine sdo (v := .pointer (some ⟨b, 0, none⟩)) A (qb RcB_fld_73_0 rfl rfl) λa A↦?_
  refine sdo A (E.m_loadX M V.c0 RcB_is1_26 rfl) λa A↦?_
  refine sdo (v := .func (.func 50) #[] [.pointer (some ⟨g2, 0, none⟩)].toArray) A (yq rfl) λa A↦?_
  refine gcl A M (ef rfl rfl) (qyi (p := fun t => decide (t.ui = s)) (V.T.below M.bel) (by omega) ⟨fun us w => by kernel_rfl, fun t w1 ht hb => qrf ((hb.cell (cell_lt (M.cell 0 rfl 0 rfl))).trans (M.cell 0 rfl 0 rfl))⟩) fun w10 hb9 M a A => ?_
  refine sda A λa A↦?_
  refine qa (hK8 _ _ (wp_ret (hret _ _ (en1 A rfl (qf rfl) ?_))))
  exact ⟨by unfold uix; rw [if_neg (by rw [hb6]; decide), qqh]; rfl, M.bel⟩
theorem zfe {w : World} {b tc rc : Nat} {tz ro : Option Addr} {ts : List Ty} {rs : List Rk} (V : SR w b tz tc ts ro rc rs) (hW : WS (ts.map Ty.k) (rs.map Rk.k)) {u : Ty} (hU : TyR w u) (hul : u.fs.length ≤ 2000000) (hum : u.ms.length ≤ 2000000) {x : Int} (h0 : 0 ≤ x) (h1 : x < ((ts.length : Nat) : Int)) {y : Ty} (hy : ts[x.toNat]? = some y) : Calls Tryz.prog 27 #[.pointer (some ⟨b, 0, none⟩), .int .i64 x, .agg #[.string u.nm, .int .i64 u.par, .slice u.fo u.fs.length u.fc, .slice u.mo u.ms.length u.mc, .bool u.sl, .bool u.op, .string u.ui]] w fun e w' => e = .returned (.tuple #[.int .i64 (if xm y.k u.k = true then x else 0), .int .i64 (if xm y.k u.k = true then 0 else 8)]) ∧ Below w.heap.size w w' := by
 have M : Mg w w ([]) := Mg.start w
 refine qx (l := [(0, .pointer (some ⟨b, 0, none⟩)), (1, .int .i64 x), (2, .agg #[.string u.nm, .int .i64 u.par, .slice u.fo u.fs.length u.fc, .slice u.mo u.ms.length u.mc, .bool u.sl, .bool u.op, .string u.ui])]) Tryz.func27 rfl Tryz.ntmps27 rfl rfl ?_
 intro Q hret hnorm hP a A
 refine wsk fun K1 hK1 => wrl (jb (vs := [.string u.nm, .int .i64 u.par, .slice u.fo u.fs.length u.fc, .slice u.mo u.ms.length u.mc, .bool u.sl, .bool u.op, .string u.ui]) (t := 33) A M rfl rfl rfl pg (zh rfl rfl) (by decide) ?_)
 intro g2 w3 M a A
 iterate 2 refine sda A λa A↦?_
 refine qa (hK1 _ _ (wsk fun K4 hK4 => wsk fun K5 hK5 => ?_))
 obtain ⟨ty6, bt7, ot8, it9, mt10, rt11, lt12, Ht13⟩ := V.T.at_ (i := x.toNat) (by omega)
 have hnf := hW.nf16 (zl it9)
 have hml := hW.ml _ (List.mem_of_getElem? (zl it9))
 rw [show ty6.k.fs.length = ty6.fs.length from rfl] at hnf
 rw [show ty6.k.fs.length = ty6.fs.length from rfl, show ty6.k.ms.length = ty6.ms.length from rfl] at hml
 obtain rfl : y = ty6 := Option.some.inj (hy.symm.trans it9)
 refine zn (S := fun w1 => Mg w w1 (.obj g2 (.cells #[.string u.nm, .int .i64 u.par, .slice u.fo u.fs.length u.fc, .slice u.mo u.ms.length u.mc, .bool u.sl, .bool u.op, .string u.ui] 33) :: [])) (by kernel_rfl) ?_
 replace M := M.drew
 refine qe A 0 rfl rfl rfl rfl hP (M.sub (cc (List.nil_sublist _))) (fun w1 M => qr rfl) λa A↦?_
 refine qe A 1 rfl rfl rfl rfl hP (M.sub (cc (List.nil_sublist _))) (fun w1 M => zf rfl) λa A↦?_
 refine qe (v := .pointer (some ⟨b, 0, none⟩)) A 2 rfl rfl rfl rfl hP (M.sub (cc (List.nil_sublist _))) (fun w1 M => qb RcB_fld_73_0 rfl rfl) λa A↦?_
 refine qe A 3 rfl rfl rfl rfl hP (M.sub (cc (List.nil_sublist _))) (fun w1 M => E.m_loadX M V.c0 RcB_is1_26 rfl) λa A↦?_
 refine qe A 4 rfl rfl rfl rfl hP (M.sub (cc (List.nil_sublist _))) (fun w1 M => qr rfl) λa A↦?_
 refine qe (v := .pointer (some ⟨bt7, ot8 + x.toNat * 7, none⟩)) A 5 rfl rfl rfl rfl hP (M.sub (cc (List.nil_sublist _))) (fun w1 M => zb (k := x.toNat) Tryz.underlying26 (by kernel_rfl) rfl rfl (by first | rfl | omega) lt12 (by omega)) λa A↦?_
 refine qe (v := .agg #[.string y.nm, .int .i64 y.par, .slice y.fo y.fs.length y.fc, .slice y.mo y.ms.length y.mc, .bool y.sl, .bool y.op, .string y.ui]) A 6 rfl rfl rfl rfl hP (M.sub (cc (List.nil_sublist _))) (fun w1 M => xa M Ht13 RcB_isS_33 rfl rfl) λa A↦?_
 refine qe A 7 rfl rfl rfl rfl hP (M.sub (cc (List.nil_sublist _))) (fun w1 M => qy M RcB_isS_33 rfl 0 rfl (cs := [.string u.nm, .int .i64 u.par, .slice u.fo u.fs.length u.fc, .slice u.mo u.ms.length u.mc, .bool u.sl, .bool u.op, .string u.ui]) rfl rfl) λa A↦?_
 rcases tf (xm y.k u.k) with hb14 | hb14
 ·
  refine qw (by kernel_rfl) (jf A 8 rfl rfl rfl rfl (zg rfl rfl (fun w => by kernel_rfl)) (zcb (ya := y) (yb := u) (rt11.below M.bel) (hU.below M.bel) (by omega) (by omega) (by omega) (by omega) hb14) ?_)
  rintro _ w16 ⟨rfl, hb15⟩
  replace M := M.call hb15
  refine ⟨_, rfl, (M.sub (cc (List.nil_sublist _))), ?_⟩
  intro a A
  refine qe (v := .bool false) A 9 rfl rfl rfl rfl hP (M.sub (cc (List.nil_sublist _))) (fun w1 M => zj rfl zq) λa A↦?_
  refine zd (by kernel_rfl) ?_
  refine hK5 _ _ (wp_cond_false (A.ev rfl) ?_)
  refine wp_skip (hK4 _ _ (wsk fun K17 hK17 => wrl (sdm A λa A↦?_)))
  iterate 2 refine sda A λa A↦?_
  refine qa (hK17 _ _ (wp_ret (hret _ _ (en2 A rfl (qf rfl) (qf rfl) ?_))))
  refine ⟨?_, M.bel⟩
  rw [hb14]
  rfl
 ·
  refine qw (by kernel_rfl) (jf A 8 rfl rfl rfl rfl (zg rfl rfl (fun w => by kernel_rfl)) (zcb (ya := y) (yb := u) (rt11.below M.bel) (hU.below M.bel) (by omega) (by omega) (by omega) (by omega) hb14) ?_)
  rintro _ w19 ⟨rfl, hb18⟩
  replace M := M.call hb18
  refine ⟨_, rfl, (M.sub (cc (List.nil_sublist _))), ?_⟩
  intro a A
  refine qe (v := .bool true) A 9 rfl rfl rfl rfl hP (M.sub (cc (List.nil_sublist _))) (fun w1 M => zj rfl zq) λa A↦?_
  refine zd (by kernel_rfl) ?_
  refine hK5 _ _ (wp_cond_true (A.ev rfl) ?_)
  refine wsk fun K20 hK20 => wrl ?_
  iterate 2 refine sda A λa A↦?_
  refine qa (hK20 _ _ (wp_ret (hret _ _ (en2 A rfl (qf rfl) (qf rfl) ?_))))
  refine ⟨?_, M.bel⟩
  rw [hb14]
  rfl
theorem zri {w : World} {so : Option Addr} {ca : Nat} {l : List Bool} (hb : E.Rl w so l) (hl : l.length ≤ 1000000000) : Calls Tryz.prog 54 #[.slice so l.length ca] w fun e w' => ∃ so' ca', e = .returned (.slice so' l.length ca') ∧ Mg w w' [.row 4 1 (.slice so' l.length ca') l.length (E.boolC l)] := by
 have M : Mg w w ([]) := Mg.start w
 refine qx (l := [(0, .slice so l.length ca)]) Tryz.func54 rfl Tryz.ntmps54 rfl rfl ?_
 intro Q hret hnorm hP a A
 refine wsk fun K1 hK1 => wrl (sda A λa A↦?_)
 refine qa (hK1 _ _ (wsk fun K2 hK2 => wrl (sdm A λa A↦?_)))
 replace M := M.nilRow (ql qn) 4 1
 refine jh (e := 4) (sz := 1) (k := 0) (q := 0) (m := l.length) (xs := []) (news := E.boolC l) (L' := fun v3 => (.row 4 1 (v3) (0 + l.length) ([] ++ E.boolC l) :: [])) A rfl rfl rfl (jp (z := .bool false) (sz := 1) (by_ := 1) Tryz.underlying31 (by kernel_rfl) rfl rfl rfl M 0 rfl rfl rfl (E.boolC_n l) (hb.below M.bel) (E.boolC_one l) (by omega)) (fun _ => rfl) ?_
 intro v3 w4 M a A
 refine sda A λa A↦?_
 refine qa (hK2 _ _ (wp_ret (hret _ _ (en1 A rfl (qf rfl) ?_))))
 rw [Nat.zero_add, List.nil_append] at M
 obtain ⟨so9, ca9, rfl⟩ := zv (M.has 0 rfl)
 exact ⟨_, _, rfl, M⟩
theorem xg {w : World} {u : Ty} (hU : TyR w u) (hul : u.fs.length ≤ 2000000) (hum : u.ms.length ≤ 2000000) (hz1 : u.nm.size ≤ 281474976710656) (hz2 : u.ui.size ≤ 281474976710656) (huz : ∀ s ∈ u.fs, s.size ≤ 281474976710656) : Calls Tryz.prog 29 #[.agg #[.string u.nm, .int .i64 u.par, .slice u.fo u.fs.length u.fc, .slice u.mo u.ms.length u.mc, .bool u.sl, .bool u.op, .string u.ui]] w fun e w' => ∃ t2 : Ty, e = .returned (.agg #[.string t2.nm, .int .i64 t2.par, .slice t2.fo t2.fs.length t2.fc, .slice t2.mo t2.ms.length t2.mc, .bool t2.sl, .bool t2.op, .string t2.ui]) ∧ t2.k = u.k ∧ Mg w w' [.row 9 1 (.slice t2.fo t2.fs.length t2.fc) t2.fs.length (E.strC t2.fs), .row 4 1 (.slice t2.mo t2.ms.length t2.mc) t2.ms.length (E.boolC t2.ms)] := by
 have M : Mg w w ([]) := Mg.start w
 refine qx (l := [(0, .agg #[.string u.nm, .int .i64 u.par, .slice u.fo u.fs.length u.fc, .slice u.mo u.ms.length u.mc, .bool u.sl, .bool u.op, .string u.ui])]) Tryz.func29 rfl Tryz.ntmps29 rfl rfl ?_
 intro Q hret hnorm hP a A
 refine wsk fun K1 hK1 => wrl (jb (vs := [.string u.nm, .int .i64 u.par, .slice u.fo u.fs.length u.fc, .slice u.mo u.ms.length u.mc, .bool u.sl, .bool u.op, .string u.ui]) (t := 33) A M rfl rfl rfl pg (zh rfl rfl) (by decide) ?_)
 intro g2 w3 M a A
 refine jb (vs := [.string (⟨#[]⟩), .int .i64 0, .slice none 0 0, .slice none 0 0, .bool false, .bool false, .string (⟨#[]⟩)]) (t := 33) A M rfl rfl rfl pg (zw (z := .agg #[.string (⟨#[]⟩), .int .i64 0, .slice none 0 0, .slice none 0 0, .bool false, .bool false, .string (⟨#[]⟩)]) (by kernel_rfl) rfl) (by decide) ?_
 intro g4 w5 M a A
 refine qa (hK1 _ _ (wsk fun K6 hK6 => zn (S := fun w1 => Mg w w1 (.obj g2 (.cells #[.string u.nm, .int .i64 u.par, .slice u.fo u.fs.length u.fc, .slice u.mo u.ms.length u.mc, .bool u.sl, .bool u.op, .string u.ui] 33) :: [])) (by kernel_rfl) ?_))
 replace M := M.drew
 refine qe (v := .pointer (some ⟨g2, 0, none⟩)) A 0 rfl rfl rfl rfl hP (M.sub (cn (cc (List.nil_sublist _)))) (fun w1 M => qb RcB_fld_33_0 rfl rfl) λa A↦?_
 refine qe A 1 rfl rfl rfl rfl hP (M.sub (cn (cc (List.nil_sublist _)))) (fun w1 M => qh M RcB_is1_9 rfl 0 rfl rfl) λa A↦?_
 refine qe (v := .pointer (some ⟨g2, 1, none⟩)) A 3 rfl rfl rfl rfl hP (M.sub (cn (cc (List.nil_sublist _)))) (fun w1 M => qb RcB_fld_33_1 rfl rfl) λa A↦?_
 refine qe A 4 rfl rfl rfl rfl hP (M.sub (cn (cc (List.nil_sublist _)))) (fun w1 M => qh M RcB_is1_3 rfl 0 rfl rfl) λa A↦?_
 refine qe (v := .pointer (some ⟨g2, 2, none⟩)) A 5 rfl rfl rfl rfl hP (M.sub (cn (cc (List.nil_sublist _)))) (fun w1 M => qb RcB_fld_33_2 rfl rfl) λa A↦?_
 refine qe A 6 rfl rfl rfl rfl hP (M.sub (cn (cc (List.nil_sublist _)))) (fun w1 M => qh M RcB_is1_30 rfl 0 rfl rfl) λa A↦?_
 refine qe (v := .pointer (some ⟨g2, 3, none⟩)) A 8 rfl rfl rfl rfl hP (M.sub (cn (cc (List.nil_sublist _)))) (fun w1 M => qb RcB_fld_33_3 rfl rfl) λa A↦?_
 refine qe A 9 rfl rfl rfl rfl hP (M.sub (cn (cc (List.nil_sublist _)))) (fun w1 M => qh M RcB_is1_31 rfl 0 rfl rfl) λa A↦?_
 refine qe (v := .pointer (some ⟨g2, 4, none⟩)) A 11 rfl rfl rfl rfl hP (M.sub (cn (cc (List.nil_sublist _)))) (fun w1 M => qb RcB_fld_33_4 rfl rfl) λa A↦?_
 refine qe A 12 rfl rfl rfl rfl hP (M.sub (cn (cc (List.nil_sublist _)))) (fun w1 M => qh M RcB_is1_4 rfl 0 rfl rfl) λa A↦?_
 refine qe (v := .pointer (some ⟨g2, 5, none⟩)) A 13 rfl rfl rfl rfl hP (M.sub (cn (cc (List.nil_sublist _)))) (fun w1 M => qb RcB_fld_33_5 rfl rfl) λa A↦?_
 refine qe A 14 rfl rfl rfl rfl hP (M.sub (cn (cc (List.nil_sublist _)))) (fun w1 M => qh M RcB_is1_4 rfl 0 rfl rfl) λa A↦?_
 refine qe (v := .pointer (some ⟨g2, 6, none⟩)) A 15 rfl rfl rfl rfl hP (M.sub (cn (cc (List.nil_sublist _)))) (fun w1 M => qb RcB_fld_33_6 rfl rfl) λa A↦?_
 refine qe A 16 rfl rfl rfl rfl hP (M.sub (cn (cc (List.nil_sublist _)))) (fun w1 M => qh M RcB_is1_9 rfl 0 rfl rfl) λa A↦?_
 refine qw (by kernel_rfl) (jf A 2 rfl rfl rfl rfl (zg rfl rfl (fun w => by kernel_rfl)) (clone_any (by first | exact hz1 | exact hz2)) ?_)
 rintro _ w8 ⟨rfl, hb7⟩
 replace M := M.call hb7
 refine ⟨_, rfl, (M.sub (cn (cc (List.nil_sublist _)))), ?_⟩
 intro a A
 refine qw (by kernel_rfl) (jf A 7 rfl rfl rfl rfl (zg rfl rfl (fun w => by kernel_rfl)) (E.texts_any (hU.f.below M.bel) (by omega) huz) ?_)
 rintro _ w12 ⟨so9, ca10, rfl, hM11⟩
 replace M : Mg w w12 (.row 9 1 (.slice so9 u.fs.length ca10) u.fs.length (E.strC u.fs) :: .obj g4 (.cells #[.string (⟨#[]⟩), .int .i64 0, .slice none 0 0, .slice none 0 0, .bool false, .bool false, .string (⟨#[]⟩)] 33) :: .obj g2 (.cells #[.string u.nm, .int .i64 u.par, .slice u.fo u.fs.length u.fc, .slice u.mo u.ms.length u.mc, .bool u.sl, .bool u.op, .string u.ui] 33) :: []) := (M.both hM11 (qg (by simp) (qg (by simp) (ql qn))) (qg (by simp) (ql qn)))
 refine ⟨_, rfl, (M.sub (cn (cn (cc (List.nil_sublist _))))), ?_⟩
 intro a A
 refine qw (by kernel_rfl) (jf A 10 rfl rfl rfl rfl (zg rfl rfl (fun w => by kernel_rfl)) (zri (hU.m.below M.bel) (by omega)) ?_)
 rintro _ w16 ⟨so13, ca14, rfl, hM15⟩
 replace M : Mg w w16 (.row 4 1 (.slice so13 u.ms.length ca14) u.ms.length (E.boolC u.ms) :: .row 9 1 (.slice so9 u.fs.length ca10) u.fs.length (E.strC u.fs) :: .obj g4 (.cells #[.string (⟨#[]⟩), .int .i64 0, .slice none 0 0, .slice none 0 0, .bool false, .bool false, .string (⟨#[]⟩)] 33) :: .obj g2 (.cells #[.string u.nm, .int .i64 u.par, .slice u.fo u.fs.length u.fc, .slice u.mo u.ms.length u.mc, .bool u.sl, .bool u.op, .string u.ui] 33) :: []) := (M.both hM15 (qg (by simp) (qg (by simp) (qg (by simp) (ql qn)))) (qg (by simp) (ql qn)))
 refine ⟨_, rfl, (M.sub (cn (cn (cn (cc (List.nil_sublist _)))))), ?_⟩
 intro a A
 refine qw (by kernel_rfl) (jf A 17 rfl rfl rfl rfl (zg rfl rfl (fun w => by kernel_rfl)) (clone_any (by first | exact hz1 | exact hz2)) ?_)
 rintro _ w18 ⟨rfl, hb17⟩
 replace M := M.call hb17
 refine ⟨_, rfl, (M.sub (cn (cn (cn (cc (List.nil_sublist _)))))), ?_⟩
 intro a A
 refine qe (v := .agg #[.string u.nm, .int .i64 u.par, .slice so9 u.fs.length ca10, .slice so13 u.ms.length ca14, .bool u.sl, .bool u.op, .string u.ui]) A 18 rfl rfl rfl rfl hP (M.sub (cn (cn (cn (cc (List.nil_sublist _)))))) (fun w1 M => jd rfl (fun w => by kernel_rfl)) λa A↦?_
 refine qw (by kernel_rfl) (zx (us := [.string u.nm, .int .i64 u.par, .slice so9 u.fs.length ca10, .slice so13 u.ms.length ca14, .bool u.sl, .bool u.op, .string u.ui]) (L' := (.row 4 1 (.slice so13 u.ms.length ca14) u.ms.length (E.boolC u.ms) :: .row 9 1 (.slice so9 u.fs.length ca10) u.fs.length (E.strC u.fs) :: .obj g4 (.cells #[.string u.nm, .int .i64 u.par, .slice so9 u.fs.length ca10, .slice so13 u.ms.length ca14, .bool u.sl, .bool u.op, .string u.ui] 33) :: .obj g2 (.cells #[.string u.nm, .int .i64 u.par, .slice u.fo u.fs.length u.fc, .slice u.mo u.ms.length u.mc, .bool u.sl, .bool u.op, .string u.ui] 33) :: [])) A M 19 rfl rfl rfl (qz rfl rfl rfl (by kernel_rfl) M 2 rfl rfl rfl) 2 rfl rfl rfl ?_)
 intro w19 M
 refine ⟨(M.sub (cn (cn (cn (cc (List.nil_sublist _)))))), ?_⟩
 refine zd (by kernel_rfl) ?_
 refine hK6 _ _ (wp_ret (hret _ _ (en1 A rfl (zm M RcB_isS_33 rfl 2 rfl (cs := [.string u.nm, .int .i64 u.par, .slice so9 u.fs.length ca10, .slice so13 u.ms.length ca14, .bool u.sl, .bool u.op, .string u.ui]) rfl rfl) ?_)))
 replace M : Mg w w19 (.row 9 1 (.slice so9 u.fs.length ca10) u.fs.length (E.strC u.fs) :: .row 4 1 (.slice so13 u.ms.length ca14) u.ms.length (E.boolC u.ms) :: .obj g4 (.cells #[.string u.nm, .int .i64 u.par, .slice so9 u.fs.length ca10, .slice so13 u.ms.length ca14, .bool u.sl, .bool u.op, .string u.ui] 33) :: .obj g2 (.cells #[.string u.nm, .int .i64 u.par, .slice u.fo u.fs.length u.fc, .slice u.mo u.ms.length u.mc, .bool u.sl, .bool u.op, .string u.ui] 33) :: []) := M.bring 1 rfl rfl
 replace M : Mg w w19 (.row 9 1 (.slice so9 u.fs.length ca10) u.fs.length (E.strC u.fs) :: .row 4 1 (.slice so13 u.ms.length ca14) u.ms.length (E.boolC u.ms) :: []) := by
  have h9 := M.sub (cc (cc (cn (cn (.refl _)))))
  exact h9
 exact ⟨⟨u.nm, u.par, so9, ca10, u.fs, so13, ca14, u.ms, u.sl, u.op, u.ui⟩, rfl, rfl, M⟩
section
variable {ts : List Ty} {rs : List Rk} {r t i : Int}
theorem quh (h : okT rs.length r = false) : isS (ts.map Ty.k) (rs.map Rk.k) r t = (false, 7) := by
  unfold isS
  rw [if_neg (by rw [List.length_map, h]; simp)]
theorem qui (h : okT ts.length t = false) : isS (ts.map Ty.k) (rs.map Rk.k) r t = (false, 7) := by
  unfold isS
  rw [if_neg (by rw [List.length_map, List.length_map, h]; simp)]
theorem qyj (h1 : okT rs.length r = true) (h2 : okT ts.length t = true) {x : Rk} (hx : rs[r.toNat]? = some x) : isS (ts.map Ty.k) (rs.map Rk.k) r t = ((chT (prs (ts.map Ty.k)) ((x.kd : Nat) : Int)).any fun z => t == z, 0) := by
  unfold isS
  rw [if_pos (by rw [List.length_map, List.length_map]; exact ⟨h1, h2⟩), qqj (xf hx)]
  rfl
theorem qkj {ks : List TK} {rr : List (Nat × List Tr)} (h : (isS ks rr r t).2 = 0) : okT rr.length r = true ∧ okT ks.length t = true := by
  unfold isS at h
  split at h
  · rename_i h1; exact h1
  · exact absurd h (by decide)
theorem znj {ks : List TK} {rr : List (Nat × List Tr)} (h : (isS ks rr r t).2 ≠ 0) : isS ks rr r t = (false, 7) := by
  unfold isS at h ⊢
  split at h
  · exact absurd rfl h
  · rename_i h1; rw [if_neg h1]
theorem qrg {ks : List TK} {rr : List (Nat × List Tr)} (h : (isS ks rr r t).2 ≠ 0) : plS ks rr r t i = (0, (isS ks rr r t).2) := by
  rw [znj h]
  unfold plS
  rw [if_neg h]
theorem qla {ks : List TK} {rr : List (Nat × List Tr)} (h : (isS ks rr r t).2 = 0) (h1 : (isS ks rr r t).1 = false) : plS ks rr r t i = (0, 10) := by
  unfold plS
  rw [if_pos h, if_neg (by rw [h1]; decide)]
theorem qed {ks : List TK} {rr : List (Nat × List Tr)} (h : (isS ks rr r t).2 = 0) (h1 : (isS ks rr r t).1 = true) {k : TK} (hk : ks[t.toNat]? = some k) (hi : i < 0 ∨ ((k.fs.length : Nat) : Int) ≤ i) : plS ks rr r t i = (0, 1) := by
  unfold plS
  rw [if_pos h, if_pos h1, if_neg (by rw [qfh hk]; omega)]
theorem qrh {ks : List TK} {rr : List (Nat × List Tr)} (h : (isS ks rr r t).2 = 0) (h1 : (isS ks rr r t).1 = true) {k : TK} (hk : ks[t.toNat]? = some k) (h2 : 0 ≤ i) (h3 : i < ((k.fs.length : Nat) : Int)) : plS ks rr r t i = (((cnt ks k.par : Nat) : Int) + i, 0) := by
  unfold plS
  rw [if_pos h, if_pos h1, qfh hk, if_pos ⟨h2, h3⟩, qqg hk]
end
theorem quj {ps : List Int} (hw : Wf ps) : ∀ (n : Nat) (s t : Int), -1 ≤ s → (s + 1).toNat ≤ n → t ∈ chn ps n s → ∃ pre, chn ps n s = pre ++ chT ps t
  | 0, s, t, _, _, h => by cases h
  | n + 1, s, t, h0, hn, h => by
    by_cases hs : s < 0
    · rw [chn, if_pos hs] at h; cases h
    · have hp := hw.at_ (t := s) (by omega)
      by_cases e : t = s
      · subst e
        exact ⟨[], by rw [List.nil_append]; exact qjg hw _ _ _ h0 hn (Nat.le_refl _)⟩
      · rw [chn, if_neg hs] at h ⊢
        rcases List.mem_cons.1 h with h | h
        · exact absurd h e
        · obtain ⟨pre, hq⟩ := quj hw n _ t hp.1 (by omega) h
          exact ⟨s :: pre, by rw [hq]; rfl⟩
theorem zoa {ks : List TK} (hw : Wf (prs ks)) {s t : Int} (h0 : -1 ≤ s) (h : t ∈ chT (prs ks) s) : cnt ks t ≤ cnt ks s := by
  obtain ⟨pre, e⟩ := quj hw _ s t h0 (Nat.le_refl _) h
  unfold cnt
  rw [show chT (prs ks) s = pre ++ chT (prs ks) t from e]
  unfold qji
  rw [List.map_append, List.sum_append]
  omega
/-- A field that is found. -/
theorem qoe {ks : List TK} {rr : List (Nat × List Tr)} (hW : WS ks rr) {r t i : Int} (h : (plS ks rr r t i).2 = 0) : ∃ x k, rr[r.toNat]? = some x ∧ ks[t.toNat]? = some k ∧ 0 ≤ r ∧ r < ((rr.length : Nat) : Int) ∧ 0 ≤ t ∧ t < ((ks.length : Nat) : Int) ∧ 0 ≤ i ∧ i < ((k.fs.length : Nat) : Int) ∧ plS ks rr r t i = (((cnt ks k.par : Nat) : Int) + i, 0) ∧ 0 ≤ (plS ks rr r t i).1 ∧ (plS ks rr r t i).1 < ((x.2.length : Nat) : Int) ∧ x.2.length ≤ 16 := by
  by_cases h1 : (isS ks rr r t).2 = 0
  · obtain ⟨q1, q2⟩ := qkj h1
    have a1 := ka q1
    have a2 := ka q2
    cases h2 : (isS ks rr r t).1 with
    | false => rw [qla h1 h2] at h; exact absurd h (by decide)
    | true =>
      have hk : ks[t.toNat]? = some (ks[t.toNat]'(by omega)) := List.getElem?_eq_getElem _
      have hx : rr[r.toNat]? = some (rr[r.toNat]'(by omega)) := List.getElem?_eq_getElem _
      generalize ks[t.toNat]'(by omega) = k at hk
      generalize rr[r.toNat]'(by omega) = x at hx
      by_cases h3 : 0 ≤ i ∧ i < ((k.fs.length : Nat) : Int)
      · have e := qrh h1 h2 hk h3.1 h3.2
        have hr := hW.rk x (List.mem_of_getElem? hx)
        have hm : t ∈ chT (prs ks) ((x.1 : Nat) : Int) := by
          unfold isS at h2
          rw [if_pos ⟨q1, q2⟩, qqj hx] at h2
          obtain ⟨z, hz, ez⟩ := List.any_eq_true.1 h2
          rw [show t = z from eq_of_beq ez]
          exact hz
        have hc := zoa hW.wf (by omega) hm
        have hs := qjj hW.wf a2.1 hk
        have h16 := hW.cnt16 (t := ((x.1 : Nat) : Int)) (by omega)
        refine ⟨x, k, hx, hk, a1.1, a1.2, a2.1, a2.2, h3.1, h3.2, e, ?_, ?_, by omega⟩
        · rw [e]; show 0 ≤ ((cnt ks k.par : Nat) : Int) + i; omega
        · rw [e]; show ((cnt ks k.par : Nat) : Int) + i < _; omega
      · rw [qed h1 h2 hk (by omega)] at h; exact absurd h (by show (1 : Int) ≠ 0; decide)
  · rw [qrg h1] at h; exact absurd h h1
/-- Get: the datum. -/
def gtT (ks : List TK) (rr : List (Nat × List Tr)) (r t i : Int) : Tr :=
  if (plS ks rr r t i).2 = 0 then (((rr[r.toNat]?).map fun x => (x.2[(plS ks rr r t i).1.toNat]?).getD js.tr).getD js.tr) else js.tr
theorem zje {ks : List TK} {rr : List (Nat × List Tr)} {r t i : Int} (h : (plS ks rr r t i).2 = 0) {x : Nat × List Tr} (hx : rr[r.toNat]? = some x) {d : Tr} (hd : x.2[(plS ks rr r t i).1.toNat]? = some d) : gtT ks rr r t i = d := by
  unfold gtT
  rw [if_pos h, hx]
  show (x.2[(plS ks rr r t i).1.toNat]?).getD js.tr = d
  rw [hd]; rfl
theorem zjf {ks : List TK} {rr : List (Nat × List Tr)} {r t i : Int} (h : (plS ks rr r t i).2 ≠ 0) : gtT ks rr r t i = js.tr := if_neg h
def zjg : Ty := ⟨⟨#[]⟩, 0, none, 0, [], none, 0, [], false, false, ⟨#[]⟩⟩
theorem qri {ks : List TK} {rs : List Rk} {r : Int} (h : okT rs.length r = false) : yf ks (rs.map Rk.k) r = (0, 7) := by
  unfold yf
  rw [if_neg (by rw [List.length_map, h]; decide)]
theorem qva {ks : List TK} {rs : List Rk} {r : Int} (h : okT rs.length r = true) {x : Rk} (hx : rs[r.toNat]? = some x) (ho : opq ks ((x.kd : Nat) : Int) = true) : yf ks (rs.map Rk.k) r = (0, 10) := by
  unfold yf
  rw [if_pos (by rw [List.length_map]; exact h), qqj (xf hx), if_pos (by exact ho)]
theorem zcc {ks : List TK} {rs : List Rk} {r : Int} (h : okT rs.length r = true) {x : Rk} (hx : rs[r.toNat]? = some x) (ho : opq ks ((x.kd : Nat) : Int) = false) : yf ks (rs.map Rk.k) r = (((x.kd : Nat) : Int), 0) := by
  unfold yf
  rw [if_pos (by rw [List.length_map]; exact h), qqj (xf hx), if_neg (by rw [show opq ks (((x.k).1 : Nat) : Int) = false from ho]; decide)]
  rfl
theorem qrj {ts : List Ty} {t : Int} (h : okT ts.length t = false) : flS (ts.map Ty.k) t = (0, 7) := by
  unfold flS
  rw [if_neg (by rw [List.length_map, h]; decide)]
theorem qza {ts : List Ty} {t : Int} (h : okT ts.length t = true) : flS (ts.map Ty.k) t = (((cnt (ts.map Ty.k) t : Nat) : Int), 0) := by
  unfold flS
  rw [if_pos (by rw [List.length_map]; exact h)]
theorem qzb {ts : List Ty} {n : Nat} {t : Int} {vs : List Tr} (h : okT ts.length t = false) : mkS (ts.map Ty.k) n t vs = (0, 7, false) := by
  unfold mkS
  rw [if_neg (by rw [List.length_map, h]; decide)]
theorem qsa {ts : List Ty} {n : Nat} {t : Int} {vs : List Tr} (h : okT ts.length t = true) (h1 : vs.length ≠ cnt (ts.map Ty.k) t) : mkS (ts.map Ty.k) n t vs = (0, 1, false) := by
  unfold mkS
  rw [if_pos (by rw [List.length_map]; exact h), if_neg h1]
theorem qlb {ts : List Ty} {n : Nat} {t : Int} {vs : List Tr} (h : okT ts.length t = true) (h1 : vs.length = cnt (ts.map Ty.k) t) (h2 : vs.all (jn ja) = false) : mkS (ts.map Ty.k) n t vs = (0, 2, false) := by
  unfold mkS
  rw [if_pos (by rw [List.length_map]; exact h), if_pos h1, if_neg (by rw [h2]; decide)]
theorem qlc {ts : List Ty} {n : Nat} {t : Int} {vs : List Tr} (h : okT ts.length t = true) (h1 : vs.length = cnt (ts.map Ty.k) t) (h2 : vs.all (jn ja) = true) (h3 : ¬ n < 20000) : mkS (ts.map Ty.k) n t vs = (0, 9, false) := by
  unfold mkS
  rw [if_pos (by rw [List.length_map]; exact h), if_pos h1, if_pos h2, if_neg h3]
theorem qzc {ts : List Ty} {n : Nat} {t : Int} {vs : List Tr} (h : okT ts.length t = true) (h1 : vs.length = cnt (ts.map Ty.k) t) (h2 : vs.all (jn ja) = true) (h3 : n < 20000) : mkS (ts.map Ty.k) n t vs = (((n : Nat) : Int), 0, true) := by
  unfold mkS
  rw [if_pos (by rw [List.length_map]; exact h), if_pos h1, if_pos h2, if_pos h3]
theorem RcC_is1_26 : Is1 Tryz.prog 26 := ⟨⟨_, Tryz.underlying26, rfl⟩, by kernel_rfl⟩
theorem RcC_is1_3 : Is1 Tryz.prog 3 := ⟨⟨_, Tryz.underlying3, rfl⟩, by kernel_rfl⟩
theorem RcC_is1_30 : Is1 Tryz.prog 30 := ⟨⟨_, Tryz.underlying30, rfl⟩, by kernel_rfl⟩
theorem RcC_is1_34 : Is1 Tryz.prog 34 := ⟨⟨_, Tryz.underlying34, rfl⟩, by kernel_rfl⟩
theorem RcC_is1_71 : Is1 Tryz.prog 71 := ⟨⟨_, Tryz.underlying71, rfl⟩, by kernel_rfl⟩
theorem RcC_fld_33_1 : FieldAt Tryz.prog 33 1 1 := ⟨_, _, Tryz.underlying33, rfl, rfl, by kernel_rfl⟩
theorem RcC_fld_33_2 : FieldAt Tryz.prog 33 2 2 := ⟨_, _, Tryz.underlying33, rfl, rfl, by kernel_rfl⟩
theorem RcC_fld_73_0 : FieldAt Tryz.prog 73 0 0 := ⟨_, _, Tryz.underlying73, rfl, rfl, by kernel_rfl⟩
theorem RcC_fld_73_1 : FieldAt Tryz.prog 73 1 1 := ⟨_, _, Tryz.underlying73, rfl, rfl, by kernel_rfl⟩
theorem RcC_fld_86_0 : FieldAt Tryz.prog 86 0 0 := ⟨_, _, Tryz.underlying86, rfl, rfl, by kernel_rfl⟩
theorem RcC_fld_86_1 : FieldAt Tryz.prog 86 1 1 := ⟨_, _, Tryz.underlying86, rfl, rfl, by kernel_rfl⟩
theorem RcC_isS_33 : IsS Tryz.prog 33 7 := ⟨⟨_, Tryz.underlying33⟩, by kernel_rfl⟩
theorem RcC_isS_42 : IsS Tryz.prog 42 11 := ⟨⟨_, Tryz.underlying42⟩, by kernel_rfl⟩
theorem zjh {w : World} {b tc rc : Nat} {tz ro : Option Addr} {ts : List Ty} {rs : List Rk} (S : SR w b tz tc ts ro rc rs) (hW : WS (ts.map Ty.k) (rs.map Rk.k)) {r t : Int} : Calls Tryz.prog 18 #[.pointer (some ⟨b, 0, none⟩), .int .i64 r, .int .i64 t] w fun e w' => e = .returned (.tuple #[.bool (isS (ts.map Ty.k) (rs.map Rk.k) r t).1, .int .i64 (isS (ts.map Ty.k) (rs.map Rk.k) r t).2]) ∧ Below w.heap.size w w' := by
 have hkl := hW.kl
 have hrl := hW.rl
 rw [List.length_map] at hkl hrl
 have M : Mg w w ([]) := Mg.start w
 refine qx (l := [(0, .pointer (some ⟨b, 0, none⟩)), (1, .int .i64 r), (2, .int .i64 t)]) Tryz.func18 rfl Tryz.ntmps18 rfl rfl ?_
 intro Q hret hnorm hP a A
 refine wsk fun K1 hK1 => wrl ?_
 iterate 2 refine sda A λa A↦?_
 refine qa (hK1 _ _ (wsk fun K2 hK2 => wsk fun K3 hK3 => wrl ?_))
 iterate 2 refine sdm A λa A↦?_
 rcases tf (okT rs.length r) with hb4 | hb4
 ·
  have hx6 := ka hb4
  refine gcl A M (ef rfl rfl) (qbg (S.below M.bel) hW hb4) fun w7 hb5 M a A => ?_
  refine sda A λa A↦?_
  refine qa (hK3 _ _ (wsk fun K8 hK8 => wrl (sdm A λa A↦?_)))
  refine sdo (v := .bool false) A (qi rfl rfl (fun w => by kernel_rfl)) λa A↦?_
  refine qa (hK8 _ _ (wp_cond_false (A.ev rfl) ?_))
  refine wp_skip (hK2 _ _ (wsk fun K9 hK9 => wsk fun K10 hK10 => wrl ?_))
  iterate 2 refine sdm A λa A↦?_
  rcases tf (okT ts.length t) with hb11 | hb11
  ·
   have hx13 := ka hb11
   refine gcl A M (ef rfl rfl) (vj (S.below M.bel) hW hb11) fun w14 hb12 M a A => ?_
   refine sda A λa A↦?_
   refine qa (hK10 _ _ (wsk fun K15 hK15 => wrl (sdm A λa A↦?_)))
   refine sdo (v := .bool false) A (qi rfl rfl (fun w => by kernel_rfl)) λa A↦?_
   refine qa (hK15 _ _ (wp_cond_false (A.ev rfl) ?_))
   refine wp_skip (hK9 _ _ (wsk fun K16 hK16 => ?_))
   obtain ⟨rk17, br18, or19, ir20, mr21, rr22, lr23, Hr24⟩ := S.R.at_ (i := r.toNat) (by omega)
   have hrk25 := hW.rk _ (List.mem_of_getElem? (xf ir20))
   rw [List.length_map, show rk17.k.1 = rk17.kd from rfl, show rk17.k.2.length = rk17.vs.length from List.length_map _] at hrk25
   refine wrl ?_
   iterate 2 refine sdm A λa A↦?_
   refine sdo A (zf rfl) λa A↦?_
   refine sdo (v := .pointer (some ⟨b, 1, none⟩)) A (qb RcC_fld_73_1 rfl rfl) λa A↦?_
   refine sdo A (E.m_loadX M S.c1 RcC_is1_71 rfl) λa A↦?_
   refine sdm A λa A↦?_
   refine sdo (v := .pointer (some ⟨br18, or19 + r.toNat * 2, none⟩)) A (zb (k := r.toNat) Tryz.underlying71 (by kernel_rfl) rfl rfl (by first | rfl | omega) lr23 (by omega)) λa A↦?_
   refine sdo (v := .pointer (some ⟨br18, or19 + r.toNat * 2, none⟩)) A (qb RcC_fld_86_0 rfl rfl) λa A↦?_
   refine sdo A (jm (j := 0) M Hr24 RcC_is1_3 rfl rfl rfl) λa A↦?_
   refine sct A (ef rfl rfl) (qfj (S.below M.bel) hW (by omega) (by omega)) ?_
   rintro _ w29 ⟨so26, ca27, rfl, hM28⟩
   replace M : Mg w w29 (.row 3 1 (.slice so26 ((chT (prs (ts.map Ty.k)) (((rk17.kd : Nat) : Int))).length) ca27) ((chT (prs (ts.map Ty.k)) (((rk17.kd : Nat) : Int))).length) (inC (chT (prs (ts.map Ty.k)) (((rk17.kd : Nat) : Int)))) :: []) := (M.both hM28 (ql qn) (qg (by simp) (ql qn)))
   refine ⟨_, rfl, ?_⟩
   intro a A
   refine sdm A λa A↦?_
   refine gcl A M (ef rfl rfl) (qmh (l := (chT (prs (ts.map Ty.k)) (((rk17.kd : Nat) : Int)))) (rc_own (M.has 0 rfl)) (by have h9 := yk (prs (ts.map Ty.k)) (((rk17.kd : Nat) : Int)); omega)) fun w31 hb30 M a A => ?_
   iterate 2 refine sda A λa A↦?_
   refine qa (hK16 _ _ (wp_ret (hret _ _ (en2 A rfl (qf rfl) (qf rfl) ?_))))
   exact ⟨by rw [qyj hb4 hb11 ir20], M.bel⟩
  ·
   have hx33 := qbe hb11
   refine gcl A M (ef rfl rfl) (kp (S.below M.bel) hW hb11) fun w34 hb32 M a A => ?_
   refine sda A λa A↦?_
   refine qa (hK10 _ _ (wsk fun K35 hK35 => wrl (sdm A λa A↦?_)))
   refine sdo (v := .bool true) A (qi rfl rfl (fun w => by kernel_rfl)) λa A↦?_
   refine qa (hK35 _ _ (wp_cond_true (A.ev rfl) ?_))
   refine wsk fun K36 hK36 => wrl (sdm A λa A↦?_)
   iterate 2 refine sda A λa A↦?_
   refine qa (hK36 _ _ (wp_ret (hret _ _ (en2 A rfl (qf rfl) (qf rfl) ?_))))
   exact ⟨by rw [qui hb11], M.bel⟩
 ·
  have hx38 := qbe hb4
  refine gcl A M (ef rfl rfl) (qbh (S.below M.bel) hW hb4) fun w39 hb37 M a A => ?_
  refine sda A λa A↦?_
  refine qa (hK3 _ _ (wsk fun K40 hK40 => wrl (sdm A λa A↦?_)))
  refine sdo (v := .bool true) A (qi rfl rfl (fun w => by kernel_rfl)) λa A↦?_
  refine qa (hK40 _ _ (wp_cond_true (A.ev rfl) ?_))
  refine wsk fun K41 hK41 => wrl (sdm A λa A↦?_)
  iterate 2 refine sda A λa A↦?_
  refine qa (hK41 _ _ (wp_ret (hret _ _ (en2 A rfl (qf rfl) (qf rfl) ?_))))
  exact ⟨by rw [quh hb4], M.bel⟩
theorem yy {w : World} {b tc rc : Nat} {tz ro : Option Addr} {ts : List Ty} {rs : List Rk} (S : SR w b tz tc ts ro rc rs) (hW : WS (ts.map Ty.k) (rs.map Rk.k)) {r t i : Int} : Calls Tryz.prog 37 #[.pointer (some ⟨b, 0, none⟩), .int .i64 r, .int .i64 t, .int .i64 i] w fun e w' => e = .returned (.tuple #[.int .i64 (plS (ts.map Ty.k) (rs.map Rk.k) r t i).1, .int .i64 (plS (ts.map Ty.k) (rs.map Rk.k) r t i).2]) ∧ Below w.heap.size w w' := by
 have hkl := hW.kl
 have hrl := hW.rl
 rw [List.length_map] at hkl hrl
 have M : Mg w w ([]) := Mg.start w
 refine qx (l := [(0, .pointer (some ⟨b, 0, none⟩)), (1, .int .i64 r), (2, .int .i64 t), (3, .int .i64 i)]) Tryz.func37 rfl Tryz.ntmps37 rfl rfl ?_
 intro Q hret hnorm hP a A
 refine wsk fun K1 hK1 => wrl ?_
 iterate 2 refine sda A λa A↦?_
 refine qa (hK1 _ _ (wsk fun K2 hK2 => wrl ?_))
 iterate 3 refine sdm A λa A↦?_
 refine gcl A M (ef rfl rfl) (zjh (S.below M.bel) hW) fun w4 hb3 M a A => ?_
 refine sdm A λa A↦?_
 iterate 2 refine sdo A (ze (vs := [.bool ((isS (ts.map Ty.k) (rs.map Rk.k) r t).1), .int .i64 ((isS (ts.map Ty.k) (rs.map Rk.k) r t).2)]) rfl rfl) λa A↦?_
 iterate 2 refine sda A λa A↦?_
 refine qa (hK2 _ _ (wsk fun K5 hK5 => wp_block (wsk fun K6 hK6 => wrl (sdm A λa A↦?_))))
 rcases tf (((isS (ts.map Ty.k) (rs.map Rk.k) r t).2 != 0)) with hb7 | hb7
 ·
  have hb7' := bne_iff_ne.1 hb7
  refine sdc A zi hb7 λa A↦?_
  refine sda A λa A↦?_
  refine qa (hK6 _ _ (wp_cond_true (A.ev rfl) ?_))
  refine wsk fun K8 hK8 => wrl (sdm A λa A↦?_)
  iterate 2 refine sda A λa A↦?_
  refine qa (hK8 _ _ (wp_ret (hret _ _ (en2 A rfl (qf rfl) (qf rfl) ?_))))
  exact ⟨by rw [qrg (i := i) (show (isS (ts.map Ty.k) (rs.map Rk.k) r t).2 ≠ 0 by omega)], M.bel⟩
 ·
  have hb7' := bne_eq_false_iff_eq.1 hb7
  refine sdc A zi hb7 λa A↦?_
  refine sda A λa A↦?_
  refine qa (hK6 _ _ (wp_cond_false (A.ev rfl) ?_))
  refine wsk fun K9 hK9 => wrl (sdm A λa A↦?_)
  refine sdo (v := .bool (!((isS (ts.map Ty.k) (rs.map Rk.k) r t).1))) A (zj rfl zq) λa A↦?_
  refine sda A λa A↦?_
  refine qa (hK9 _ _ ?_)
  refine wp_cond_split (t := !((isS (ts.map Ty.k) (rs.map Rk.k) r t).1)) (A.ev rfl) (fun hc10 => ?_) (fun hc10 => ?_)
  ·
   refine wsk fun K11 hK11 => wrl ?_
   iterate 2 refine sda A λa A↦?_
   refine qa (hK11 _ _ (wp_ret (hret _ _ (en2 A rfl (qf rfl) (qf rfl) ?_))))
   exact ⟨by rw [qla (i := i) (show (isS (ts.map Ty.k) (rs.map Rk.k) r t).2 = 0 by omega) (by simpa using hc10)], M.bel⟩
  ·
   refine wsk fun K12 hK12 => ?_
   have hz9 := qkj (show (isS (ts.map Ty.k) (rs.map Rk.k) r t).2 = 0 by omega)
   rw [List.length_map, List.length_map] at hz9
   have hr9 := ka hz9.1
   have ht9 := ka hz9.2
   obtain ⟨ty13, bt14, ot15, it16, mt17, rt18, lt19, Ht20⟩ := S.T.at_ (i := t.toNat) (by omega)
   have hnf := hW.nf16 (zl it16)
   have hpl := hW.par_lt (zl it16)
   rw [show ty13.k.fs.length = ty13.fs.length from rfl, show ty13.k.par = ty13.par from rfl] at hnf
   rw [show ty13.k.par = ty13.par from rfl] at hpl
   refine wrl (sdm A λa A↦?_)
   rcases tf (decide (i < 0)) with hb21 | hb21
   ·
    have hb21' := of_decide_eq_true hb21
    refine sdc A za hb21 λa A↦?_
    refine sdm A λa A↦?_
    iterate 11 refine qk A rfl rfl rfl λa A↦?_
    refine sdk (v := .bool true) A λa A↦?_
    refine sda A λa A↦?_
    refine qa (hK12 _ _ (wp_cond_true (A.ev rfl) ?_))
    refine wsk fun K22 hK22 => wrl ?_
    iterate 2 refine sda A λa A↦?_
    refine qa (hK22 _ _ (wp_ret (hret _ _ (en2 A rfl (qf rfl) (qf rfl) ?_))))
    exact ⟨by rw [qed (show (isS (ts.map Ty.k) (rs.map Rk.k) r t).2 = 0 by omega) (by simpa using hc10) (zl it16) (show i < 0 ∨ ((ty13.fs.length : Nat) : Int) ≤ i by omega)], M.bel⟩
   ·
    have hb21' := of_decide_eq_false hb21
    refine sdc A za hb21 λa A↦?_
    iterate 3 refine sdm A λa A↦?_
    refine sdo A (zf rfl) λa A↦?_
    refine sdo (v := .pointer (some ⟨b, 0, none⟩)) A (qb RcC_fld_73_0 rfl rfl) λa A↦?_
    refine sdo A (E.m_loadX M S.c0 RcC_is1_26 rfl) λa A↦?_
    refine sdm A λa A↦?_
    refine sdo (v := .pointer (some ⟨bt14, ot15 + t.toNat * 7, none⟩)) A (zb (k := t.toNat) Tryz.underlying26 (by kernel_rfl) rfl rfl (by first | rfl | omega) lt19 (by omega)) λa A↦?_
    refine sdo (v := .pointer (some ⟨bt14, ot15 + t.toNat * 7 + 2, none⟩)) A (qb RcC_fld_33_2 rfl rfl) λa A↦?_
    refine sdo A (jm (j := 2) M Ht20 RcC_is1_30 rfl rfl rfl) λa A↦?_
    refine sdo A (qp Tryz.underlying30 rfl) λa A↦?_
    rcases tf (decide (((ty13.fs.length : Nat) : Int) ≤ i)) with hb23 | hb23
    ·
     have hb23' := of_decide_eq_true hb23
     refine sdc A zk hb23 λa A↦?_
     refine sdk (v := .bool true) A λa A↦?_
     refine sda A λa A↦?_
     refine qa (hK12 _ _ (wp_cond_true (A.ev rfl) ?_))
     refine wsk fun K24 hK24 => wrl ?_
     iterate 2 refine sda A λa A↦?_
     refine qa (hK24 _ _ (wp_ret (hret _ _ (en2 A rfl (qf rfl) (qf rfl) ?_))))
     exact ⟨by rw [qed (show (isS (ts.map Ty.k) (rs.map Rk.k) r t).2 = 0 by omega) (by simpa using hc10) (zl it16) (show i < 0 ∨ ((ty13.fs.length : Nat) : Int) ≤ i by omega)], M.bel⟩
    ·
     have hb23' := of_decide_eq_false hb23
     refine sdc A zk hb23 λa A↦?_
     refine sdk (v := .bool false) A λa A↦?_
     refine sda A λa A↦?_
     refine qa (hK12 _ _ (wp_cond_false (A.ev rfl) ?_))
     refine wp_skip (hK5 _ _ (wsk fun K25 hK25 => wrl ?_))
     iterate 2 refine sdm A λa A↦?_
     refine sdo A (zf rfl) λa A↦?_
     refine sdo (v := .pointer (some ⟨b, 0, none⟩)) A (qb RcC_fld_73_0 rfl rfl) λa A↦?_
     refine sdo A (E.m_loadX M S.c0 RcC_is1_26 rfl) λa A↦?_
     refine sdm A λa A↦?_
     refine sdo (v := .pointer (some ⟨bt14, ot15 + t.toNat * 7, none⟩)) A (zb (k := t.toNat) Tryz.underlying26 (by kernel_rfl) rfl rfl (by first | rfl | omega) lt19 (by omega)) λa A↦?_
     refine sdo (v := .pointer (some ⟨bt14, ot15 + t.toNat * 7 + 1, none⟩)) A (qb RcC_fld_33_1 rfl rfl) λa A↦?_
     refine sdo A (jm (j := 1) M Ht20 RcC_is1_3 rfl rfl rfl) λa A↦?_
     refine gcl A M (ef rfl rfl) (vk (S.below M.bel) hW (by omega) (by omega)) fun w27 hb26 M a A => ?_
     refine sdm A λa A↦?_
     refine sdo (v := .int .i64 (((cnt (ts.map Ty.k) ty13.par : Nat) : Int) + i)) A (qi rfl rfl (jc (jg (by omega) (by omega)))) λa A↦?_
     iterate 2 refine sda A λa A↦?_
     refine qa (hK25 _ _ (wp_ret (hret _ _ (en2 A rfl (qf rfl) (qf rfl) ?_))))
     exact ⟨by rw [qrh (show (isS (ts.map Ty.k) (rs.map Rk.k) r t).2 = 0 by omega) (by simpa using hc10) (zl it16) (show 0 ≤ i by omega) (show i < ((ty13.fs.length : Nat) : Int) by omega)]; rfl, M.bel⟩
theorem qzd {w : World} {b tc rc : Nat} {tz ro : Option Addr} {ts : List Ty} {rs : List Rk} (S : SR w b tz tc ts ro rc rs) (hW : WS (ts.map Ty.k) (rs.map Rk.k)) {t : Int} : Calls Tryz.prog 22 #[.pointer (some ⟨b, 0, none⟩), .int .i64 t] w fun e w' => e = .returned (.tuple #[.int .i64 (flS (ts.map Ty.k) t).1, .int .i64 (flS (ts.map Ty.k) t).2]) ∧ Below w.heap.size w w' := by
 have hkl := hW.kl
 have hrl := hW.rl
 rw [List.length_map] at hkl hrl
 have M : Mg w w ([]) := Mg.start w
 refine qx (l := [(0, .pointer (some ⟨b, 0, none⟩)), (1, .int .i64 t)]) Tryz.func22 rfl Tryz.ntmps22 rfl rfl ?_
 intro Q hret hnorm hP a A
 refine wsk fun K1 hK1 => wrl ?_
 iterate 2 refine sda A λa A↦?_
 refine qa (hK1 _ _ (wsk fun K2 hK2 => wsk fun K3 hK3 => wrl ?_))
 iterate 2 refine sdm A λa A↦?_
 rcases tf (okT ts.length t) with hb4 | hb4
 ·
  have hx6 := ka hb4
  refine gcl A M (ef rfl rfl) (vj (S.below M.bel) hW hb4) fun w7 hb5 M a A => ?_
  refine sda A λa A↦?_
  refine qa (hK3 _ _ (wsk fun K8 hK8 => wrl (sdm A λa A↦?_)))
  refine sdo (v := .bool false) A (qi rfl rfl (fun w => by kernel_rfl)) λa A↦?_
  refine qa (hK8 _ _ (wp_cond_false (A.ev rfl) ?_))
  refine wp_skip (hK2 _ _ (wsk fun K9 hK9 => wrl ?_))
  iterate 2 refine sdm A λa A↦?_
  refine gcl A M (ef rfl rfl) (vk (S.below M.bel) hW (by omega) (by omega)) fun w11 hb10 M a A => ?_
  iterate 2 refine sda A λa A↦?_
  refine qa (hK9 _ _ (wp_ret (hret _ _ (en2 A rfl (qf rfl) (qf rfl) ?_))))
  exact ⟨by rw [qza hb4], M.bel⟩
 ·
  have hx13 := qbe hb4
  refine gcl A M (ef rfl rfl) (kp (S.below M.bel) hW hb4) fun w14 hb12 M a A => ?_
  refine sda A λa A↦?_
  refine qa (hK3 _ _ (wsk fun K15 hK15 => wrl (sdm A λa A↦?_)))
  refine sdo (v := .bool true) A (qi rfl rfl (fun w => by kernel_rfl)) λa A↦?_
  refine qa (hK15 _ _ (wp_cond_true (A.ev rfl) ?_))
  refine wsk fun K16 hK16 => wrl (sdm A λa A↦?_)
  iterate 2 refine sda A λa A↦?_
  refine qa (hK16 _ _ (wp_ret (hret _ _ (en2 A rfl (qf rfl) (qf rfl) ?_))))
  exact ⟨by rw [qrj hb4], M.bel⟩
theorem qze {w : World} {b tc rc : Nat} {tz ro : Option Addr} {ts : List Ty} {rs : List Rk} (S : SR w b tz tc ts ro rc rs) (hW : WS (ts.map Ty.k) (rs.map Rk.k)) {r : Int} : Calls Tryz.prog 20 #[.pointer (some ⟨b, 0, none⟩), .int .i64 r] w fun e w' => e = .returned (.tuple #[.int .i64 (yf (ts.map Ty.k) (rs.map Rk.k) r).1, .int .i64 (yf (ts.map Ty.k) (rs.map Rk.k) r).2]) ∧ Below w.heap.size w w' := by
 have hkl := hW.kl
 have hrl := hW.rl
 rw [List.length_map] at hkl hrl
 have M : Mg w w ([]) := Mg.start w
 refine qx (l := [(0, .pointer (some ⟨b, 0, none⟩)), (1, .int .i64 r)]) Tryz.func20 rfl Tryz.ntmps20 rfl rfl ?_
 intro Q hret hnorm hP a A
 refine wsk fun K1 hK1 => wrl ?_
 iterate 2 refine sda A λa A↦?_
 refine qa (hK1 _ _ (wsk fun K2 hK2 => wsk fun K3 hK3 => wrl ?_))
 iterate 2 refine sdm A λa A↦?_
 rcases tf (okT rs.length r) with hb4 | hb4
 ·
  have hx6 := ka hb4
  refine gcl A M (ef rfl rfl) (qbg (S.below M.bel) hW hb4) fun w7 hb5 M a A => ?_
  refine sda A λa A↦?_
  refine qa (hK3 _ _ (wsk fun K8 hK8 => wrl (sdm A λa A↦?_)))
  refine sdo (v := .bool false) A (qi rfl rfl (fun w => by kernel_rfl)) λa A↦?_
  refine qa (hK8 _ _ (wp_cond_false (A.ev rfl) ?_))
  refine wp_skip (hK2 _ _ (wsk fun K9 hK9 => ?_))
  obtain ⟨rk10, br11, or12, ir13, mr14, rr15, lr16, Hr17⟩ := S.R.at_ (i := r.toNat) (by omega)
  have hrk18 := hW.rk _ (List.mem_of_getElem? (xf ir13))
  rw [List.length_map, show rk10.k.1 = rk10.kd from rfl, show rk10.k.2.length = rk10.vs.length from List.length_map _] at hrk18
  refine wrl (sdm A λa A↦?_)
  refine sdo A (zf rfl) λa A↦?_
  refine sdo (v := .pointer (some ⟨b, 1, none⟩)) A (qb RcC_fld_73_1 rfl rfl) λa A↦?_
  refine sdo A (E.m_loadX M S.c1 RcC_is1_71 rfl) λa A↦?_
  refine sdm A λa A↦?_
  refine sdo (v := .pointer (some ⟨br11, or12 + r.toNat * 2, none⟩)) A (zb (k := r.toNat) Tryz.underlying71 (by kernel_rfl) rfl rfl (by first | rfl | omega) lr16 (by omega)) λa A↦?_
  refine sdo (v := .pointer (some ⟨br11, or12 + r.toNat * 2, none⟩)) A (qb RcC_fld_86_0 rfl rfl) λa A↦?_
  refine sdo A (jm (j := 0) M Hr17 RcC_is1_3 rfl rfl rfl) λa A↦?_
  refine sda A λa A↦?_
  refine qa (hK9 _ _ (wsk fun K19 hK19 => wsk fun K20 hK20 => wrl ?_))
  iterate 2 refine sdm A λa A↦?_
  rcases tf (opq (ts.map Ty.k) (((rk10.kd : Nat) : Int))) with hb21 | hb21
  ·
   refine gcl A M (ef rfl rfl) ((hb21 ▸ qea (S.below M.bel) hW (by omega) (by omega))) fun w23 hb22 M a A => ?_
   refine qa (hK20 _ _ (wp_cond_true (A.ev rfl) ?_))
   refine wsk fun K24 hK24 => wrl ?_
   iterate 2 refine sda A λa A↦?_
   refine qa (hK24 _ _ (wp_ret (hret _ _ (en2 A rfl (qf rfl) (qf rfl) ?_))))
   exact ⟨by rw [qva hb4 ir13 hb21], M.bel⟩
  ·
   refine gcl A M (ef rfl rfl) ((hb21 ▸ qea (S.below M.bel) hW (by omega) (by omega))) fun w26 hb25 M a A => ?_
   refine qa (hK20 _ _ (wp_cond_false (A.ev rfl) ?_))
   refine wp_skip (hK19 _ _ (wsk fun K27 hK27 => wrl (sdm A λa A↦?_)))
   iterate 2 refine sda A λa A↦?_
   refine qa (hK27 _ _ (wp_ret (hret _ _ (en2 A rfl (qf rfl) (qf rfl) ?_))))
   exact ⟨by rw [zcc hb4 ir13 hb21], M.bel⟩
 ·
  have hx29 := qbe hb4
  refine gcl A M (ef rfl rfl) (qbh (S.below M.bel) hW hb4) fun w30 hb28 M a A => ?_
  refine sda A λa A↦?_
  refine qa (hK3 _ _ (wsk fun K31 hK31 => wrl (sdm A λa A↦?_)))
  refine sdo (v := .bool true) A (qi rfl rfl (fun w => by kernel_rfl)) λa A↦?_
  refine qa (hK31 _ _ (wp_cond_true (A.ev rfl) ?_))
  refine wsk fun K32 hK32 => wrl (sdm A λa A↦?_)
  iterate 2 refine sda A λa A↦?_
  refine qa (hK32 _ _ (wp_ret (hret _ _ (en2 A rfl (qf rfl) (qf rfl) ?_))))
  exact ⟨by rw [qri hb4], M.bel⟩
theorem zob {w : World} {b tc rc : Nat} {tz ro : Option Addr} {ts : List Ty} {rs : List Rk} (S : SR w b tz tc ts ro rc rs) (hW : WS (ts.map Ty.k) (rs.map Rk.k)) {t : Int} : Calls Tryz.prog 23 #[.pointer (some ⟨b, 0, none⟩), .int .i64 t] w fun e w' => ∃ (t2 : Ty) (ev : Int), e = .returned (.tuple #[.agg #[.string t2.nm, .int .i64 t2.par, .slice t2.fo t2.fs.length t2.fc, .slice t2.mo t2.ms.length t2.mc, .bool t2.sl, .bool t2.op, .string t2.ui], .int .i64 ev]) ∧ ((okT ts.length t = true ∧ ev = 0 ∧ (ts.map Ty.k)[t.toNat]? = some t2.k) ∨ (okT ts.length t = false ∧ ev = 7)) ∧ Mg w w' [.row 9 1 (.slice t2.fo t2.fs.length t2.fc) t2.fs.length (E.strC t2.fs), .row 4 1 (.slice t2.mo t2.ms.length t2.mc) t2.ms.length (E.boolC t2.ms)] := by
 have hkl := hW.kl
 have hrl := hW.rl
 rw [List.length_map] at hkl hrl
 have M : Mg w w ([]) := Mg.start w
 refine qx (l := [(0, .pointer (some ⟨b, 0, none⟩)), (1, .int .i64 t)]) Tryz.func23 rfl Tryz.ntmps23 rfl rfl ?_
 intro Q hret hnorm hP a A
 refine wsk fun K1 hK1 => wrl (jb (vs := [.string (⟨#[]⟩), .int .i64 0, .slice none 0 0, .slice none 0 0, .bool false, .bool false, .string (⟨#[]⟩)]) (t := 33) A M rfl rfl rfl pg (zw (z := .agg #[.string (⟨#[]⟩), .int .i64 0, .slice none 0 0, .slice none 0 0, .bool false, .bool false, .string (⟨#[]⟩)]) (by kernel_rfl) rfl) (by decide) ?_)
 intro g2 w3 M a A
 refine sda A λa A↦?_
 refine qa (hK1 _ _ (wsk fun K4 hK4 => wsk fun K5 hK5 => wrl ?_))
 iterate 2 refine sdm A λa A↦?_
 rcases tf (okT ts.length t) with hb6 | hb6
 ·
  have hx8 := ka hb6
  refine gcl A M (ef rfl rfl) (vj (S.below M.bel) hW hb6) fun w9 hb7 M a A => ?_
  refine sda A λa A↦?_
  refine qa (hK5 _ _ (wsk fun K10 hK10 => wrl (sdm A λa A↦?_)))
  refine sdo (v := .bool false) A (qi rfl rfl (fun w => by kernel_rfl)) λa A↦?_
  refine qa (hK10 _ _ (wp_cond_false (A.ev rfl) ?_))
  refine wp_skip (hK4 _ _ (wsk fun K11 hK11 => ?_))
  obtain ⟨ty12, bt13, ot14, it15, mt16, rt17, lt18, Ht19⟩ := S.T.at_ (i := t.toNat) (by omega)
  have hnf := hW.nf16 (zl it15)
  have hml := hW.ml _ (List.mem_of_getElem? (zl it15))
  have hzs := hW.zs _ (List.mem_of_getElem? (zl it15))
  rw [show ty12.k.fs.length = ty12.fs.length from rfl] at hnf
  rw [show ty12.k.fs.length = ty12.fs.length from rfl, show ty12.k.ms.length = ty12.ms.length from rfl] at hml
  refine wrl (sdm A λa A↦?_)
  refine sdo A (zf rfl) λa A↦?_
  refine sdo (v := .pointer (some ⟨b, 0, none⟩)) A (qb RcC_fld_73_0 rfl rfl) λa A↦?_
  refine sdo A (E.m_loadX M S.c0 RcC_is1_26 rfl) λa A↦?_
  refine sdm A λa A↦?_
  refine sdo (v := .pointer (some ⟨bt13, ot14 + t.toNat * 7, none⟩)) A (zb (k := t.toNat) Tryz.underlying26 (by kernel_rfl) rfl rfl (by first | rfl | omega) lt18 (by omega)) λa A↦?_
  refine sdo (v := .agg #[.string ty12.nm, .int .i64 ty12.par, .slice ty12.fo ty12.fs.length ty12.fc, .slice ty12.mo ty12.ms.length ty12.mc, .bool ty12.sl, .bool ty12.op, .string ty12.ui]) A (xa M Ht19 RcC_isS_33 rfl rfl) λa A↦?_
  refine sct A (ef rfl rfl) (xg (u := ty12) (rt17.below M.bel) (by omega) (by omega) hzs.1 hzs.2.1 hzs.2.2) ?_
  rintro _ w21 ⟨t2, rfl, hk2, hM20⟩
  replace M : Mg w w21 (.row 9 1 (.slice t2.fo t2.fs.length t2.fc) t2.fs.length (E.strC t2.fs) :: .row 4 1 (.slice t2.mo t2.ms.length t2.mc) t2.ms.length (E.boolC t2.ms) :: .obj g2 (.cells #[.string (⟨#[]⟩), .int .i64 0, .slice none 0 0, .slice none 0 0, .bool false, .bool false, .string (⟨#[]⟩)] 33) :: []) := (M.both hM20 (qg (by simp) (ql qn)) (qg (by simp) (qg (by simp) (ql qn))))
  refine ⟨_, rfl, ?_⟩
  intro a A
  refine zr (us := [.string t2.nm, .int .i64 t2.par, .slice t2.fo t2.fs.length t2.fc, .slice t2.mo t2.ms.length t2.mc, .bool t2.sl, .bool t2.op, .string t2.ui]) (L' := (.row 9 1 (.slice t2.fo t2.fs.length t2.fc) t2.fs.length (E.strC t2.fs) :: .row 4 1 (.slice t2.mo t2.ms.length t2.mc) t2.ms.length (E.boolC t2.ms) :: .obj g2 (.cells #[.string t2.nm, .int .i64 t2.par, .slice t2.fo t2.fs.length t2.fc, .slice t2.mo t2.ms.length t2.mc, .bool t2.sl, .bool t2.op, .string t2.ui] 33) :: [])) A M rfl rfl (qz rfl rfl rfl (by kernel_rfl) M 2 rfl rfl rfl) 2 rfl rfl rfl ?_
  intro w22 M
  refine sda A λa A↦?_
  refine qa (hK11 _ _ (wp_ret (hret _ _ (en2 A rfl (zm M RcC_isS_33 rfl 2 rfl (cs := [.string t2.nm, .int .i64 t2.par, .slice t2.fo t2.fs.length t2.fc, .slice t2.mo t2.ms.length t2.mc, .bool t2.sl, .bool t2.op, .string t2.ui]) rfl rfl) (qf rfl) ?_))))
  replace M : Mg w w22 (.row 4 1 (.slice t2.mo t2.ms.length t2.mc) t2.ms.length (E.boolC t2.ms) :: .row 9 1 (.slice t2.fo t2.fs.length t2.fc) t2.fs.length (E.strC t2.fs) :: .obj g2 (.cells #[.string t2.nm, .int .i64 t2.par, .slice t2.fo t2.fs.length t2.fc, .slice t2.mo t2.ms.length t2.mc, .bool t2.sl, .bool t2.op, .string t2.ui] 33) :: []) := M.bring 1 rfl rfl
  replace M : Mg w w22 (.row 9 1 (.slice t2.fo t2.fs.length t2.fc) t2.fs.length (E.strC t2.fs) :: .row 4 1 (.slice t2.mo t2.ms.length t2.mc) t2.ms.length (E.boolC t2.ms) :: .obj g2 (.cells #[.string t2.nm, .int .i64 t2.par, .slice t2.fo t2.fs.length t2.fc, .slice t2.mo t2.ms.length t2.mc, .bool t2.sl, .bool t2.op, .string t2.ui] 33) :: []) := M.bring 1 rfl rfl
  replace M : Mg w w22 (.row 9 1 (.slice t2.fo t2.fs.length t2.fc) t2.fs.length (E.strC t2.fs) :: .row 4 1 (.slice t2.mo t2.ms.length t2.mc) t2.ms.length (E.boolC t2.ms) :: []) := by
   have h9 := M.sub (cc (cc (cn (.refl _))))
   exact h9
  exact ⟨t2, _, rfl, .inl ⟨hb6, rfl, by rw [zl it15, hk2]⟩, M⟩
 ·
  have hx24 := qbe hb6
  refine gcl A M (ef rfl rfl) (kp (S.below M.bel) hW hb6) fun w25 hb23 M a A => ?_
  refine sda A λa A↦?_
  refine qa (hK5 _ _ (wsk fun K26 hK26 => wrl (sdm A λa A↦?_)))
  refine sdo (v := .bool true) A (qi rfl rfl (fun w => by kernel_rfl)) λa A↦?_
  refine qa (hK26 _ _ (wp_cond_true (A.ev rfl) ?_))
  refine wsk fun K27 hK27 => wrl (sdo (v := .agg #[.string (⟨#[]⟩), .int .i64 0, .slice none 0 0, .slice none 0 0, .bool false, .bool false, .string (⟨#[]⟩)]) A (jd rfl (fun w => by kernel_rfl)) λa A↦?_)
  refine sdm A λa A↦?_
  refine zr (us := [.string (⟨#[]⟩), .int .i64 0, .slice none 0 0, .slice none 0 0, .bool false, .bool false, .string (⟨#[]⟩)]) (L' := (.obj g2 (.cells #[.string (⟨#[]⟩), .int .i64 0, .slice none 0 0, .slice none 0 0, .bool false, .bool false, .string (⟨#[]⟩)] 33) :: [])) A M rfl rfl (qz rfl rfl rfl (by kernel_rfl) M 0 rfl rfl rfl) 0 rfl rfl rfl ?_
  intro w28 M
  refine sda A λa A↦?_
  refine qa (hK27 _ _ (wp_ret (hret _ _ (en2 A rfl (zm M RcC_isS_33 rfl 0 rfl (cs := [.string (⟨#[]⟩), .int .i64 0, .slice none 0 0, .slice none 0 0, .bool false, .bool false, .string (⟨#[]⟩)]) rfl rfl) (qf rfl) ?_))))
  replace M : Mg w w28 ([]) := by
   have h9 := M.sub (cn (.refl _))
   exact h9
  exact ⟨zjg, _, rfl, .inr ⟨hb6, rfl⟩, (M.nilRow (ql qn) 4 1).nilRow (qg (by simp) (ql qn)) 9 1⟩
theorem zcd {w : World} {b tc rc : Nat} {tz ro : Option Addr} {ts : List Ty} {rs : List Rk} (S : SR w b tz tc ts ro rc rs) (hW : WS (ts.map Ty.k) (rs.map Rk.k)) {r t i : Int} : Calls Tryz.prog 13 #[.pointer (some ⟨b, 0, none⟩), .int .i64 r, .int .i64 t, .int .i64 i] w fun e w' => ∃ d2 : Dt, e = .returned (.tuple #[.agg (d2.d.cells d2.ts.length).toArray, .int .i64 (plS (ts.map Ty.k) (rs.map Rk.k) r t i).2]) ∧ (d2.rd w' ∧ d2.tr = gtT (ts.map Ty.k) (rs.map Rk.k) r t i ∧ d2.at_ (w.heap.size ≤ ·)) ∧ Below w.heap.size w w' := by
 have hkl := hW.kl
 have hrl := hW.rl
 rw [List.length_map] at hkl hrl
 have M : Mg w w ([]) := Mg.start w
 refine qx (l := [(0, .pointer (some ⟨b, 0, none⟩)), (1, .int .i64 r), (2, .int .i64 t), (3, .int .i64 i)]) Tryz.func13 rfl Tryz.ntmps13 rfl rfl ?_
 intro Q hret hnorm hP a A
 refine wsk fun K1 hK1 => wrl (jb (vs := (js.d.cells js.ts.length)) (t := 42) A M rfl rfl rfl pg (zw (z := .agg (js.d.cells js.ts.length).toArray) (by kernel_rfl) rfl) (by decide) ?_)
 intro g2 w3 M a A
 refine sda A λa A↦?_
 refine qa (hK1 _ _ (wsk fun K4 hK4 => wrl ?_))
 iterate 4 refine sdm A λa A↦?_
 refine gcl A M (ef rfl rfl) (yy (S.below M.bel) hW) fun w6 hb5 M a A => ?_
 refine sdm A λa A↦?_
 iterate 2 refine sdo A (ze (vs := [.int .i64 ((plS (ts.map Ty.k) (rs.map Rk.k) r t i).1), .int .i64 ((plS (ts.map Ty.k) (rs.map Rk.k) r t i).2)]) rfl rfl) λa A↦?_
 iterate 2 refine sda A λa A↦?_
 refine qa (hK4 _ _ (wsk fun K7 hK7 => wsk fun K8 hK8 => wrl (sdm A λa A↦?_)))
 rcases tf (((plS (ts.map Ty.k) (rs.map Rk.k) r t i).2 != 0)) with hb9 | hb9
 ·
  have hb9' := bne_iff_ne.1 hb9
  refine sdc A zi hb9 λa A↦?_
  refine qa (hK8 _ _ (wp_cond_true (A.ev rfl) ?_))
  refine wsk fun K10 hK10 => wrl (sdo (v := .agg (js.d.cells js.ts.length).toArray) A (jd rfl (fun w => by kernel_rfl)) λa A↦?_)
  refine sdm A λa A↦?_
  refine zr (us := (js.d.cells js.ts.length)) (L' := (.obj g2 (.cells (js.d.cells js.ts.length).toArray 42) :: [])) A M rfl rfl (qz rfl rfl rfl (by kernel_rfl) M 0 rfl rfl rfl) 0 rfl rfl rfl ?_
  intro w11 M
  refine sda A λa A↦?_
  refine qa (hK10 _ _ (wp_ret (hret _ _ (en2 A rfl (zm M RcC_isS_42 rfl 0 rfl (cs := [.int .i64 0, .int .i64 0, .bool false, .slice none 0 0, .slice none 0 0, .bool false, .slice none 0 0, .slice none 0 0, .string (⟨#[]⟩), .slice none 0 0, .slice none 0 0]) rfl rfl) (qf rfl) ?_))))
  exact ⟨js, rfl, ⟨qtf _, (zjf (show (plS (ts.map Ty.k) (rs.map Rk.k) r t i).2 ≠ 0 by omega)).symm, zid _⟩, M.bel⟩
 ·
  have hb9' := bne_eq_false_iff_eq.1 hb9
  refine sdc A zi hb9 λa A↦?_
  refine qa (hK8 _ _ (wp_cond_false (A.ev rfl) ?_))
  refine wp_skip (hK7 _ _ (wsk fun K12 hK12 => ?_))
  obtain ⟨x9, k9, hx9, hk9, p1, p2, p3, p4, p5, p6, p7, p8, p9, p10⟩ := qoe hW (show (plS (ts.map Ty.k) (rs.map Rk.k) r t i).2 = 0 by omega)
  rw [List.length_map] at p2 p4
  obtain ⟨rk13, br14, or15, ir16, mr17, rr18, lr19, Hr20⟩ := S.R.at_ (i := r.toNat) (by omega)
  obtain rfl : x9 = rk13.k := Option.some.inj (hx9.symm.trans (xf ir16))
  rw [show rk13.k.2.length = rk13.vs.length from List.length_map _] at p9 p10
  refine wrl (sdm A λa A↦?_)
  refine sdo A (zf rfl) λa A↦?_
  refine sdo (v := .pointer (some ⟨b, 1, none⟩)) A (qb RcC_fld_73_1 rfl rfl) λa A↦?_
  refine sdo A (E.m_loadX M S.c1 RcC_is1_71 rfl) λa A↦?_
  refine sdm A λa A↦?_
  refine sdo (v := .pointer (some ⟨br14, or15 + r.toNat * 2, none⟩)) A (zb (k := r.toNat) Tryz.underlying71 (by kernel_rfl) rfl rfl (by first | rfl | omega) lr19 (by omega)) λa A↦?_
  refine sdo (v := .pointer (some ⟨br14, or15 + r.toNat * 2 + 1, none⟩)) A (qb RcC_fld_86_1 rfl rfl) λa A↦?_
  refine sdo A (jm (j := 1) M Hr20 RcC_is1_34 rfl rfl rfl) λa A↦?_
  refine sdm A λa A↦?_
  obtain ⟨tk21, btk21, otk21, itk21, mtk21, rtk21_, ltk21, Htk21⟩ := zna rr18.v rr18.d (i := ((plS (ts.map Ty.k) (rs.map Rk.k) r t i).1).toNat) (by omega)
  refine sdo (v := .pointer (some ⟨btk21, otk21 + ((plS (ts.map Ty.k) (rs.map Rk.k) r t i).1).toNat * 11, none⟩)) A (zb (k := ((plS (ts.map Ty.k) (rs.map Rk.k) r t i).1).toNat) Tryz.underlying34 (by kernel_rfl) rfl rfl (by first | rfl | omega) ltk21 (by omega)) λa A↦?_
  refine sdo A (xa M Htk21 RcC_isS_42 rfl rfl) λa A↦?_
  have hlt9 := (Ck.lt (M.has 0 rfl) g2 rfl).2
  have hz9 := M.bel.size
  refine sct A (ef rfl rfl) (uk tk21 (Dt.keep M.bel _ rtk21_) (hW.bk _ (List.mem_of_getElem? (xf ir16)) _ (List.mem_map.2 ⟨_, mtk21, rfl⟩))) ?_
  rintro _ w22 ⟨d2, rfl, ⟨hd2, ha2, ht2⟩, hbd⟩
  replace M := M.call hbd
  refine ⟨_, rfl, ?_⟩
  intro a A
  refine qtd (us := (d2.d.cells d2.ts.length)) (L' := (.obj g2 (.cells (d2.d.cells d2.ts.length).toArray 42) :: [])) A M rfl rfl (qz rfl rfl rfl (by kernel_rfl) M 0 rfl rfl rfl) 0 rfl rfl rfl ?_
  intro w23 M hK24
  replace hd2 := Dt.kept hK24 _ hd2 (Dt.at_mono (fun b9 hb9 => by rintro rfl; omega) _ ha2)
  refine sda A λa A↦?_
  refine qa (hK12 _ _ (wp_ret (hret _ _ (en2 A rfl (zm M RcC_isS_42 rfl 0 rfl (cs := [.int .i64 d2.d.k, .int .i64 d2.d.n, .bool d2.d.y.q.b1, .slice d2.d.y.o1 d2.d.y.q.t1.length d2.d.y.c1, .slice d2.d.y.o2 d2.d.y.q.q1.length d2.d.y.c2, .bool d2.d.y.q.b2, .slice d2.d.y.o3 d2.d.y.q.t2.length d2.d.y.c3, .slice d2.d.y.o4 d2.d.y.q.q2.length d2.d.y.c4, .string d2.d.s, .slice d2.d.ro d2.d.rl.length d2.d.rc, .slice d2.d.lo d2.ts.length d2.d.lc]) rfl rfl) (qf rfl) ?_))))
  exact ⟨d2, by first | (rw [show (plS (ts.map Ty.k) (rs.map Rk.k) r t i).2 = 0 by omega]; done) | (rw [show (plS (ts.map Ty.k) (rs.map Rk.k) r t i).2 = 0 by omega]; rfl), ⟨hd2, by rw [ht2, zje (show (plS (ts.map Ty.k) (rs.map Rk.k) r t i).2 = 0 by omega) hx9 (show (List.map Dt.tr _)[_]? = some tk21.tr by rw [List.getElem?_map, itk21]; rfl)], Dt.at_mono (fun b9 hb9 => Nat.le_trans hz9 hb9) _ ha2⟩, M.bel⟩
open Classical in
/-- What was made, but these pieces. -/
noncomputable def others (w0 w : World) (L : List Ck) : List Ck := (froz w w0.heap.size (w.heap.size - w0.heap.size)).filter fun c => decide (∀ d ∈ L, ∀ b, c.at_ = some b → d.at_ ≠ some b)
theorem ul {w0 w : World} {L : List Ck} : jk (others w0 w L) := fun c hc => qth c (List.mem_filter.1 hc).1
theorem Mg.fill {w0 w : World} {L : List Ck} (hM : Mg w0 w L) (hnb : jk L) : Mg w0 w (others w0 w L ++ L) := by
  refine ⟨hM.bel, fun c hc => ?_, List.pairwise_append.2 ⟨(qaj _ _).filter _, hM.dis, fun c hc d hd => ?_⟩⟩
  · rcases List.mem_append.1 hc with h | h
    · obtain ⟨b, o, rfl, h3, h4⟩ := ko (List.mem_filter.1 h).1
      exact ⟨h3, h4⟩
    · exact hM.all c h
  · have h5 := of_decide_eq_true (List.mem_filter.1 hc).2
    obtain ⟨b, o, rfl, h3, h4⟩ := ko (List.mem_filter.1 hc).1
    have h6 := h5 d hd b rfl
    cases d with
    | obj g' o' => exact fun e => h6 (by rw [e]; rfl)
    | row e' sz' v' n' xs' => exact h6
    | bld b' bs' => exact absurd rfl (hnb _ hd b' bs')
theorem qee {w w' : World} {L : List Ck} {t : Dt} (ht : t.rd w') (ha : t.at_ fun b => w.heap.size ≤ b ∧ ∀ d ∈ L, d.at_ ≠ some b) : Lives (others w w' L) t := fun w1 w2 h9 => by
  refine Dt.seen (p := fun b => w.heap.size ≤ b ∧ ∀ d ∈ L, d.at_ ≠ some b) (fun b i v hb hc => ?_) t ht ha
  have hlt := cell_lt hc
  have h2 : w'.heap[b]? = some (w'.heap[b]'hlt) := Array.getElem?_eq_getElem hlt
  have h3 : Ck.obj b (w'.heap[b]'hlt) ∈ others w w' L := List.mem_filter.2 ⟨qjd hb.1 (by have := hb.1; simp only at *; omega) h2, decide_eq_true fun d hd b' e => by cases e; exact hb.2 d hd⟩
  have h4 := (h9.all _ h3).2
  unfold World.cell? at hc ⊢
  simp only at hc ⊢
  rw [h4, ← h2]; exact hc
/-- A row of data that a call has made, and what they stand by. -/
theorem Mg.data {w0 w w' : World} {L : List Ck} {c : Ck} (hM : Mg w0 w L) (n : Nat) (hnb : jk L) (h : Mg w w' [c]) (hc : jk [c]) : Mg w0 w' (c :: (L.take n ++ (others w w' [c] ++ L.drop n))) := by
  have h1 := hM.both (h.fill hc) hnb (jz ul hc)
  refine h1.perm ?_
  rw [List.append_assoc]
  refine List.perm_append_comm.trans ?_
  show (c :: (L ++ others w w' [c])).Perm _
  refine List.Perm.cons _ ?_
  have e : L ++ others w w' [c] = L.take n ++ (L.drop n ++ others w w' [c]) := by rw [← List.append_assoc, List.take_append_drop]
  rw [e]
  exact List.Perm.append_left _ List.perm_append_comm
section
variable {P : Program} {w0 w : World} {L : List Ck} {l : List (Nat × Value)} {dst : Option Tmp} {ty : TypeId} {pos : String} {after : Array Edge} {guard : Option (Nat × Bool)} {v : Value}
/-- A cell of a struct in a row of one's own. -/
theorem qef {α : Type} {f : α → List Value} {m : Nat} (hf : ∀ x, (f x).length = m) (hm : 0 < m) (hM : Mg w0 w L) (k : Nat) {e : TypeId} {n ca b o i j o' : Nat} {so : Option Addr} {xs : List α} {x : α} (hk : L[k]? = some (.row e m (.slice so n ca) n (qj f xs))) (hi : xs[i]? = some x) (hso : so = some ⟨b, o, none⟩) (hj : (f x)[j]? = some v) {t : TypeId} (ht : Is1 P t) {y : Operand} (hy : ev l y = some (.pointer (some ⟨b, o', none⟩))) (ho : o' = o + i * m + j) : Does P l ⟨dst, .load t y, ty, pos, after, guard⟩ w v w := by
  obtain ⟨b', o'', e1, h1⟩ := yx hf hm (rc_own (hM.has k hk)) hi
  rw [hso] at e1
  cases e1
  subst ho
  exact jr hy (jy ht (h1.2 j v hj))
end
theorem RcD_is1_26 : Is1 Tryz.prog 26 := ⟨⟨_, Tryz.underlying26, rfl⟩, by kernel_rfl⟩
theorem RcD_is1_3 : Is1 Tryz.prog 3 := ⟨⟨_, Tryz.underlying3, rfl⟩, by kernel_rfl⟩
theorem RcD_is1_30 : Is1 Tryz.prog 30 := ⟨⟨_, Tryz.underlying30, rfl⟩, by kernel_rfl⟩
theorem RcD_is1_31 : Is1 Tryz.prog 31 := ⟨⟨_, Tryz.underlying31, rfl⟩, by kernel_rfl⟩
theorem RcD_is1_34 : Is1 Tryz.prog 34 := ⟨⟨_, Tryz.underlying34, rfl⟩, by kernel_rfl⟩
theorem RcD_is1_4 : Is1 Tryz.prog 4 := ⟨⟨_, Tryz.underlying4, rfl⟩, by kernel_rfl⟩
theorem RcD_is1_71 : Is1 Tryz.prog 71 := ⟨⟨_, Tryz.underlying71, rfl⟩, by kernel_rfl⟩
theorem RcD_is1_9 : Is1 Tryz.prog 9 := ⟨⟨_, Tryz.underlying9, rfl⟩, by kernel_rfl⟩
theorem RcD_fld_33_1 : FieldAt Tryz.prog 33 1 1 := ⟨_, _, Tryz.underlying33, rfl, rfl, by kernel_rfl⟩
theorem RcD_fld_33_2 : FieldAt Tryz.prog 33 2 2 := ⟨_, _, Tryz.underlying33, rfl, rfl, by kernel_rfl⟩
theorem RcD_fld_33_3 : FieldAt Tryz.prog 33 3 3 := ⟨_, _, Tryz.underlying33, rfl, rfl, by kernel_rfl⟩
theorem RcD_fld_33_4 : FieldAt Tryz.prog 33 4 4 := ⟨_, _, Tryz.underlying33, rfl, rfl, by kernel_rfl⟩
theorem RcD_fld_33_6 : FieldAt Tryz.prog 33 6 6 := ⟨_, _, Tryz.underlying33, rfl, rfl, by kernel_rfl⟩
theorem RcD_fld_73_0 : FieldAt Tryz.prog 73 0 0 := ⟨_, _, Tryz.underlying73, rfl, rfl, by kernel_rfl⟩
theorem RcD_fld_73_1 : FieldAt Tryz.prog 73 1 1 := ⟨_, _, Tryz.underlying73, rfl, rfl, by kernel_rfl⟩
theorem RcD_fld_86_1 : FieldAt Tryz.prog 86 1 1 := ⟨_, _, Tryz.underlying86, rfl, rfl, by kernel_rfl⟩
theorem RcD_isS_33 : IsS Tryz.prog 33 7 := ⟨⟨_, Tryz.underlying33⟩, by kernel_rfl⟩
theorem RcD_isS_42 : IsS Tryz.prog 42 11 := ⟨⟨_, Tryz.underlying42⟩, by kernel_rfl⟩
set_option maxHeartbeats 2000000 in
theorem zji {w0 w : World} {b tc rc : Nat} {tz ro : Option Addr} {ts : List Ty} {rs : List Rk} {Y : List Ck} (hY : jk Y) (hW : WS (ts.map Ty.k) (rs.map Rk.k)) (hsr : ∀ w1, Mg w0 w1 (.obj b (.cells #[.slice tz ts.length tc, .slice ro rs.length rc] 73) :: .row 33 7 (.slice tz ts.length tc) ts.length (qj Ty.c ts) :: .row 86 2 (.slice ro rs.length rc) rs.length (qj Rk.c rs) :: Y) → SR w1 b tz tc ts ro rc rs) (hM0 : Mg w0 w (.obj b (.cells #[.slice tz ts.length tc, .slice ro rs.length rc] 73) :: .row 33 7 (.slice tz ts.length tc) ts.length (qj Ty.c ts) :: .row 86 2 (.slice ro rs.length rc) rs.length (qj Rk.c rs) :: Y)) {u : Ty} (hU : ∀ w1, Mg w0 w1 Y → TyR w1 u) (hul : u.fs.length ≤ 2000000) (hum : u.ms.length ≤ 2000000) (hz1 : u.nm.size ≤ 281474976710656) (hz2 : u.ui.size ≤ 281474976710656) (huz : ∀ s ∈ u.fs, s.size ≤ 281474976710656) (hg : gdB ts.length u.k = true) (h0 : ¬ 0 ≤ uix (ts.map Ty.k) u.ui) (hsl : slP (ts.map Ty.k) u.par = false) (hc : cnt (ts.map Ty.k) u.par + u.fs.length ≤ 16) (hn : ts.length < 4096) : Calls Tryz.prog 8 #[.pointer (some ⟨b, 0, none⟩), .agg #[.string u.nm, .int .i64 u.par, .slice u.fo u.fs.length u.fc, .slice u.mo u.ms.length u.mc, .bool u.sl, .bool u.op, .string u.ui]] w fun e w' => ∃ (t2 : Ty) (tz' : Option Addr) (tc' : Nat), e = .returned (.tuple #[.int .i64 ((ts.length : Nat) : Int), .int .i64 0]) ∧ t2.k = u.k ∧ Mg w0 w' (.obj b (.cells #[.slice tz' ((ts ++ [t2]).length) tc', .slice ro rs.length rc] 73) :: .row 33 7 (.slice tz' ((ts ++ [t2]).length) tc') ((ts ++ [t2]).length) (qj Ty.c (ts ++ [t2])) :: .row 86 2 (.slice ro rs.length rc) rs.length (qj Rk.c rs) :: .row 9 1 (.slice t2.fo t2.fs.length t2.fc) t2.fs.length (E.strC t2.fs) :: .row 4 1 (.slice t2.mo t2.ms.length t2.mc) t2.ms.length (E.boolC t2.ms) :: Y) := by
 have hkl := hW.kl
 have hrl := hW.rl
 rw [List.length_map] at hkl hrl
 obtain ⟨hg1, hg2, hg3, hg4⟩ := znf hg
 rw [show u.k.par = u.par from rfl] at hg3 hg4
 have M : Mg w0 w (.obj b (.cells #[.slice tz ts.length tc, .slice ro rs.length rc] 73) :: .row 33 7 (.slice tz ts.length tc) ts.length (qj Ty.c ts) :: .row 86 2 (.slice ro rs.length rc) rs.length (qj Rk.c rs) :: Y) := hM0
 refine qx (l := [(0, .pointer (some ⟨b, 0, none⟩)), (1, .agg #[.string u.nm, .int .i64 u.par, .slice u.fo u.fs.length u.fc, .slice u.mo u.ms.length u.mc, .bool u.sl, .bool u.op, .string u.ui])]) Tryz.func8 rfl Tryz.ntmps8 rfl rfl ?_
 intro Q hret hnorm hP a A
 refine wsk fun K1 hK1 => wrl (jb (vs := [.string u.nm, .int .i64 u.par, .slice u.fo u.fs.length u.fc, .slice u.mo u.ms.length u.mc, .bool u.sl, .bool u.op, .string u.ui]) (t := 33) A M rfl rfl rfl pg (zh rfl rfl) (by decide) ?_)
 intro g2 w3 M a A
 iterate 2 refine sda A λa A↦?_
 refine qa (hK1 _ _ (wsk fun K4 hK4 => wsk fun K5 hK5 => wrl (sdm A λa A↦?_)))
 refine sdo (v := .bool false) A (qi rfl rfl (fun w => by kernel_rfl)) λa A↦?_
 iterate 2 refine sdm A λa A↦?_
 refine sdo A (qy M RcD_isS_33 rfl 0 rfl (cs := [.string u.nm, .int .i64 u.par, .slice u.fo u.fs.length u.fc, .slice u.mo u.ms.length u.mc, .bool u.sl, .bool u.op, .string u.ui]) rfl rfl) λa A↦?_
 refine gcl A M (ef rfl rfl) (qgb (hsr _ ((show Mg _ _ (.obj b (.cells #[.slice tz ts.length tc, .slice ro rs.length rc] 73) :: .row 33 7 (.slice tz ts.length tc) ts.length (qj Ty.c ts) :: .row 86 2 (.slice ro rs.length rc) rs.length (qj Rk.c rs) :: Y) from (M.dropn 1)))) hW (hU _ (M.dropn 4)) hul huz hg) fun w7 hb6 M a A => ?_
 refine sdo (v := .bool false) A (zj rfl zq) λa A↦?_
 refine sdk (v := .bool false) A λa A↦?_
 refine qa (hK5 _ _ (wp_cond_false (A.ev rfl) ?_))
 refine wp_skip (hK4 _ _ (wsk fun K8 hK8 => wsk fun K9 hK9 => wrl (sdm A λa A↦?_)))
 refine sdo (v := .pointer (some ⟨g2, 6, none⟩)) A (qb RcD_fld_33_6 rfl rfl) λa A↦?_
 refine sdo A (qh M RcD_is1_9 rfl 0 rfl rfl) λa A↦?_
 refine gcl A M (ef rfl rfl) (qgf (hsr _ ((show Mg _ _ (.obj b (.cells #[.slice tz ts.length tc, .slice ro rs.length rc] 73) :: .row 33 7 (.slice tz ts.length tc) ts.length (qj Ty.c ts) :: .row 86 2 (.slice ro rs.length rc) rs.length (qj Rk.c rs) :: Y) from (M.dropn 1)))) hW) fun w11 hb10 M a A => ?_
 refine sda A λa A↦?_
 refine qa (hK9 _ _ (wsk fun K12 hK12 => wrl (sdm A λa A↦?_)))
 refine sdo (v := .bool false) A (qi rfl rfl (fun w => (zk w).trans (by rw [show (decide (0 ≤ uix (ts.map Ty.k) u.ui)) = false from (decide_eq_false h0)]))) λa A↦?_
 refine qa (hK12 _ _ (wp_cond_false (A.ev rfl) ?_))
 refine wp_skip (hK8 _ _ (wsk fun K13 hK13 => wp_block (wsk fun K14 hK14 => zn (S := fun w1 => Mg w0 w1 (.obj g2 (.cells #[.string u.nm, .int .i64 u.par, .slice u.fo u.fs.length u.fc, .slice u.mo u.ms.length u.mc, .bool u.sl, .bool u.op, .string u.ui] 33) :: .obj b (.cells #[.slice tz ts.length tc, .slice ro rs.length rc] 73) :: .row 33 7 (.slice tz ts.length tc) ts.length (qj Ty.c ts) :: [])) (by kernel_rfl) ?_)))
 replace M := M.drew
 refine qe (v := .pointer (some ⟨g2, 1, none⟩)) A 0 rfl rfl rfl rfl hP (M.sub (cc (cc (cc (cn (List.nil_sublist _)))))) (fun w1 M => qb RcD_fld_33_1 rfl rfl) λa A↦?_
 refine qe A 1 rfl rfl rfl rfl hP (M.sub (cc (cc (cc (cn (List.nil_sublist _)))))) (fun w1 M => qh M RcD_is1_3 rfl 0 rfl rfl) λa A↦?_
 rcases tf ((u.par != -1)) with hb15 | hb15
 ·
  have hb15' := bne_iff_ne.1 hb15
  refine qe (v := .bool true) A 2 rfl rfl rfl rfl hP (M.sub (cc (cc (cc (cn (List.nil_sublist _)))))) (fun w1 M => qi rfl rfl (fun w => (zi w).trans (by rw [hb15]))) λa A↦?_
  refine qe A 3 rfl rfl rfl rfl hP (M.sub (cc (cc (cc (cn (List.nil_sublist _)))))) (fun w1 M => qr rfl) λa A↦?_
  refine qe A 4 rfl rfl rfl rfl hP (M.sub (cc (cc (cc (cn (List.nil_sublist _)))))) (fun w1 M => qr rfl) λa A↦?_
  refine qe A 5 rfl rfl rfl rfl hP (M.sub (cc (cc (cc (cn (List.nil_sublist _)))))) (fun w1 M => zf rfl) λa A↦?_
  refine qe (v := .pointer (some ⟨b, 0, none⟩)) A 6 rfl rfl rfl rfl hP (M.sub (cc (cc (cc (cn (List.nil_sublist _)))))) (fun w1 M => qb RcD_fld_73_0 rfl rfl) λa A↦?_
  refine qe A 7 rfl rfl rfl rfl hP (M.sub (cc (cc (cc (cn (List.nil_sublist _)))))) (fun w1 M => qh M RcD_is1_26 rfl 1 rfl rfl) λa A↦?_
  refine qe (v := .pointer (some ⟨g2, 1, none⟩)) A 8 rfl rfl rfl rfl hP (M.sub (cc (cc (cc (cn (List.nil_sublist _)))))) (fun w1 M => qb RcD_fld_33_1 rfl rfl) λa A↦?_
  refine qe A 9 rfl rfl rfl rfl hP (M.sub (cc (cc (cc (cn (List.nil_sublist _)))))) (fun w1 M => qh M RcD_is1_3 rfl 0 rfl rfl) λa A↦?_
  obtain ⟨ty16, bt17, ot18, it19, mt20, rt21, lt22, Ht23⟩ := ((hsr _ ((show Mg _ _ (.obj b (.cells #[.slice tz ts.length tc, .slice ro rs.length rc] 73) :: .row 33 7 (.slice tz ts.length tc) ts.length (qj Ty.c ts) :: .row 86 2 (.slice ro rs.length rc) rs.length (qj Rk.c rs) :: Y) from (M.dropn 1))))).T.at_ (i := (u.par).toNat) (by omega)
  refine qe (v := .pointer (some ⟨bt17, ot18 + (u.par).toNat * 7, none⟩)) A 10 rfl rfl rfl rfl hP (M.sub (cc (cc (cc (cn (List.nil_sublist _)))))) (fun w1 M => zb (k := (u.par).toNat) Tryz.underlying26 (by kernel_rfl) rfl rfl (by first | rfl | omega) lt22 (by omega)) λa A↦?_
  refine qe (v := .pointer (some ⟨bt17, ot18 + (u.par).toNat * 7 + 4, none⟩)) A 11 rfl rfl rfl rfl hP (M.sub (cc (cc (cc (cn (List.nil_sublist _)))))) (fun w1 M => qb RcD_fld_33_4 rfl rfl) λa A↦?_
  refine qe A 12 rfl rfl rfl rfl hP (M.sub (cc (cc (cc (cn (List.nil_sublist _)))))) (fun w1 M => qef (j := 4) ux (by decide) M 2 rfl it19 lt22 rfl RcD_is1_4 rfl (by omega)) λa A↦?_
  refine qe (v := .bool ty16.sl) A 13 rfl rfl rfl rfl hP (M.sub (cc (cc (cc (cn (List.nil_sublist _)))))) (fun w1 M => je rfl rfl rfl rfl) λa A↦?_
  refine qe A 14 rfl rfl rfl rfl hP (M.sub (cc (cc (cc (cn (List.nil_sublist _)))))) (fun w1 M => qm rfl) λa A↦?_
  refine zd (by kernel_rfl) ?_
  refine hK14 _ _ ?_
  refine wp_cond_split (t := ty16.sl) (A.ev rfl) (fun hc24 => ?_) (fun hc24 => ?_)
  ·
   rw [xr (show 0 ≤ u.par by omega) (zl it19)] at hsl
   rw [show ty16.sl = false from hsl] at hc24
   cases hc24
  ·
   refine wsk fun K25 hK25 => zn (S := fun w1 => Mg w0 w1 (.obj g2 (.cells #[.string u.nm, .int .i64 u.par, .slice u.fo u.fs.length u.fc, .slice u.mo u.ms.length u.mc, .bool u.sl, .bool u.op, .string u.ui] 33) :: .obj b (.cells #[.slice tz ts.length tc, .slice ro rs.length rc] 73) :: [])) (by kernel_rfl) ?_
   replace M := M.drew
   refine qe A 0 rfl rfl rfl rfl hP (M.sub (cc (cc (cn (cn (List.nil_sublist _)))))) (fun w1 M => qr rfl) λa A↦?_
   refine qe (v := .pointer (some ⟨g2, 1, none⟩)) A 1 rfl rfl rfl rfl hP (M.sub (cc (cc (cn (cn (List.nil_sublist _)))))) (fun w1 M => qb RcD_fld_33_1 rfl rfl) λa A↦?_
   refine qe A 2 rfl rfl rfl rfl hP (M.sub (cc (cc (cn (cn (List.nil_sublist _)))))) (fun w1 M => qh M RcD_is1_3 rfl 0 rfl rfl) λa A↦?_
   refine qe (v := .pointer (some ⟨g2, 2, none⟩)) A 4 rfl rfl rfl rfl hP (M.sub (cc (cc (cn (cn (List.nil_sublist _)))))) (fun w1 M => qb RcD_fld_33_2 rfl rfl) λa A↦?_
   refine qe A 5 rfl rfl rfl rfl hP (M.sub (cc (cc (cn (cn (List.nil_sublist _)))))) (fun w1 M => qh M RcD_is1_30 rfl 0 rfl rfl) λa A↦?_
   refine qe (v := .int .i64 (((u.fs.length : Nat) : Int))) A 6 rfl rfl rfl rfl hP (M.sub (cc (cc (cn (cn (List.nil_sublist _)))))) (fun w1 M => qp Tryz.underlying30 rfl) λa A↦?_
   refine qw (by kernel_rfl) (jf A 3 rfl rfl rfl rfl (zg rfl rfl (fun w => by kernel_rfl)) (vk (hsr _ ((show Mg _ _ (.obj b (.cells #[.slice tz ts.length tc, .slice ro rs.length rc] 73) :: .row 33 7 (.slice tz ts.length tc) ts.length (qj Ty.c ts) :: .row 86 2 (.slice ro rs.length rc) rs.length (qj Rk.c rs) :: Y) from (M.dropn 1)))) hW (by omega) (by omega)) ?_)
   rintro _ w27 ⟨rfl, hb26⟩
   replace M := M.call hb26
   refine ⟨_, rfl, (M.sub (cc (cc (cn (cn (List.nil_sublist _)))))), ?_⟩
   intro a A
   refine qe (v := .int .i64 (((cnt (ts.map Ty.k) u.par + u.fs.length : Nat) : Int))) A 7 rfl rfl rfl rfl hP (M.sub (cc (cc (cn (cn (List.nil_sublist _)))))) (fun w1 M => qi rfl rfl (fun w => (jc (jg (by omega) (by omega)) w).trans (by rw [show (((cnt (ts.map Ty.k) u.par : Nat) : Int) + ((u.fs.length : Nat) : Int) : Int) = ((cnt (ts.map Ty.k) u.par + u.fs.length : Nat) : Int) from by omega]))) λa A↦?_
   refine qe (v := .bool false) A 8 rfl rfl rfl rfl hP (M.sub (cc (cc (cn (cn (List.nil_sublist _)))))) (fun w1 M => qi rfl rfl (fun w => (jj w).trans (by rw [show (decide (16 < ((cnt (ts.map Ty.k) u.par + u.fs.length : Nat) : Int))) = false from (decide_eq_false (by omega))]))) λa A↦?_
   refine qe A 9 rfl rfl rfl rfl hP (M.sub (cc (cc (cn (cn (List.nil_sublist _)))))) (fun w1 M => qr rfl) λa A↦?_
   refine qe A 10 rfl rfl rfl rfl hP (M.sub (cc (cc (cn (cn (List.nil_sublist _)))))) (fun w1 M => qr rfl) λa A↦?_
   refine qe A 11 rfl rfl rfl rfl hP (M.sub (cc (cc (cn (cn (List.nil_sublist _)))))) (fun w1 M => zf rfl) λa A↦?_
   refine qe (v := .pointer (some ⟨b, 0, none⟩)) A 12 rfl rfl rfl rfl hP (M.sub (cc (cc (cn (cn (List.nil_sublist _)))))) (fun w1 M => qb RcD_fld_73_0 rfl rfl) λa A↦?_
   refine qe A 13 rfl rfl rfl rfl hP (M.sub (cc (cc (cn (cn (List.nil_sublist _)))))) (fun w1 M => qh M RcD_is1_26 rfl 1 rfl rfl) λa A↦?_
   refine qe (v := .int .i64 (((ts.length : Nat) : Int))) A 14 rfl rfl rfl rfl hP (M.sub (cc (cc (cn (cn (List.nil_sublist _)))))) (fun w1 M => qp Tryz.underlying26 rfl) λa A↦?_
   refine qe (v := .bool false) A 15 rfl rfl rfl rfl hP (M.sub (cc (cc (cn (cn (List.nil_sublist _)))))) (fun w1 M => qi rfl rfl (fun w => (zk w).trans (by rw [show (decide (4096 ≤ ((ts.length : Nat) : Int))) = false from (decide_eq_false (by omega))]))) λa A↦?_
   refine qe (v := .bool false) A 16 rfl rfl rfl rfl hP (M.sub (cc (cc (cn (cn (List.nil_sublist _)))))) (fun w1 M => je rfl rfl rfl rfl) λa A↦?_
   refine qe A 17 rfl rfl rfl rfl hP (M.sub (cc (cc (cn (cn (List.nil_sublist _)))))) (fun w1 M => qm rfl) λa A↦?_
   refine zd (by kernel_rfl) ?_
   refine hK25 _ _ (wp_cond_false (A.ev rfl) ?_)
   refine wp_skip (hK13 _ _ (wsk fun K28 hK28 => zn (S := fun w1 => Mg w0 w1 ([])) (by kernel_rfl) ?_))
   replace M := M.drew
   refine qe A 0 rfl rfl rfl rfl hP (M.sub (cn (cn (cn (cn (List.nil_sublist _)))))) (fun w1 M => qr rfl) λa A↦?_
   refine qe A 1 rfl rfl rfl rfl hP (M.sub (cn (cn (cn (cn (List.nil_sublist _)))))) (fun w1 M => qr rfl) λa A↦?_
   refine qe A 2 rfl rfl rfl rfl hP (M.sub (cn (cn (cn (cn (List.nil_sublist _)))))) (fun w1 M => zf rfl) λa A↦?_
   refine qe (v := .pointer (some ⟨b, 0, none⟩)) A 3 rfl rfl rfl rfl hP (M.sub (cn (cn (cn (cn (List.nil_sublist _)))))) (fun w1 M => qb RcD_fld_73_0 rfl rfl) λa A↦?_
   refine vm (rs := [4, 5]) (by kernel_rfl) (by simp) ⟨?_, ?_, trivial⟩
   ·
    refine vz A 4 rfl rfl rfl rfl (qh M RcD_is1_26 rfl 1 rfl rfl) (M.sub (cn (cn (cn (cn (List.nil_sublist _)))))) λa A↦?_
    refine qw (by kernel_rfl) (vz A 5 rfl rfl rfl rfl (qy M RcD_isS_33 rfl 0 rfl (cs := [.string u.nm, .int .i64 u.par, .slice u.fo u.fs.length u.fc, .slice u.mo u.ms.length u.mc, .bool u.sl, .bool u.op, .string u.ui]) rfl rfl) (M.sub (cn (cn (cn (cn (List.nil_sublist _)))))) ?_)
    intro a A
    refine qw (by kernel_rfl) (jf A 6 rfl rfl rfl rfl (zg rfl rfl (fun w => by kernel_rfl)) (xg (hU _ (M.dropn 4)) hul hum hz1 hz2 huz) ?_)
    rintro _ w30 ⟨t2, rfl, hk2, hM29⟩
    replace M : Mg w0 w30 (.row 9 1 (.slice t2.fo t2.fs.length t2.fc) t2.fs.length (E.strC t2.fs) :: .row 4 1 (.slice t2.mo t2.ms.length t2.mc) t2.ms.length (E.boolC t2.ms) :: .obj g2 (.cells #[.string u.nm, .int .i64 u.par, .slice u.fo u.fs.length u.fc, .slice u.mo u.ms.length u.mc, .bool u.sl, .bool u.op, .string u.ui] 33) :: .obj b (.cells #[.slice tz ts.length tc, .slice ro rs.length rc] 73) :: .row 33 7 (.slice tz ts.length tc) ts.length (qj Ty.c ts) :: .row 86 2 (.slice ro rs.length rc) rs.length (qj Rk.c rs) :: Y) := (M.both hM29 (qg (by simp) (qg (by simp) (qg (by simp) (qg (by simp) hY)))) (qg (by simp) (qg (by simp) (ql qn))))
    refine ⟨_, rfl, (M.sub (cn (cn (cn (cn (cn (cn (List.nil_sublist _)))))))), ?_⟩
    intro a A
    refine qw (by kernel_rfl) (uw (e := 33) (sz := 7) (m := 1) (vs := qj Ty.c [t2]) A M 7 rfl rfl rfl rfl (qs rfl (by kernel_rfl)) rfl rfl (.inl (by decide)) ?_)
    intro g31 w32 M
    refine ⟨(M.sub (cn (cn (cn (cn (cn (cn (cn (List.nil_sublist _))))))))), ?_⟩
    intro a A
    refine qw (by kernel_rfl) (xv (e := 33) (sz := 7) (k := 5) (q := ts.length) (m := 1) (xs := qj Ty.c ts) (news := qj Ty.c [t2]) (L' := fun v33 => (.row 33 7 (.slice (some ⟨g31, 0, none⟩) 1 1) 1 (qj Ty.c [t2]) :: .row 9 1 (.slice t2.fo t2.fs.length t2.fc) t2.fs.length (E.strC t2.fs) :: .row 4 1 (.slice t2.mo t2.ms.length t2.mc) t2.ms.length (E.boolC t2.ms) :: .obj g2 (.cells #[.string u.nm, .int .i64 u.par, .slice u.fo u.fs.length u.fc, .slice u.mo u.ms.length u.mc, .bool u.sl, .bool u.op, .string u.ui] 33) :: .obj b (.cells #[.slice tz ts.length tc, .slice ro rs.length rc] 73) :: .row 33 7 (v33) (ts.length + 1) (qj Ty.c ts ++ qj Ty.c [t2]) :: .row 86 2 (.slice ro rs.length rc) rs.length (qj Rk.c rs) :: Y)) A 8 rfl rfl rfl rfl (jp (z := .agg #[.string (⟨#[]⟩), .int .i64 0, .slice none 0 0, .slice none 0 0, .bool false, .bool false, .string (⟨#[]⟩)]) (sz := 7) (by_ := 96) Tryz.underlying26 (by kernel_rfl) rfl rfl rfl M 5 rfl rfl rfl rfl (rc_own (M.has 0 rfl)) (vb _) (by omega)) (fun _ => rfl) ?_)
    intro v33 w34 M
    replace M : Mg w0 w34 (.row 33 7 (.slice (some ⟨g31, 0, none⟩) 1 1) 1 (qj Ty.c [t2]) :: .row 9 1 (.slice t2.fo t2.fs.length t2.fc) t2.fs.length (E.strC t2.fs) :: .row 4 1 (.slice t2.mo t2.ms.length t2.mc) t2.ms.length (E.boolC t2.ms) :: .obj g2 (.cells #[.string u.nm, .int .i64 u.par, .slice u.fo u.fs.length u.fc, .slice u.mo u.ms.length u.mc, .bool u.sl, .bool u.op, .string u.ui] 33) :: .obj b (.cells #[.slice tz ts.length tc, .slice ro rs.length rc] 73) :: .row 33 7 (v33) ((ts ++ [t2]).length) (qj Ty.c (ts ++ [t2])) :: .row 86 2 (.slice ro rs.length rc) rs.length (qj Rk.c rs) :: Y) := by
     have h9 := M
     rw [← ji] at h9
     rw [List.length_append]
     exact h9
    obtain ⟨so35, ca36, rfl⟩ := zv (M.has 5 rfl)
    have hln : (ts ++ [t2]).length = ts.length + 1 := by rw [List.length_append]; rfl
    refine ⟨(M.sub (cn (cn (cn (cn (cn (cn (cn (List.nil_sublist _))))))))), ?_⟩
    intro a A
    refine qe A 9 rfl rfl rfl rfl hP (M.sub (cn (cn (cn (cn (cn (cn (cn (List.nil_sublist _))))))))) (fun w1 M => zf rfl) λa A↦?_
    refine qe (v := .pointer (some ⟨b, 0, none⟩)) A 10 rfl rfl rfl rfl hP (M.sub (cn (cn (cn (cn (cn (cn (cn (List.nil_sublist _))))))))) (fun w1 M => qb RcD_fld_73_0 rfl rfl) λa A↦?_
    refine qw (by kernel_rfl) (zx (us := [.slice so35 ((ts ++ [t2]).length) ca36, .slice ro rs.length rc]) (L' := (.row 33 7 (.slice (some ⟨g31, 0, none⟩) 1 1) 1 (qj Ty.c [t2]) :: .row 9 1 (.slice t2.fo t2.fs.length t2.fc) t2.fs.length (E.strC t2.fs) :: .row 4 1 (.slice t2.mo t2.ms.length t2.mc) t2.ms.length (E.boolC t2.ms) :: .obj g2 (.cells #[.string u.nm, .int .i64 u.par, .slice u.fo u.fs.length u.fc, .slice u.mo u.ms.length u.mc, .bool u.sl, .bool u.op, .string u.ui] 33) :: .obj b (.cells #[.slice so35 ((ts ++ [t2]).length) ca36, .slice ro rs.length rc] 73) :: .row 33 7 (.slice so35 ((ts ++ [t2]).length) ca36) ((ts ++ [t2]).length) (qj Ty.c (ts ++ [t2])) :: .row 86 2 (.slice ro rs.length rc) rs.length (qj Rk.c rs) :: Y)) A M 11 rfl rfl rfl (qz rfl rfl rfl (by kernel_rfl) M 4 rfl rfl rfl) 4 rfl rfl rfl ?_)
    intro w37 M
    refine ⟨(M.sub (cn (cn (cn (cn (cn (cn (cn (List.nil_sublist _))))))))), ?_⟩
    refine zd (by kernel_rfl) ?_
    refine hK28 _ _ (wsk fun K38 hK38 => wrl (sdm A λa A↦?_))
    refine sdo A (zf rfl) λa A↦?_
    refine sdo (v := .pointer (some ⟨b, 0, none⟩)) A (qb RcD_fld_73_0 rfl rfl) λa A↦?_
    refine sdo A (qh M RcD_is1_26 rfl 4 rfl rfl) λa A↦?_
    refine sdo A (qp Tryz.underlying26 rfl) λa A↦?_
    refine sdo (v := .int .i64 ((((ts ++ [t2]).length - 1 : Nat) : Int))) A (qi rfl rfl (fun w => (xb (jg (by omega) (by omega)) w).trans (by rw [show ((((ts ++ [t2]).length : Nat) : Int) - 1 : Int) = (((ts ++ [t2]).length - 1 : Nat) : Int) from by omega]))) λa A↦?_
    iterate 2 refine sda A λa A↦?_
    refine qa (hK38 _ _ (wp_ret (hret _ _ (en2 A rfl (qf rfl) (qf rfl) ?_))))
    replace M : Mg w0 w37 (.row 4 1 (.slice t2.mo t2.ms.length t2.mc) t2.ms.length (E.boolC t2.ms) :: .row 33 7 (.slice (some ⟨g31, 0, none⟩) 1 1) 1 (qj Ty.c [t2]) :: .row 9 1 (.slice t2.fo t2.fs.length t2.fc) t2.fs.length (E.strC t2.fs) :: .obj g2 (.cells #[.string u.nm, .int .i64 u.par, .slice u.fo u.fs.length u.fc, .slice u.mo u.ms.length u.mc, .bool u.sl, .bool u.op, .string u.ui] 33) :: .obj b (.cells #[.slice so35 ((ts ++ [t2]).length) ca36, .slice ro rs.length rc] 73) :: .row 33 7 (.slice so35 ((ts ++ [t2]).length) ca36) ((ts ++ [t2]).length) (qj Ty.c (ts ++ [t2])) :: .row 86 2 (.slice ro rs.length rc) rs.length (qj Rk.c rs) :: Y) := M.bring 2 rfl rfl
    replace M : Mg w0 w37 (.row 9 1 (.slice t2.fo t2.fs.length t2.fc) t2.fs.length (E.strC t2.fs) :: .row 4 1 (.slice t2.mo t2.ms.length t2.mc) t2.ms.length (E.boolC t2.ms) :: .row 33 7 (.slice (some ⟨g31, 0, none⟩) 1 1) 1 (qj Ty.c [t2]) :: .obj g2 (.cells #[.string u.nm, .int .i64 u.par, .slice u.fo u.fs.length u.fc, .slice u.mo u.ms.length u.mc, .bool u.sl, .bool u.op, .string u.ui] 33) :: .obj b (.cells #[.slice so35 ((ts ++ [t2]).length) ca36, .slice ro rs.length rc] 73) :: .row 33 7 (.slice so35 ((ts ++ [t2]).length) ca36) ((ts ++ [t2]).length) (qj Ty.c (ts ++ [t2])) :: .row 86 2 (.slice ro rs.length rc) rs.length (qj Rk.c rs) :: Y) := M.bring 2 rfl rfl
    replace M : Mg w0 w37 (.row 86 2 (.slice ro rs.length rc) rs.length (qj Rk.c rs) :: .row 9 1 (.slice t2.fo t2.fs.length t2.fc) t2.fs.length (E.strC t2.fs) :: .row 4 1 (.slice t2.mo t2.ms.length t2.mc) t2.ms.length (E.boolC t2.ms) :: .row 33 7 (.slice (some ⟨g31, 0, none⟩) 1 1) 1 (qj Ty.c [t2]) :: .obj g2 (.cells #[.string u.nm, .int .i64 u.par, .slice u.fo u.fs.length u.fc, .slice u.mo u.ms.length u.mc, .bool u.sl, .bool u.op, .string u.ui] 33) :: .obj b (.cells #[.slice so35 ((ts ++ [t2]).length) ca36, .slice ro rs.length rc] 73) :: .row 33 7 (.slice so35 ((ts ++ [t2]).length) ca36) ((ts ++ [t2]).length) (qj Ty.c (ts ++ [t2])) :: Y) := M.bring 6 rfl rfl
    replace M : Mg w0 w37 (.row 33 7 (.slice so35 ((ts ++ [t2]).length) ca36) ((ts ++ [t2]).length) (qj Ty.c (ts ++ [t2])) :: .row 86 2 (.slice ro rs.length rc) rs.length (qj Rk.c rs) :: .row 9 1 (.slice t2.fo t2.fs.length t2.fc) t2.fs.length (E.strC t2.fs) :: .row 4 1 (.slice t2.mo t2.ms.length t2.mc) t2.ms.length (E.boolC t2.ms) :: .row 33 7 (.slice (some ⟨g31, 0, none⟩) 1 1) 1 (qj Ty.c [t2]) :: .obj g2 (.cells #[.string u.nm, .int .i64 u.par, .slice u.fo u.fs.length u.fc, .slice u.mo u.ms.length u.mc, .bool u.sl, .bool u.op, .string u.ui] 33) :: .obj b (.cells #[.slice so35 ((ts ++ [t2]).length) ca36, .slice ro rs.length rc] 73) :: Y) := M.bring 6 rfl rfl
    replace M : Mg w0 w37 (.obj b (.cells #[.slice so35 ((ts ++ [t2]).length) ca36, .slice ro rs.length rc] 73) :: .row 33 7 (.slice so35 ((ts ++ [t2]).length) ca36) ((ts ++ [t2]).length) (qj Ty.c (ts ++ [t2])) :: .row 86 2 (.slice ro rs.length rc) rs.length (qj Rk.c rs) :: .row 9 1 (.slice t2.fo t2.fs.length t2.fc) t2.fs.length (E.strC t2.fs) :: .row 4 1 (.slice t2.mo t2.ms.length t2.mc) t2.ms.length (E.boolC t2.ms) :: .row 33 7 (.slice (some ⟨g31, 0, none⟩) 1 1) 1 (qj Ty.c [t2]) :: .obj g2 (.cells #[.string u.nm, .int .i64 u.par, .slice u.fo u.fs.length u.fc, .slice u.mo u.ms.length u.mc, .bool u.sl, .bool u.op, .string u.ui] 33) :: Y) := M.bring 6 rfl rfl
    replace M : Mg w0 w37 (.obj b (.cells #[.slice so35 ((ts ++ [t2]).length) ca36, .slice ro rs.length rc] 73) :: .row 33 7 (.slice so35 ((ts ++ [t2]).length) ca36) ((ts ++ [t2]).length) (qj Ty.c (ts ++ [t2])) :: .row 86 2 (.slice ro rs.length rc) rs.length (qj Rk.c rs) :: .row 9 1 (.slice t2.fo t2.fs.length t2.fc) t2.fs.length (E.strC t2.fs) :: .row 4 1 (.slice t2.mo t2.ms.length t2.mc) t2.ms.length (E.boolC t2.ms) :: Y) := by
     have h9 := M.sub (cc (cc (cc (cc (cc (cn (cn (.refl _))))))))
     exact h9
    exact ⟨t2, so35, ca36, by rw [show (ts ++ [t2]).length - 1 = ts.length by omega], hk2, M⟩
   ·
    refine vz A 5 rfl rfl rfl rfl (qy M RcD_isS_33 rfl 0 rfl (cs := [.string u.nm, .int .i64 u.par, .slice u.fo u.fs.length u.fc, .slice u.mo u.ms.length u.mc, .bool u.sl, .bool u.op, .string u.ui]) rfl rfl) (M.sub (cn (cn (cn (cn (List.nil_sublist _)))))) λa A↦?_
    refine vm (rs := [4, 6]) (by kernel_rfl) (by simp) ⟨?_, ?_, trivial⟩
    ·
     refine vz A 4 rfl rfl rfl rfl (qh M RcD_is1_26 rfl 1 rfl rfl) (M.sub (cn (cn (cn (cn (List.nil_sublist _)))))) λa A↦?_
     refine qw (by kernel_rfl) (jf A 6 rfl rfl rfl rfl (zg rfl rfl (fun w => by kernel_rfl)) (xg (hU _ (M.dropn 4)) hul hum hz1 hz2 huz) ?_)
     rintro _ w40 ⟨t2, rfl, hk2, hM39⟩
     replace M : Mg w0 w40 (.row 9 1 (.slice t2.fo t2.fs.length t2.fc) t2.fs.length (E.strC t2.fs) :: .row 4 1 (.slice t2.mo t2.ms.length t2.mc) t2.ms.length (E.boolC t2.ms) :: .obj g2 (.cells #[.string u.nm, .int .i64 u.par, .slice u.fo u.fs.length u.fc, .slice u.mo u.ms.length u.mc, .bool u.sl, .bool u.op, .string u.ui] 33) :: .obj b (.cells #[.slice tz ts.length tc, .slice ro rs.length rc] 73) :: .row 33 7 (.slice tz ts.length tc) ts.length (qj Ty.c ts) :: .row 86 2 (.slice ro rs.length rc) rs.length (qj Rk.c rs) :: Y) := (M.both hM39 (qg (by simp) (qg (by simp) (qg (by simp) (qg (by simp) hY)))) (qg (by simp) (qg (by simp) (ql qn))))
     refine ⟨_, rfl, (M.sub (cn (cn (cn (cn (cn (cn (List.nil_sublist _)))))))), ?_⟩
     intro a A
     refine qw (by kernel_rfl) (uw (e := 33) (sz := 7) (m := 1) (vs := qj Ty.c [t2]) A M 7 rfl rfl rfl rfl (qs rfl (by kernel_rfl)) rfl rfl (.inl (by decide)) ?_)
     intro g41 w42 M
     refine ⟨(M.sub (cn (cn (cn (cn (cn (cn (cn (List.nil_sublist _))))))))), ?_⟩
     intro a A
     refine qw (by kernel_rfl) (xv (e := 33) (sz := 7) (k := 5) (q := ts.length) (m := 1) (xs := qj Ty.c ts) (news := qj Ty.c [t2]) (L' := fun v43 => (.row 33 7 (.slice (some ⟨g41, 0, none⟩) 1 1) 1 (qj Ty.c [t2]) :: .row 9 1 (.slice t2.fo t2.fs.length t2.fc) t2.fs.length (E.strC t2.fs) :: .row 4 1 (.slice t2.mo t2.ms.length t2.mc) t2.ms.length (E.boolC t2.ms) :: .obj g2 (.cells #[.string u.nm, .int .i64 u.par, .slice u.fo u.fs.length u.fc, .slice u.mo u.ms.length u.mc, .bool u.sl, .bool u.op, .string u.ui] 33) :: .obj b (.cells #[.slice tz ts.length tc, .slice ro rs.length rc] 73) :: .row 33 7 (v43) (ts.length + 1) (qj Ty.c ts ++ qj Ty.c [t2]) :: .row 86 2 (.slice ro rs.length rc) rs.length (qj Rk.c rs) :: Y)) A 8 rfl rfl rfl rfl (jp (z := .agg #[.string (⟨#[]⟩), .int .i64 0, .slice none 0 0, .slice none 0 0, .bool false, .bool false, .string (⟨#[]⟩)]) (sz := 7) (by_ := 96) Tryz.underlying26 (by kernel_rfl) rfl rfl rfl M 5 rfl rfl rfl rfl (rc_own (M.has 0 rfl)) (vb _) (by omega)) (fun _ => rfl) ?_)
     intro v43 w44 M
     replace M : Mg w0 w44 (.row 33 7 (.slice (some ⟨g41, 0, none⟩) 1 1) 1 (qj Ty.c [t2]) :: .row 9 1 (.slice t2.fo t2.fs.length t2.fc) t2.fs.length (E.strC t2.fs) :: .row 4 1 (.slice t2.mo t2.ms.length t2.mc) t2.ms.length (E.boolC t2.ms) :: .obj g2 (.cells #[.string u.nm, .int .i64 u.par, .slice u.fo u.fs.length u.fc, .slice u.mo u.ms.length u.mc, .bool u.sl, .bool u.op, .string u.ui] 33) :: .obj b (.cells #[.slice tz ts.length tc, .slice ro rs.length rc] 73) :: .row 33 7 (v43) ((ts ++ [t2]).length) (qj Ty.c (ts ++ [t2])) :: .row 86 2 (.slice ro rs.length rc) rs.length (qj Rk.c rs) :: Y) := by
      have h9 := M
      rw [← ji] at h9
      rw [List.length_append]
      exact h9
     obtain ⟨so45, ca46, rfl⟩ := zv (M.has 5 rfl)
     have hln : (ts ++ [t2]).length = ts.length + 1 := by rw [List.length_append]; rfl
     refine ⟨(M.sub (cn (cn (cn (cn (cn (cn (cn (List.nil_sublist _))))))))), ?_⟩
     intro a A
     refine qe A 9 rfl rfl rfl rfl hP (M.sub (cn (cn (cn (cn (cn (cn (cn (List.nil_sublist _))))))))) (fun w1 M => zf rfl) λa A↦?_
     refine qe (v := .pointer (some ⟨b, 0, none⟩)) A 10 rfl rfl rfl rfl hP (M.sub (cn (cn (cn (cn (cn (cn (cn (List.nil_sublist _))))))))) (fun w1 M => qb RcD_fld_73_0 rfl rfl) λa A↦?_
     refine qw (by kernel_rfl) (zx (us := [.slice so45 ((ts ++ [t2]).length) ca46, .slice ro rs.length rc]) (L' := (.row 33 7 (.slice (some ⟨g41, 0, none⟩) 1 1) 1 (qj Ty.c [t2]) :: .row 9 1 (.slice t2.fo t2.fs.length t2.fc) t2.fs.length (E.strC t2.fs) :: .row 4 1 (.slice t2.mo t2.ms.length t2.mc) t2.ms.length (E.boolC t2.ms) :: .obj g2 (.cells #[.string u.nm, .int .i64 u.par, .slice u.fo u.fs.length u.fc, .slice u.mo u.ms.length u.mc, .bool u.sl, .bool u.op, .string u.ui] 33) :: .obj b (.cells #[.slice so45 ((ts ++ [t2]).length) ca46, .slice ro rs.length rc] 73) :: .row 33 7 (.slice so45 ((ts ++ [t2]).length) ca46) ((ts ++ [t2]).length) (qj Ty.c (ts ++ [t2])) :: .row 86 2 (.slice ro rs.length rc) rs.length (qj Rk.c rs) :: Y)) A M 11 rfl rfl rfl (qz rfl rfl rfl (by kernel_rfl) M 4 rfl rfl rfl) 4 rfl rfl rfl ?_)
     intro w47 M
     refine ⟨(M.sub (cn (cn (cn (cn (cn (cn (cn (List.nil_sublist _))))))))), ?_⟩
     refine zd (by kernel_rfl) ?_
     refine hK28 _ _ (wsk fun K48 hK48 => wrl (sdm A λa A↦?_))
     refine sdo A (zf rfl) λa A↦?_
     refine sdo (v := .pointer (some ⟨b, 0, none⟩)) A (qb RcD_fld_73_0 rfl rfl) λa A↦?_
     refine sdo A (qh M RcD_is1_26 rfl 4 rfl rfl) λa A↦?_
     refine sdo A (qp Tryz.underlying26 rfl) λa A↦?_
     refine sdo (v := .int .i64 ((((ts ++ [t2]).length - 1 : Nat) : Int))) A (qi rfl rfl (fun w => (xb (jg (by omega) (by omega)) w).trans (by rw [show ((((ts ++ [t2]).length : Nat) : Int) - 1 : Int) = (((ts ++ [t2]).length - 1 : Nat) : Int) from by omega]))) λa A↦?_
     iterate 2 refine sda A λa A↦?_
     refine qa (hK48 _ _ (wp_ret (hret _ _ (en2 A rfl (qf rfl) (qf rfl) ?_))))
     replace M : Mg w0 w47 (.row 4 1 (.slice t2.mo t2.ms.length t2.mc) t2.ms.length (E.boolC t2.ms) :: .row 33 7 (.slice (some ⟨g41, 0, none⟩) 1 1) 1 (qj Ty.c [t2]) :: .row 9 1 (.slice t2.fo t2.fs.length t2.fc) t2.fs.length (E.strC t2.fs) :: .obj g2 (.cells #[.string u.nm, .int .i64 u.par, .slice u.fo u.fs.length u.fc, .slice u.mo u.ms.length u.mc, .bool u.sl, .bool u.op, .string u.ui] 33) :: .obj b (.cells #[.slice so45 ((ts ++ [t2]).length) ca46, .slice ro rs.length rc] 73) :: .row 33 7 (.slice so45 ((ts ++ [t2]).length) ca46) ((ts ++ [t2]).length) (qj Ty.c (ts ++ [t2])) :: .row 86 2 (.slice ro rs.length rc) rs.length (qj Rk.c rs) :: Y) := M.bring 2 rfl rfl
     replace M : Mg w0 w47 (.row 9 1 (.slice t2.fo t2.fs.length t2.fc) t2.fs.length (E.strC t2.fs) :: .row 4 1 (.slice t2.mo t2.ms.length t2.mc) t2.ms.length (E.boolC t2.ms) :: .row 33 7 (.slice (some ⟨g41, 0, none⟩) 1 1) 1 (qj Ty.c [t2]) :: .obj g2 (.cells #[.string u.nm, .int .i64 u.par, .slice u.fo u.fs.length u.fc, .slice u.mo u.ms.length u.mc, .bool u.sl, .bool u.op, .string u.ui] 33) :: .obj b (.cells #[.slice so45 ((ts ++ [t2]).length) ca46, .slice ro rs.length rc] 73) :: .row 33 7 (.slice so45 ((ts ++ [t2]).length) ca46) ((ts ++ [t2]).length) (qj Ty.c (ts ++ [t2])) :: .row 86 2 (.slice ro rs.length rc) rs.length (qj Rk.c rs) :: Y) := M.bring 2 rfl rfl
     replace M : Mg w0 w47 (.row 86 2 (.slice ro rs.length rc) rs.length (qj Rk.c rs) :: .row 9 1 (.slice t2.fo t2.fs.length t2.fc) t2.fs.length (E.strC t2.fs) :: .row 4 1 (.slice t2.mo t2.ms.length t2.mc) t2.ms.length (E.boolC t2.ms) :: .row 33 7 (.slice (some ⟨g41, 0, none⟩) 1 1) 1 (qj Ty.c [t2]) :: .obj g2 (.cells #[.string u.nm, .int .i64 u.par, .slice u.fo u.fs.length u.fc, .slice u.mo u.ms.length u.mc, .bool u.sl, .bool u.op, .string u.ui] 33) :: .obj b (.cells #[.slice so45 ((ts ++ [t2]).length) ca46, .slice ro rs.length rc] 73) :: .row 33 7 (.slice so45 ((ts ++ [t2]).length) ca46) ((ts ++ [t2]).length) (qj Ty.c (ts ++ [t2])) :: Y) := M.bring 6 rfl rfl
     replace M : Mg w0 w47 (.row 33 7 (.slice so45 ((ts ++ [t2]).length) ca46) ((ts ++ [t2]).length) (qj Ty.c (ts ++ [t2])) :: .row 86 2 (.slice ro rs.length rc) rs.length (qj Rk.c rs) :: .row 9 1 (.slice t2.fo t2.fs.length t2.fc) t2.fs.length (E.strC t2.fs) :: .row 4 1 (.slice t2.mo t2.ms.length t2.mc) t2.ms.length (E.boolC t2.ms) :: .row 33 7 (.slice (some ⟨g41, 0, none⟩) 1 1) 1 (qj Ty.c [t2]) :: .obj g2 (.cells #[.string u.nm, .int .i64 u.par, .slice u.fo u.fs.length u.fc, .slice u.mo u.ms.length u.mc, .bool u.sl, .bool u.op, .string u.ui] 33) :: .obj b (.cells #[.slice so45 ((ts ++ [t2]).length) ca46, .slice ro rs.length rc] 73) :: Y) := M.bring 6 rfl rfl
     replace M : Mg w0 w47 (.obj b (.cells #[.slice so45 ((ts ++ [t2]).length) ca46, .slice ro rs.length rc] 73) :: .row 33 7 (.slice so45 ((ts ++ [t2]).length) ca46) ((ts ++ [t2]).length) (qj Ty.c (ts ++ [t2])) :: .row 86 2 (.slice ro rs.length rc) rs.length (qj Rk.c rs) :: .row 9 1 (.slice t2.fo t2.fs.length t2.fc) t2.fs.length (E.strC t2.fs) :: .row 4 1 (.slice t2.mo t2.ms.length t2.mc) t2.ms.length (E.boolC t2.ms) :: .row 33 7 (.slice (some ⟨g41, 0, none⟩) 1 1) 1 (qj Ty.c [t2]) :: .obj g2 (.cells #[.string u.nm, .int .i64 u.par, .slice u.fo u.fs.length u.fc, .slice u.mo u.ms.length u.mc, .bool u.sl, .bool u.op, .string u.ui] 33) :: Y) := M.bring 6 rfl rfl
     replace M : Mg w0 w47 (.obj b (.cells #[.slice so45 ((ts ++ [t2]).length) ca46, .slice ro rs.length rc] 73) :: .row 33 7 (.slice so45 ((ts ++ [t2]).length) ca46) ((ts ++ [t2]).length) (qj Ty.c (ts ++ [t2])) :: .row 86 2 (.slice ro rs.length rc) rs.length (qj Rk.c rs) :: .row 9 1 (.slice t2.fo t2.fs.length t2.fc) t2.fs.length (E.strC t2.fs) :: .row 4 1 (.slice t2.mo t2.ms.length t2.mc) t2.ms.length (E.boolC t2.ms) :: Y) := by
      have h9 := M.sub (cc (cc (cc (cc (cc (cn (cn (.refl _))))))))
      exact h9
     exact ⟨t2, so45, ca46, by rw [show (ts ++ [t2]).length - 1 = ts.length by omega], hk2, M⟩
    ·
     refine jf A 6 rfl rfl rfl rfl (zg rfl rfl (fun w => by kernel_rfl)) (xg (hU _ (M.dropn 4)) hul hum hz1 hz2 huz) ?_
     rintro _ w50 ⟨t2, rfl, hk2, hM49⟩
     replace M : Mg w0 w50 (.row 9 1 (.slice t2.fo t2.fs.length t2.fc) t2.fs.length (E.strC t2.fs) :: .row 4 1 (.slice t2.mo t2.ms.length t2.mc) t2.ms.length (E.boolC t2.ms) :: .obj g2 (.cells #[.string u.nm, .int .i64 u.par, .slice u.fo u.fs.length u.fc, .slice u.mo u.ms.length u.mc, .bool u.sl, .bool u.op, .string u.ui] 33) :: .obj b (.cells #[.slice tz ts.length tc, .slice ro rs.length rc] 73) :: .row 33 7 (.slice tz ts.length tc) ts.length (qj Ty.c ts) :: .row 86 2 (.slice ro rs.length rc) rs.length (qj Rk.c rs) :: Y) := (M.both hM49 (qg (by simp) (qg (by simp) (qg (by simp) (qg (by simp) hY)))) (qg (by simp) (qg (by simp) (ql qn))))
     refine ⟨_, rfl, (M.sub (cn (cn (cn (cn (cn (cn (List.nil_sublist _)))))))), ?_⟩
     intro a A
     refine vm (rs := [4, 7]) (by kernel_rfl) (by simp) ⟨?_, ?_, trivial⟩
     ·
      refine vz A 4 rfl rfl rfl rfl (qh M RcD_is1_26 rfl 3 rfl rfl) (M.sub (cn (cn (cn (cn (cn (cn (List.nil_sublist _)))))))) λa A↦?_
      refine qw (by kernel_rfl) (uw (e := 33) (sz := 7) (m := 1) (vs := qj Ty.c [t2]) A M 7 rfl rfl rfl rfl (qs rfl (by kernel_rfl)) rfl rfl (.inl (by decide)) ?_)
      intro g51 w52 M
      refine ⟨(M.sub (cn (cn (cn (cn (cn (cn (cn (List.nil_sublist _))))))))), ?_⟩
      intro a A
      refine qw (by kernel_rfl) (xv (e := 33) (sz := 7) (k := 5) (q := ts.length) (m := 1) (xs := qj Ty.c ts) (news := qj Ty.c [t2]) (L' := fun v53 => (.row 33 7 (.slice (some ⟨g51, 0, none⟩) 1 1) 1 (qj Ty.c [t2]) :: .row 9 1 (.slice t2.fo t2.fs.length t2.fc) t2.fs.length (E.strC t2.fs) :: .row 4 1 (.slice t2.mo t2.ms.length t2.mc) t2.ms.length (E.boolC t2.ms) :: .obj g2 (.cells #[.string u.nm, .int .i64 u.par, .slice u.fo u.fs.length u.fc, .slice u.mo u.ms.length u.mc, .bool u.sl, .bool u.op, .string u.ui] 33) :: .obj b (.cells #[.slice tz ts.length tc, .slice ro rs.length rc] 73) :: .row 33 7 (v53) (ts.length + 1) (qj Ty.c ts ++ qj Ty.c [t2]) :: .row 86 2 (.slice ro rs.length rc) rs.length (qj Rk.c rs) :: Y)) A 8 rfl rfl rfl rfl (jp (z := .agg #[.string (⟨#[]⟩), .int .i64 0, .slice none 0 0, .slice none 0 0, .bool false, .bool false, .string (⟨#[]⟩)]) (sz := 7) (by_ := 96) Tryz.underlying26 (by kernel_rfl) rfl rfl rfl M 5 rfl rfl rfl rfl (rc_own (M.has 0 rfl)) (vb _) (by omega)) (fun _ => rfl) ?_)
      intro v53 w54 M
      replace M : Mg w0 w54 (.row 33 7 (.slice (some ⟨g51, 0, none⟩) 1 1) 1 (qj Ty.c [t2]) :: .row 9 1 (.slice t2.fo t2.fs.length t2.fc) t2.fs.length (E.strC t2.fs) :: .row 4 1 (.slice t2.mo t2.ms.length t2.mc) t2.ms.length (E.boolC t2.ms) :: .obj g2 (.cells #[.string u.nm, .int .i64 u.par, .slice u.fo u.fs.length u.fc, .slice u.mo u.ms.length u.mc, .bool u.sl, .bool u.op, .string u.ui] 33) :: .obj b (.cells #[.slice tz ts.length tc, .slice ro rs.length rc] 73) :: .row 33 7 (v53) ((ts ++ [t2]).length) (qj Ty.c (ts ++ [t2])) :: .row 86 2 (.slice ro rs.length rc) rs.length (qj Rk.c rs) :: Y) := by
       have h9 := M
       rw [← ji] at h9
       rw [List.length_append]
       exact h9
      obtain ⟨so55, ca56, rfl⟩ := zv (M.has 5 rfl)
      have hln : (ts ++ [t2]).length = ts.length + 1 := by rw [List.length_append]; rfl
      refine ⟨(M.sub (cn (cn (cn (cn (cn (cn (cn (List.nil_sublist _))))))))), ?_⟩
      intro a A
      refine qe A 9 rfl rfl rfl rfl hP (M.sub (cn (cn (cn (cn (cn (cn (cn (List.nil_sublist _))))))))) (fun w1 M => zf rfl) λa A↦?_
      refine qe (v := .pointer (some ⟨b, 0, none⟩)) A 10 rfl rfl rfl rfl hP (M.sub (cn (cn (cn (cn (cn (cn (cn (List.nil_sublist _))))))))) (fun w1 M => qb RcD_fld_73_0 rfl rfl) λa A↦?_
      refine qw (by kernel_rfl) (zx (us := [.slice so55 ((ts ++ [t2]).length) ca56, .slice ro rs.length rc]) (L' := (.row 33 7 (.slice (some ⟨g51, 0, none⟩) 1 1) 1 (qj Ty.c [t2]) :: .row 9 1 (.slice t2.fo t2.fs.length t2.fc) t2.fs.length (E.strC t2.fs) :: .row 4 1 (.slice t2.mo t2.ms.length t2.mc) t2.ms.length (E.boolC t2.ms) :: .obj g2 (.cells #[.string u.nm, .int .i64 u.par, .slice u.fo u.fs.length u.fc, .slice u.mo u.ms.length u.mc, .bool u.sl, .bool u.op, .string u.ui] 33) :: .obj b (.cells #[.slice so55 ((ts ++ [t2]).length) ca56, .slice ro rs.length rc] 73) :: .row 33 7 (.slice so55 ((ts ++ [t2]).length) ca56) ((ts ++ [t2]).length) (qj Ty.c (ts ++ [t2])) :: .row 86 2 (.slice ro rs.length rc) rs.length (qj Rk.c rs) :: Y)) A M 11 rfl rfl rfl (qz rfl rfl rfl (by kernel_rfl) M 4 rfl rfl rfl) 4 rfl rfl rfl ?_)
      intro w57 M
      refine ⟨(M.sub (cn (cn (cn (cn (cn (cn (cn (List.nil_sublist _))))))))), ?_⟩
      refine zd (by kernel_rfl) ?_
      refine hK28 _ _ (wsk fun K58 hK58 => wrl (sdm A λa A↦?_))
      refine sdo A (zf rfl) λa A↦?_
      refine sdo (v := .pointer (some ⟨b, 0, none⟩)) A (qb RcD_fld_73_0 rfl rfl) λa A↦?_
      refine sdo A (qh M RcD_is1_26 rfl 4 rfl rfl) λa A↦?_
      refine sdo A (qp Tryz.underlying26 rfl) λa A↦?_
      refine sdo (v := .int .i64 ((((ts ++ [t2]).length - 1 : Nat) : Int))) A (qi rfl rfl (fun w => (xb (jg (by omega) (by omega)) w).trans (by rw [show ((((ts ++ [t2]).length : Nat) : Int) - 1 : Int) = (((ts ++ [t2]).length - 1 : Nat) : Int) from by omega]))) λa A↦?_
      iterate 2 refine sda A λa A↦?_
      refine qa (hK58 _ _ (wp_ret (hret _ _ (en2 A rfl (qf rfl) (qf rfl) ?_))))
      replace M : Mg w0 w57 (.row 4 1 (.slice t2.mo t2.ms.length t2.mc) t2.ms.length (E.boolC t2.ms) :: .row 33 7 (.slice (some ⟨g51, 0, none⟩) 1 1) 1 (qj Ty.c [t2]) :: .row 9 1 (.slice t2.fo t2.fs.length t2.fc) t2.fs.length (E.strC t2.fs) :: .obj g2 (.cells #[.string u.nm, .int .i64 u.par, .slice u.fo u.fs.length u.fc, .slice u.mo u.ms.length u.mc, .bool u.sl, .bool u.op, .string u.ui] 33) :: .obj b (.cells #[.slice so55 ((ts ++ [t2]).length) ca56, .slice ro rs.length rc] 73) :: .row 33 7 (.slice so55 ((ts ++ [t2]).length) ca56) ((ts ++ [t2]).length) (qj Ty.c (ts ++ [t2])) :: .row 86 2 (.slice ro rs.length rc) rs.length (qj Rk.c rs) :: Y) := M.bring 2 rfl rfl
      replace M : Mg w0 w57 (.row 9 1 (.slice t2.fo t2.fs.length t2.fc) t2.fs.length (E.strC t2.fs) :: .row 4 1 (.slice t2.mo t2.ms.length t2.mc) t2.ms.length (E.boolC t2.ms) :: .row 33 7 (.slice (some ⟨g51, 0, none⟩) 1 1) 1 (qj Ty.c [t2]) :: .obj g2 (.cells #[.string u.nm, .int .i64 u.par, .slice u.fo u.fs.length u.fc, .slice u.mo u.ms.length u.mc, .bool u.sl, .bool u.op, .string u.ui] 33) :: .obj b (.cells #[.slice so55 ((ts ++ [t2]).length) ca56, .slice ro rs.length rc] 73) :: .row 33 7 (.slice so55 ((ts ++ [t2]).length) ca56) ((ts ++ [t2]).length) (qj Ty.c (ts ++ [t2])) :: .row 86 2 (.slice ro rs.length rc) rs.length (qj Rk.c rs) :: Y) := M.bring 2 rfl rfl
      replace M : Mg w0 w57 (.row 86 2 (.slice ro rs.length rc) rs.length (qj Rk.c rs) :: .row 9 1 (.slice t2.fo t2.fs.length t2.fc) t2.fs.length (E.strC t2.fs) :: .row 4 1 (.slice t2.mo t2.ms.length t2.mc) t2.ms.length (E.boolC t2.ms) :: .row 33 7 (.slice (some ⟨g51, 0, none⟩) 1 1) 1 (qj Ty.c [t2]) :: .obj g2 (.cells #[.string u.nm, .int .i64 u.par, .slice u.fo u.fs.length u.fc, .slice u.mo u.ms.length u.mc, .bool u.sl, .bool u.op, .string u.ui] 33) :: .obj b (.cells #[.slice so55 ((ts ++ [t2]).length) ca56, .slice ro rs.length rc] 73) :: .row 33 7 (.slice so55 ((ts ++ [t2]).length) ca56) ((ts ++ [t2]).length) (qj Ty.c (ts ++ [t2])) :: Y) := M.bring 6 rfl rfl
      replace M : Mg w0 w57 (.row 33 7 (.slice so55 ((ts ++ [t2]).length) ca56) ((ts ++ [t2]).length) (qj Ty.c (ts ++ [t2])) :: .row 86 2 (.slice ro rs.length rc) rs.length (qj Rk.c rs) :: .row 9 1 (.slice t2.fo t2.fs.length t2.fc) t2.fs.length (E.strC t2.fs) :: .row 4 1 (.slice t2.mo t2.ms.length t2.mc) t2.ms.length (E.boolC t2.ms) :: .row 33 7 (.slice (some ⟨g51, 0, none⟩) 1 1) 1 (qj Ty.c [t2]) :: .obj g2 (.cells #[.string u.nm, .int .i64 u.par, .slice u.fo u.fs.length u.fc, .slice u.mo u.ms.length u.mc, .bool u.sl, .bool u.op, .string u.ui] 33) :: .obj b (.cells #[.slice so55 ((ts ++ [t2]).length) ca56, .slice ro rs.length rc] 73) :: Y) := M.bring 6 rfl rfl
      replace M : Mg w0 w57 (.obj b (.cells #[.slice so55 ((ts ++ [t2]).length) ca56, .slice ro rs.length rc] 73) :: .row 33 7 (.slice so55 ((ts ++ [t2]).length) ca56) ((ts ++ [t2]).length) (qj Ty.c (ts ++ [t2])) :: .row 86 2 (.slice ro rs.length rc) rs.length (qj Rk.c rs) :: .row 9 1 (.slice t2.fo t2.fs.length t2.fc) t2.fs.length (E.strC t2.fs) :: .row 4 1 (.slice t2.mo t2.ms.length t2.mc) t2.ms.length (E.boolC t2.ms) :: .row 33 7 (.slice (some ⟨g51, 0, none⟩) 1 1) 1 (qj Ty.c [t2]) :: .obj g2 (.cells #[.string u.nm, .int .i64 u.par, .slice u.fo u.fs.length u.fc, .slice u.mo u.ms.length u.mc, .bool u.sl, .bool u.op, .string u.ui] 33) :: Y) := M.bring 6 rfl rfl
      replace M : Mg w0 w57 (.obj b (.cells #[.slice so55 ((ts ++ [t2]).length) ca56, .slice ro rs.length rc] 73) :: .row 33 7 (.slice so55 ((ts ++ [t2]).length) ca56) ((ts ++ [t2]).length) (qj Ty.c (ts ++ [t2])) :: .row 86 2 (.slice ro rs.length rc) rs.length (qj Rk.c rs) :: .row 9 1 (.slice t2.fo t2.fs.length t2.fc) t2.fs.length (E.strC t2.fs) :: .row 4 1 (.slice t2.mo t2.ms.length t2.mc) t2.ms.length (E.boolC t2.ms) :: Y) := by
       have h9 := M.sub (cc (cc (cc (cc (cc (cn (cn (.refl _))))))))
       exact h9
      exact ⟨t2, so55, ca56, by rw [show (ts ++ [t2]).length - 1 = ts.length by omega], hk2, M⟩
     ·
      refine uw (e := 33) (sz := 7) (m := 1) (vs := qj Ty.c [t2]) A M 7 rfl rfl rfl rfl (qs rfl (by kernel_rfl)) rfl rfl (.inl (by decide)) ?_
      intro g59 w60 M
      refine ⟨(M.sub (cn (cn (cn (cn (cn (cn (cn (List.nil_sublist _))))))))), ?_⟩
      intro a A
      refine qw (by kernel_rfl) (vz A 4 rfl rfl rfl rfl (qh M RcD_is1_26 rfl 4 rfl rfl) (M.sub (cn (cn (cn (cn (cn (cn (cn (List.nil_sublist _))))))))) ?_)
      intro a A
      refine qw (by kernel_rfl) (xv (e := 33) (sz := 7) (k := 5) (q := ts.length) (m := 1) (xs := qj Ty.c ts) (news := qj Ty.c [t2]) (L' := fun v61 => (.row 33 7 (.slice (some ⟨g59, 0, none⟩) 1 1) 1 (qj Ty.c [t2]) :: .row 9 1 (.slice t2.fo t2.fs.length t2.fc) t2.fs.length (E.strC t2.fs) :: .row 4 1 (.slice t2.mo t2.ms.length t2.mc) t2.ms.length (E.boolC t2.ms) :: .obj g2 (.cells #[.string u.nm, .int .i64 u.par, .slice u.fo u.fs.length u.fc, .slice u.mo u.ms.length u.mc, .bool u.sl, .bool u.op, .string u.ui] 33) :: .obj b (.cells #[.slice tz ts.length tc, .slice ro rs.length rc] 73) :: .row 33 7 (v61) (ts.length + 1) (qj Ty.c ts ++ qj Ty.c [t2]) :: .row 86 2 (.slice ro rs.length rc) rs.length (qj Rk.c rs) :: Y)) A 8 rfl rfl rfl rfl (jp (z := .agg #[.string (⟨#[]⟩), .int .i64 0, .slice none 0 0, .slice none 0 0, .bool false, .bool false, .string (⟨#[]⟩)]) (sz := 7) (by_ := 96) Tryz.underlying26 (by kernel_rfl) rfl rfl rfl M 5 rfl rfl rfl rfl (rc_own (M.has 0 rfl)) (vb _) (by omega)) (fun _ => rfl) ?_)
      intro v61 w62 M
      replace M : Mg w0 w62 (.row 33 7 (.slice (some ⟨g59, 0, none⟩) 1 1) 1 (qj Ty.c [t2]) :: .row 9 1 (.slice t2.fo t2.fs.length t2.fc) t2.fs.length (E.strC t2.fs) :: .row 4 1 (.slice t2.mo t2.ms.length t2.mc) t2.ms.length (E.boolC t2.ms) :: .obj g2 (.cells #[.string u.nm, .int .i64 u.par, .slice u.fo u.fs.length u.fc, .slice u.mo u.ms.length u.mc, .bool u.sl, .bool u.op, .string u.ui] 33) :: .obj b (.cells #[.slice tz ts.length tc, .slice ro rs.length rc] 73) :: .row 33 7 (v61) ((ts ++ [t2]).length) (qj Ty.c (ts ++ [t2])) :: .row 86 2 (.slice ro rs.length rc) rs.length (qj Rk.c rs) :: Y) := by
       have h9 := M
       rw [← ji] at h9
       rw [List.length_append]
       exact h9
      obtain ⟨so63, ca64, rfl⟩ := zv (M.has 5 rfl)
      have hln : (ts ++ [t2]).length = ts.length + 1 := by rw [List.length_append]; rfl
      refine ⟨(M.sub (cn (cn (cn (cn (cn (cn (cn (List.nil_sublist _))))))))), ?_⟩
      intro a A
      refine qe A 9 rfl rfl rfl rfl hP (M.sub (cn (cn (cn (cn (cn (cn (cn (List.nil_sublist _))))))))) (fun w1 M => zf rfl) λa A↦?_
      refine qe (v := .pointer (some ⟨b, 0, none⟩)) A 10 rfl rfl rfl rfl hP (M.sub (cn (cn (cn (cn (cn (cn (cn (List.nil_sublist _))))))))) (fun w1 M => qb RcD_fld_73_0 rfl rfl) λa A↦?_
      refine qw (by kernel_rfl) (zx (us := [.slice so63 ((ts ++ [t2]).length) ca64, .slice ro rs.length rc]) (L' := (.row 33 7 (.slice (some ⟨g59, 0, none⟩) 1 1) 1 (qj Ty.c [t2]) :: .row 9 1 (.slice t2.fo t2.fs.length t2.fc) t2.fs.length (E.strC t2.fs) :: .row 4 1 (.slice t2.mo t2.ms.length t2.mc) t2.ms.length (E.boolC t2.ms) :: .obj g2 (.cells #[.string u.nm, .int .i64 u.par, .slice u.fo u.fs.length u.fc, .slice u.mo u.ms.length u.mc, .bool u.sl, .bool u.op, .string u.ui] 33) :: .obj b (.cells #[.slice so63 ((ts ++ [t2]).length) ca64, .slice ro rs.length rc] 73) :: .row 33 7 (.slice so63 ((ts ++ [t2]).length) ca64) ((ts ++ [t2]).length) (qj Ty.c (ts ++ [t2])) :: .row 86 2 (.slice ro rs.length rc) rs.length (qj Rk.c rs) :: Y)) A M 11 rfl rfl rfl (qz rfl rfl rfl (by kernel_rfl) M 4 rfl rfl rfl) 4 rfl rfl rfl ?_)
      intro w65 M
      refine ⟨(M.sub (cn (cn (cn (cn (cn (cn (cn (List.nil_sublist _))))))))), ?_⟩
      refine zd (by kernel_rfl) ?_
      refine hK28 _ _ (wsk fun K66 hK66 => wrl (sdm A λa A↦?_))
      refine sdo A (zf rfl) λa A↦?_
      refine sdo (v := .pointer (some ⟨b, 0, none⟩)) A (qb RcD_fld_73_0 rfl rfl) λa A↦?_
      refine sdo A (qh M RcD_is1_26 rfl 4 rfl rfl) λa A↦?_
      refine sdo A (qp Tryz.underlying26 rfl) λa A↦?_
      refine sdo (v := .int .i64 ((((ts ++ [t2]).length - 1 : Nat) : Int))) A (qi rfl rfl (fun w => (xb (jg (by omega) (by omega)) w).trans (by rw [show ((((ts ++ [t2]).length : Nat) : Int) - 1 : Int) = (((ts ++ [t2]).length - 1 : Nat) : Int) from by omega]))) λa A↦?_
      iterate 2 refine sda A λa A↦?_
      refine qa (hK66 _ _ (wp_ret (hret _ _ (en2 A rfl (qf rfl) (qf rfl) ?_))))
      replace M : Mg w0 w65 (.row 4 1 (.slice t2.mo t2.ms.length t2.mc) t2.ms.length (E.boolC t2.ms) :: .row 33 7 (.slice (some ⟨g59, 0, none⟩) 1 1) 1 (qj Ty.c [t2]) :: .row 9 1 (.slice t2.fo t2.fs.length t2.fc) t2.fs.length (E.strC t2.fs) :: .obj g2 (.cells #[.string u.nm, .int .i64 u.par, .slice u.fo u.fs.length u.fc, .slice u.mo u.ms.length u.mc, .bool u.sl, .bool u.op, .string u.ui] 33) :: .obj b (.cells #[.slice so63 ((ts ++ [t2]).length) ca64, .slice ro rs.length rc] 73) :: .row 33 7 (.slice so63 ((ts ++ [t2]).length) ca64) ((ts ++ [t2]).length) (qj Ty.c (ts ++ [t2])) :: .row 86 2 (.slice ro rs.length rc) rs.length (qj Rk.c rs) :: Y) := M.bring 2 rfl rfl
      replace M : Mg w0 w65 (.row 9 1 (.slice t2.fo t2.fs.length t2.fc) t2.fs.length (E.strC t2.fs) :: .row 4 1 (.slice t2.mo t2.ms.length t2.mc) t2.ms.length (E.boolC t2.ms) :: .row 33 7 (.slice (some ⟨g59, 0, none⟩) 1 1) 1 (qj Ty.c [t2]) :: .obj g2 (.cells #[.string u.nm, .int .i64 u.par, .slice u.fo u.fs.length u.fc, .slice u.mo u.ms.length u.mc, .bool u.sl, .bool u.op, .string u.ui] 33) :: .obj b (.cells #[.slice so63 ((ts ++ [t2]).length) ca64, .slice ro rs.length rc] 73) :: .row 33 7 (.slice so63 ((ts ++ [t2]).length) ca64) ((ts ++ [t2]).length) (qj Ty.c (ts ++ [t2])) :: .row 86 2 (.slice ro rs.length rc) rs.length (qj Rk.c rs) :: Y) := M.bring 2 rfl rfl
      replace M : Mg w0 w65 (.row 86 2 (.slice ro rs.length rc) rs.length (qj Rk.c rs) :: .row 9 1 (.slice t2.fo t2.fs.length t2.fc) t2.fs.length (E.strC t2.fs) :: .row 4 1 (.slice t2.mo t2.ms.length t2.mc) t2.ms.length (E.boolC t2.ms) :: .row 33 7 (.slice (some ⟨g59, 0, none⟩) 1 1) 1 (qj Ty.c [t2]) :: .obj g2 (.cells #[.string u.nm, .int .i64 u.par, .slice u.fo u.fs.length u.fc, .slice u.mo u.ms.length u.mc, .bool u.sl, .bool u.op, .string u.ui] 33) :: .obj b (.cells #[.slice so63 ((ts ++ [t2]).length) ca64, .slice ro rs.length rc] 73) :: .row 33 7 (.slice so63 ((ts ++ [t2]).length) ca64) ((ts ++ [t2]).length) (qj Ty.c (ts ++ [t2])) :: Y) := M.bring 6 rfl rfl
      replace M : Mg w0 w65 (.row 33 7 (.slice so63 ((ts ++ [t2]).length) ca64) ((ts ++ [t2]).length) (qj Ty.c (ts ++ [t2])) :: .row 86 2 (.slice ro rs.length rc) rs.length (qj Rk.c rs) :: .row 9 1 (.slice t2.fo t2.fs.length t2.fc) t2.fs.length (E.strC t2.fs) :: .row 4 1 (.slice t2.mo t2.ms.length t2.mc) t2.ms.length (E.boolC t2.ms) :: .row 33 7 (.slice (some ⟨g59, 0, none⟩) 1 1) 1 (qj Ty.c [t2]) :: .obj g2 (.cells #[.string u.nm, .int .i64 u.par, .slice u.fo u.fs.length u.fc, .slice u.mo u.ms.length u.mc, .bool u.sl, .bool u.op, .string u.ui] 33) :: .obj b (.cells #[.slice so63 ((ts ++ [t2]).length) ca64, .slice ro rs.length rc] 73) :: Y) := M.bring 6 rfl rfl
      replace M : Mg w0 w65 (.obj b (.cells #[.slice so63 ((ts ++ [t2]).length) ca64, .slice ro rs.length rc] 73) :: .row 33 7 (.slice so63 ((ts ++ [t2]).length) ca64) ((ts ++ [t2]).length) (qj Ty.c (ts ++ [t2])) :: .row 86 2 (.slice ro rs.length rc) rs.length (qj Rk.c rs) :: .row 9 1 (.slice t2.fo t2.fs.length t2.fc) t2.fs.length (E.strC t2.fs) :: .row 4 1 (.slice t2.mo t2.ms.length t2.mc) t2.ms.length (E.boolC t2.ms) :: .row 33 7 (.slice (some ⟨g59, 0, none⟩) 1 1) 1 (qj Ty.c [t2]) :: .obj g2 (.cells #[.string u.nm, .int .i64 u.par, .slice u.fo u.fs.length u.fc, .slice u.mo u.ms.length u.mc, .bool u.sl, .bool u.op, .string u.ui] 33) :: Y) := M.bring 6 rfl rfl
      replace M : Mg w0 w65 (.obj b (.cells #[.slice so63 ((ts ++ [t2]).length) ca64, .slice ro rs.length rc] 73) :: .row 33 7 (.slice so63 ((ts ++ [t2]).length) ca64) ((ts ++ [t2]).length) (qj Ty.c (ts ++ [t2])) :: .row 86 2 (.slice ro rs.length rc) rs.length (qj Rk.c rs) :: .row 9 1 (.slice t2.fo t2.fs.length t2.fc) t2.fs.length (E.strC t2.fs) :: .row 4 1 (.slice t2.mo t2.ms.length t2.mc) t2.ms.length (E.boolC t2.ms) :: Y) := by
       have h9 := M.sub (cc (cc (cc (cc (cc (cn (cn (.refl _))))))))
       exact h9
      exact ⟨t2, so63, ca64, by rw [show (ts ++ [t2]).length - 1 = ts.length by omega], hk2, M⟩
 ·
  have hb15' := bne_eq_false_iff_eq.1 hb15
  refine qe (v := .bool false) A 2 rfl rfl rfl rfl hP (M.sub (cc (cc (cc (cn (List.nil_sublist _)))))) (fun w1 M => qi rfl rfl (fun w => (zi w).trans (by rw [hb15]))) λa A↦?_
  refine qe A 3 rfl rfl rfl rfl hP (M.sub (cc (cc (cc (cn (List.nil_sublist _)))))) (fun w1 M => qr rfl) λa A↦?_
  refine jl A 4 rfl rfl rfl rfl hP (M.sub (cc (cc (cc (cn (List.nil_sublist _)))))) λa A↦?_
  refine jl A 5 rfl rfl rfl rfl hP (M.sub (cc (cc (cc (cn (List.nil_sublist _)))))) λa A↦?_
  refine jl A 6 rfl rfl rfl rfl hP (M.sub (cc (cc (cc (cn (List.nil_sublist _)))))) λa A↦?_
  refine jl A 7 rfl rfl rfl rfl hP (M.sub (cc (cc (cc (cn (List.nil_sublist _)))))) λa A↦?_
  refine jl A 8 rfl rfl rfl rfl hP (M.sub (cc (cc (cc (cn (List.nil_sublist _)))))) λa A↦?_
  refine jl A 9 rfl rfl rfl rfl hP (M.sub (cc (cc (cc (cn (List.nil_sublist _)))))) λa A↦?_
  refine jl A 10 rfl rfl rfl rfl hP (M.sub (cc (cc (cc (cn (List.nil_sublist _)))))) λa A↦?_
  refine jl A 11 rfl rfl rfl rfl hP (M.sub (cc (cc (cc (cn (List.nil_sublist _)))))) λa A↦?_
  refine jl A 12 rfl rfl rfl rfl hP (M.sub (cc (cc (cc (cn (List.nil_sublist _)))))) λa A↦?_
  refine qe (v := .bool false) A 13 rfl rfl rfl rfl hP (M.sub (cc (cc (cc (cn (List.nil_sublist _)))))) (fun w1 M => je rfl rfl rfl rfl) λa A↦?_
  refine qe A 14 rfl rfl rfl rfl hP (M.sub (cc (cc (cc (cn (List.nil_sublist _)))))) (fun w1 M => qm rfl) λa A↦?_
  refine zd (by kernel_rfl) ?_
  refine hK14 _ _ (wp_cond_false (A.ev rfl) ?_)
  refine wsk fun K67 hK67 => zn (S := fun w1 => Mg w0 w1 (.obj g2 (.cells #[.string u.nm, .int .i64 u.par, .slice u.fo u.fs.length u.fc, .slice u.mo u.ms.length u.mc, .bool u.sl, .bool u.op, .string u.ui] 33) :: .obj b (.cells #[.slice tz ts.length tc, .slice ro rs.length rc] 73) :: [])) (by kernel_rfl) ?_
  replace M := M.drew
  refine qe A 0 rfl rfl rfl rfl hP (M.sub (cc (cc (cn (cn (List.nil_sublist _)))))) (fun w1 M => qr rfl) λa A↦?_
  refine qe (v := .pointer (some ⟨g2, 1, none⟩)) A 1 rfl rfl rfl rfl hP (M.sub (cc (cc (cn (cn (List.nil_sublist _)))))) (fun w1 M => qb RcD_fld_33_1 rfl rfl) λa A↦?_
  refine qe A 2 rfl rfl rfl rfl hP (M.sub (cc (cc (cn (cn (List.nil_sublist _)))))) (fun w1 M => qh M RcD_is1_3 rfl 0 rfl rfl) λa A↦?_
  refine qe (v := .pointer (some ⟨g2, 2, none⟩)) A 4 rfl rfl rfl rfl hP (M.sub (cc (cc (cn (cn (List.nil_sublist _)))))) (fun w1 M => qb RcD_fld_33_2 rfl rfl) λa A↦?_
  refine qe A 5 rfl rfl rfl rfl hP (M.sub (cc (cc (cn (cn (List.nil_sublist _)))))) (fun w1 M => qh M RcD_is1_30 rfl 0 rfl rfl) λa A↦?_
  refine qe (v := .int .i64 (((u.fs.length : Nat) : Int))) A 6 rfl rfl rfl rfl hP (M.sub (cc (cc (cn (cn (List.nil_sublist _)))))) (fun w1 M => qp Tryz.underlying30 rfl) λa A↦?_
  refine qw (by kernel_rfl) (jf A 3 rfl rfl rfl rfl (zg rfl rfl (fun w => by kernel_rfl)) (vk (hsr _ ((show Mg _ _ (.obj b (.cells #[.slice tz ts.length tc, .slice ro rs.length rc] 73) :: .row 33 7 (.slice tz ts.length tc) ts.length (qj Ty.c ts) :: .row 86 2 (.slice ro rs.length rc) rs.length (qj Rk.c rs) :: Y) from (M.dropn 1)))) hW (by omega) (by omega)) ?_)
  rintro _ w69 ⟨rfl, hb68⟩
  replace M := M.call hb68
  refine ⟨_, rfl, (M.sub (cc (cc (cn (cn (List.nil_sublist _)))))), ?_⟩
  intro a A
  refine qe (v := .int .i64 (((cnt (ts.map Ty.k) u.par + u.fs.length : Nat) : Int))) A 7 rfl rfl rfl rfl hP (M.sub (cc (cc (cn (cn (List.nil_sublist _)))))) (fun w1 M => qi rfl rfl (fun w => (jc (jg (by omega) (by omega)) w).trans (by rw [show (((cnt (ts.map Ty.k) u.par : Nat) : Int) + ((u.fs.length : Nat) : Int) : Int) = ((cnt (ts.map Ty.k) u.par + u.fs.length : Nat) : Int) from by omega]))) λa A↦?_
  refine qe (v := .bool false) A 8 rfl rfl rfl rfl hP (M.sub (cc (cc (cn (cn (List.nil_sublist _)))))) (fun w1 M => qi rfl rfl (fun w => (jj w).trans (by rw [show (decide (16 < ((cnt (ts.map Ty.k) u.par + u.fs.length : Nat) : Int))) = false from (decide_eq_false (by omega))]))) λa A↦?_
  refine qe A 9 rfl rfl rfl rfl hP (M.sub (cc (cc (cn (cn (List.nil_sublist _)))))) (fun w1 M => qr rfl) λa A↦?_
  refine qe A 10 rfl rfl rfl rfl hP (M.sub (cc (cc (cn (cn (List.nil_sublist _)))))) (fun w1 M => qr rfl) λa A↦?_
  refine qe A 11 rfl rfl rfl rfl hP (M.sub (cc (cc (cn (cn (List.nil_sublist _)))))) (fun w1 M => zf rfl) λa A↦?_
  refine qe (v := .pointer (some ⟨b, 0, none⟩)) A 12 rfl rfl rfl rfl hP (M.sub (cc (cc (cn (cn (List.nil_sublist _)))))) (fun w1 M => qb RcD_fld_73_0 rfl rfl) λa A↦?_
  refine qe A 13 rfl rfl rfl rfl hP (M.sub (cc (cc (cn (cn (List.nil_sublist _)))))) (fun w1 M => qh M RcD_is1_26 rfl 1 rfl rfl) λa A↦?_
  refine qe (v := .int .i64 (((ts.length : Nat) : Int))) A 14 rfl rfl rfl rfl hP (M.sub (cc (cc (cn (cn (List.nil_sublist _)))))) (fun w1 M => qp Tryz.underlying26 rfl) λa A↦?_
  refine qe (v := .bool false) A 15 rfl rfl rfl rfl hP (M.sub (cc (cc (cn (cn (List.nil_sublist _)))))) (fun w1 M => qi rfl rfl (fun w => (zk w).trans (by rw [show (decide (4096 ≤ ((ts.length : Nat) : Int))) = false from (decide_eq_false (by omega))]))) λa A↦?_
  refine qe (v := .bool false) A 16 rfl rfl rfl rfl hP (M.sub (cc (cc (cn (cn (List.nil_sublist _)))))) (fun w1 M => je rfl rfl rfl rfl) λa A↦?_
  refine qe A 17 rfl rfl rfl rfl hP (M.sub (cc (cc (cn (cn (List.nil_sublist _)))))) (fun w1 M => qm rfl) λa A↦?_
  refine zd (by kernel_rfl) ?_
  refine hK67 _ _ (wp_cond_false (A.ev rfl) ?_)
  refine wp_skip (hK13 _ _ (wsk fun K70 hK70 => zn (S := fun w1 => Mg w0 w1 ([])) (by kernel_rfl) ?_))
  replace M := M.drew
  refine qe A 0 rfl rfl rfl rfl hP (M.sub (cn (cn (cn (cn (List.nil_sublist _)))))) (fun w1 M => qr rfl) λa A↦?_
  refine qe A 1 rfl rfl rfl rfl hP (M.sub (cn (cn (cn (cn (List.nil_sublist _)))))) (fun w1 M => qr rfl) λa A↦?_
  refine qe A 2 rfl rfl rfl rfl hP (M.sub (cn (cn (cn (cn (List.nil_sublist _)))))) (fun w1 M => zf rfl) λa A↦?_
  refine qe (v := .pointer (some ⟨b, 0, none⟩)) A 3 rfl rfl rfl rfl hP (M.sub (cn (cn (cn (cn (List.nil_sublist _)))))) (fun w1 M => qb RcD_fld_73_0 rfl rfl) λa A↦?_
  refine vm (rs := [4, 5]) (by kernel_rfl) (by simp) ⟨?_, ?_, trivial⟩
  ·
   refine vz A 4 rfl rfl rfl rfl (qh M RcD_is1_26 rfl 1 rfl rfl) (M.sub (cn (cn (cn (cn (List.nil_sublist _)))))) λa A↦?_
   refine qw (by kernel_rfl) (vz A 5 rfl rfl rfl rfl (qy M RcD_isS_33 rfl 0 rfl (cs := [.string u.nm, .int .i64 u.par, .slice u.fo u.fs.length u.fc, .slice u.mo u.ms.length u.mc, .bool u.sl, .bool u.op, .string u.ui]) rfl rfl) (M.sub (cn (cn (cn (cn (List.nil_sublist _)))))) ?_)
   intro a A
   refine qw (by kernel_rfl) (jf A 6 rfl rfl rfl rfl (zg rfl rfl (fun w => by kernel_rfl)) (xg (hU _ (M.dropn 4)) hul hum hz1 hz2 huz) ?_)
   rintro _ w72 ⟨t2, rfl, hk2, hM71⟩
   replace M : Mg w0 w72 (.row 9 1 (.slice t2.fo t2.fs.length t2.fc) t2.fs.length (E.strC t2.fs) :: .row 4 1 (.slice t2.mo t2.ms.length t2.mc) t2.ms.length (E.boolC t2.ms) :: .obj g2 (.cells #[.string u.nm, .int .i64 u.par, .slice u.fo u.fs.length u.fc, .slice u.mo u.ms.length u.mc, .bool u.sl, .bool u.op, .string u.ui] 33) :: .obj b (.cells #[.slice tz ts.length tc, .slice ro rs.length rc] 73) :: .row 33 7 (.slice tz ts.length tc) ts.length (qj Ty.c ts) :: .row 86 2 (.slice ro rs.length rc) rs.length (qj Rk.c rs) :: Y) := (M.both hM71 (qg (by simp) (qg (by simp) (qg (by simp) (qg (by simp) hY)))) (qg (by simp) (qg (by simp) (ql qn))))
   refine ⟨_, rfl, (M.sub (cn (cn (cn (cn (cn (cn (List.nil_sublist _)))))))), ?_⟩
   intro a A
   refine qw (by kernel_rfl) (uw (e := 33) (sz := 7) (m := 1) (vs := qj Ty.c [t2]) A M 7 rfl rfl rfl rfl (qs rfl (by kernel_rfl)) rfl rfl (.inl (by decide)) ?_)
   intro g73 w74 M
   refine ⟨(M.sub (cn (cn (cn (cn (cn (cn (cn (List.nil_sublist _))))))))), ?_⟩
   intro a A
   refine qw (by kernel_rfl) (xv (e := 33) (sz := 7) (k := 5) (q := ts.length) (m := 1) (xs := qj Ty.c ts) (news := qj Ty.c [t2]) (L' := fun v75 => (.row 33 7 (.slice (some ⟨g73, 0, none⟩) 1 1) 1 (qj Ty.c [t2]) :: .row 9 1 (.slice t2.fo t2.fs.length t2.fc) t2.fs.length (E.strC t2.fs) :: .row 4 1 (.slice t2.mo t2.ms.length t2.mc) t2.ms.length (E.boolC t2.ms) :: .obj g2 (.cells #[.string u.nm, .int .i64 u.par, .slice u.fo u.fs.length u.fc, .slice u.mo u.ms.length u.mc, .bool u.sl, .bool u.op, .string u.ui] 33) :: .obj b (.cells #[.slice tz ts.length tc, .slice ro rs.length rc] 73) :: .row 33 7 (v75) (ts.length + 1) (qj Ty.c ts ++ qj Ty.c [t2]) :: .row 86 2 (.slice ro rs.length rc) rs.length (qj Rk.c rs) :: Y)) A 8 rfl rfl rfl rfl (jp (z := .agg #[.string (⟨#[]⟩), .int .i64 0, .slice none 0 0, .slice none 0 0, .bool false, .bool false, .string (⟨#[]⟩)]) (sz := 7) (by_ := 96) Tryz.underlying26 (by kernel_rfl) rfl rfl rfl M 5 rfl rfl rfl rfl (rc_own (M.has 0 rfl)) (vb _) (by omega)) (fun _ => rfl) ?_)
   intro v75 w76 M
   replace M : Mg w0 w76 (.row 33 7 (.slice (some ⟨g73, 0, none⟩) 1 1) 1 (qj Ty.c [t2]) :: .row 9 1 (.slice t2.fo t2.fs.length t2.fc) t2.fs.length (E.strC t2.fs) :: .row 4 1 (.slice t2.mo t2.ms.length t2.mc) t2.ms.length (E.boolC t2.ms) :: .obj g2 (.cells #[.string u.nm, .int .i64 u.par, .slice u.fo u.fs.length u.fc, .slice u.mo u.ms.length u.mc, .bool u.sl, .bool u.op, .string u.ui] 33) :: .obj b (.cells #[.slice tz ts.length tc, .slice ro rs.length rc] 73) :: .row 33 7 (v75) ((ts ++ [t2]).length) (qj Ty.c (ts ++ [t2])) :: .row 86 2 (.slice ro rs.length rc) rs.length (qj Rk.c rs) :: Y) := by
    have h9 := M
    rw [← ji] at h9
    rw [List.length_append]
    exact h9
   obtain ⟨so77, ca78, rfl⟩ := zv (M.has 5 rfl)
   have hln : (ts ++ [t2]).length = ts.length + 1 := by rw [List.length_append]; rfl
   refine ⟨(M.sub (cn (cn (cn (cn (cn (cn (cn (List.nil_sublist _))))))))), ?_⟩
   intro a A
   refine qe A 9 rfl rfl rfl rfl hP (M.sub (cn (cn (cn (cn (cn (cn (cn (List.nil_sublist _))))))))) (fun w1 M => zf rfl) λa A↦?_
   refine qe (v := .pointer (some ⟨b, 0, none⟩)) A 10 rfl rfl rfl rfl hP (M.sub (cn (cn (cn (cn (cn (cn (cn (List.nil_sublist _))))))))) (fun w1 M => qb RcD_fld_73_0 rfl rfl) λa A↦?_
   refine qw (by kernel_rfl) (zx (us := [.slice so77 ((ts ++ [t2]).length) ca78, .slice ro rs.length rc]) (L' := (.row 33 7 (.slice (some ⟨g73, 0, none⟩) 1 1) 1 (qj Ty.c [t2]) :: .row 9 1 (.slice t2.fo t2.fs.length t2.fc) t2.fs.length (E.strC t2.fs) :: .row 4 1 (.slice t2.mo t2.ms.length t2.mc) t2.ms.length (E.boolC t2.ms) :: .obj g2 (.cells #[.string u.nm, .int .i64 u.par, .slice u.fo u.fs.length u.fc, .slice u.mo u.ms.length u.mc, .bool u.sl, .bool u.op, .string u.ui] 33) :: .obj b (.cells #[.slice so77 ((ts ++ [t2]).length) ca78, .slice ro rs.length rc] 73) :: .row 33 7 (.slice so77 ((ts ++ [t2]).length) ca78) ((ts ++ [t2]).length) (qj Ty.c (ts ++ [t2])) :: .row 86 2 (.slice ro rs.length rc) rs.length (qj Rk.c rs) :: Y)) A M 11 rfl rfl rfl (qz rfl rfl rfl (by kernel_rfl) M 4 rfl rfl rfl) 4 rfl rfl rfl ?_)
   intro w79 M
   refine ⟨(M.sub (cn (cn (cn (cn (cn (cn (cn (List.nil_sublist _))))))))), ?_⟩
   refine zd (by kernel_rfl) ?_
   refine hK70 _ _ (wsk fun K80 hK80 => wrl (sdm A λa A↦?_))
   refine sdo A (zf rfl) λa A↦?_
   refine sdo (v := .pointer (some ⟨b, 0, none⟩)) A (qb RcD_fld_73_0 rfl rfl) λa A↦?_
   refine sdo A (qh M RcD_is1_26 rfl 4 rfl rfl) λa A↦?_
   refine sdo A (qp Tryz.underlying26 rfl) λa A↦?_
   refine sdo (v := .int .i64 ((((ts ++ [t2]).length - 1 : Nat) : Int))) A (qi rfl rfl (fun w => (xb (jg (by omega) (by omega)) w).trans (by rw [show ((((ts ++ [t2]).length : Nat) : Int) - 1 : Int) = (((ts ++ [t2]).length - 1 : Nat) : Int) from by omega]))) λa A↦?_
   iterate 2 refine sda A λa A↦?_
   refine qa (hK80 _ _ (wp_ret (hret _ _ (en2 A rfl (qf rfl) (qf rfl) ?_))))
   replace M : Mg w0 w79 (.row 4 1 (.slice t2.mo t2.ms.length t2.mc) t2.ms.length (E.boolC t2.ms) :: .row 33 7 (.slice (some ⟨g73, 0, none⟩) 1 1) 1 (qj Ty.c [t2]) :: .row 9 1 (.slice t2.fo t2.fs.length t2.fc) t2.fs.length (E.strC t2.fs) :: .obj g2 (.cells #[.string u.nm, .int .i64 u.par, .slice u.fo u.fs.length u.fc, .slice u.mo u.ms.length u.mc, .bool u.sl, .bool u.op, .string u.ui] 33) :: .obj b (.cells #[.slice so77 ((ts ++ [t2]).length) ca78, .slice ro rs.length rc] 73) :: .row 33 7 (.slice so77 ((ts ++ [t2]).length) ca78) ((ts ++ [t2]).length) (qj Ty.c (ts ++ [t2])) :: .row 86 2 (.slice ro rs.length rc) rs.length (qj Rk.c rs) :: Y) := M.bring 2 rfl rfl
   replace M : Mg w0 w79 (.row 9 1 (.slice t2.fo t2.fs.length t2.fc) t2.fs.length (E.strC t2.fs) :: .row 4 1 (.slice t2.mo t2.ms.length t2.mc) t2.ms.length (E.boolC t2.ms) :: .row 33 7 (.slice (some ⟨g73, 0, none⟩) 1 1) 1 (qj Ty.c [t2]) :: .obj g2 (.cells #[.string u.nm, .int .i64 u.par, .slice u.fo u.fs.length u.fc, .slice u.mo u.ms.length u.mc, .bool u.sl, .bool u.op, .string u.ui] 33) :: .obj b (.cells #[.slice so77 ((ts ++ [t2]).length) ca78, .slice ro rs.length rc] 73) :: .row 33 7 (.slice so77 ((ts ++ [t2]).length) ca78) ((ts ++ [t2]).length) (qj Ty.c (ts ++ [t2])) :: .row 86 2 (.slice ro rs.length rc) rs.length (qj Rk.c rs) :: Y) := M.bring 2 rfl rfl
   replace M : Mg w0 w79 (.row 86 2 (.slice ro rs.length rc) rs.length (qj Rk.c rs) :: .row 9 1 (.slice t2.fo t2.fs.length t2.fc) t2.fs.length (E.strC t2.fs) :: .row 4 1 (.slice t2.mo t2.ms.length t2.mc) t2.ms.length (E.boolC t2.ms) :: .row 33 7 (.slice (some ⟨g73, 0, none⟩) 1 1) 1 (qj Ty.c [t2]) :: .obj g2 (.cells #[.string u.nm, .int .i64 u.par, .slice u.fo u.fs.length u.fc, .slice u.mo u.ms.length u.mc, .bool u.sl, .bool u.op, .string u.ui] 33) :: .obj b (.cells #[.slice so77 ((ts ++ [t2]).length) ca78, .slice ro rs.length rc] 73) :: .row 33 7 (.slice so77 ((ts ++ [t2]).length) ca78) ((ts ++ [t2]).length) (qj Ty.c (ts ++ [t2])) :: Y) := M.bring 6 rfl rfl
   replace M : Mg w0 w79 (.row 33 7 (.slice so77 ((ts ++ [t2]).length) ca78) ((ts ++ [t2]).length) (qj Ty.c (ts ++ [t2])) :: .row 86 2 (.slice ro rs.length rc) rs.length (qj Rk.c rs) :: .row 9 1 (.slice t2.fo t2.fs.length t2.fc) t2.fs.length (E.strC t2.fs) :: .row 4 1 (.slice t2.mo t2.ms.length t2.mc) t2.ms.length (E.boolC t2.ms) :: .row 33 7 (.slice (some ⟨g73, 0, none⟩) 1 1) 1 (qj Ty.c [t2]) :: .obj g2 (.cells #[.string u.nm, .int .i64 u.par, .slice u.fo u.fs.length u.fc, .slice u.mo u.ms.length u.mc, .bool u.sl, .bool u.op, .string u.ui] 33) :: .obj b (.cells #[.slice so77 ((ts ++ [t2]).length) ca78, .slice ro rs.length rc] 73) :: Y) := M.bring 6 rfl rfl
   replace M : Mg w0 w79 (.obj b (.cells #[.slice so77 ((ts ++ [t2]).length) ca78, .slice ro rs.length rc] 73) :: .row 33 7 (.slice so77 ((ts ++ [t2]).length) ca78) ((ts ++ [t2]).length) (qj Ty.c (ts ++ [t2])) :: .row 86 2 (.slice ro rs.length rc) rs.length (qj Rk.c rs) :: .row 9 1 (.slice t2.fo t2.fs.length t2.fc) t2.fs.length (E.strC t2.fs) :: .row 4 1 (.slice t2.mo t2.ms.length t2.mc) t2.ms.length (E.boolC t2.ms) :: .row 33 7 (.slice (some ⟨g73, 0, none⟩) 1 1) 1 (qj Ty.c [t2]) :: .obj g2 (.cells #[.string u.nm, .int .i64 u.par, .slice u.fo u.fs.length u.fc, .slice u.mo u.ms.length u.mc, .bool u.sl, .bool u.op, .string u.ui] 33) :: Y) := M.bring 6 rfl rfl
   replace M : Mg w0 w79 (.obj b (.cells #[.slice so77 ((ts ++ [t2]).length) ca78, .slice ro rs.length rc] 73) :: .row 33 7 (.slice so77 ((ts ++ [t2]).length) ca78) ((ts ++ [t2]).length) (qj Ty.c (ts ++ [t2])) :: .row 86 2 (.slice ro rs.length rc) rs.length (qj Rk.c rs) :: .row 9 1 (.slice t2.fo t2.fs.length t2.fc) t2.fs.length (E.strC t2.fs) :: .row 4 1 (.slice t2.mo t2.ms.length t2.mc) t2.ms.length (E.boolC t2.ms) :: Y) := by
    have h9 := M.sub (cc (cc (cc (cc (cc (cn (cn (.refl _))))))))
    exact h9
   exact ⟨t2, so77, ca78, by rw [show (ts ++ [t2]).length - 1 = ts.length by omega], hk2, M⟩
  ·
   refine vz A 5 rfl rfl rfl rfl (qy M RcD_isS_33 rfl 0 rfl (cs := [.string u.nm, .int .i64 u.par, .slice u.fo u.fs.length u.fc, .slice u.mo u.ms.length u.mc, .bool u.sl, .bool u.op, .string u.ui]) rfl rfl) (M.sub (cn (cn (cn (cn (List.nil_sublist _)))))) λa A↦?_
   refine vm (rs := [4, 6]) (by kernel_rfl) (by simp) ⟨?_, ?_, trivial⟩
   ·
    refine vz A 4 rfl rfl rfl rfl (qh M RcD_is1_26 rfl 1 rfl rfl) (M.sub (cn (cn (cn (cn (List.nil_sublist _)))))) λa A↦?_
    refine qw (by kernel_rfl) (jf A 6 rfl rfl rfl rfl (zg rfl rfl (fun w => by kernel_rfl)) (xg (hU _ (M.dropn 4)) hul hum hz1 hz2 huz) ?_)
    rintro _ w82 ⟨t2, rfl, hk2, hM81⟩
    replace M : Mg w0 w82 (.row 9 1 (.slice t2.fo t2.fs.length t2.fc) t2.fs.length (E.strC t2.fs) :: .row 4 1 (.slice t2.mo t2.ms.length t2.mc) t2.ms.length (E.boolC t2.ms) :: .obj g2 (.cells #[.string u.nm, .int .i64 u.par, .slice u.fo u.fs.length u.fc, .slice u.mo u.ms.length u.mc, .bool u.sl, .bool u.op, .string u.ui] 33) :: .obj b (.cells #[.slice tz ts.length tc, .slice ro rs.length rc] 73) :: .row 33 7 (.slice tz ts.length tc) ts.length (qj Ty.c ts) :: .row 86 2 (.slice ro rs.length rc) rs.length (qj Rk.c rs) :: Y) := (M.both hM81 (qg (by simp) (qg (by simp) (qg (by simp) (qg (by simp) hY)))) (qg (by simp) (qg (by simp) (ql qn))))
    refine ⟨_, rfl, (M.sub (cn (cn (cn (cn (cn (cn (List.nil_sublist _)))))))), ?_⟩
    intro a A
    refine qw (by kernel_rfl) (uw (e := 33) (sz := 7) (m := 1) (vs := qj Ty.c [t2]) A M 7 rfl rfl rfl rfl (qs rfl (by kernel_rfl)) rfl rfl (.inl (by decide)) ?_)
    intro g83 w84 M
    refine ⟨(M.sub (cn (cn (cn (cn (cn (cn (cn (List.nil_sublist _))))))))), ?_⟩
    intro a A
    refine qw (by kernel_rfl) (xv (e := 33) (sz := 7) (k := 5) (q := ts.length) (m := 1) (xs := qj Ty.c ts) (news := qj Ty.c [t2]) (L' := fun v85 => (.row 33 7 (.slice (some ⟨g83, 0, none⟩) 1 1) 1 (qj Ty.c [t2]) :: .row 9 1 (.slice t2.fo t2.fs.length t2.fc) t2.fs.length (E.strC t2.fs) :: .row 4 1 (.slice t2.mo t2.ms.length t2.mc) t2.ms.length (E.boolC t2.ms) :: .obj g2 (.cells #[.string u.nm, .int .i64 u.par, .slice u.fo u.fs.length u.fc, .slice u.mo u.ms.length u.mc, .bool u.sl, .bool u.op, .string u.ui] 33) :: .obj b (.cells #[.slice tz ts.length tc, .slice ro rs.length rc] 73) :: .row 33 7 (v85) (ts.length + 1) (qj Ty.c ts ++ qj Ty.c [t2]) :: .row 86 2 (.slice ro rs.length rc) rs.length (qj Rk.c rs) :: Y)) A 8 rfl rfl rfl rfl (jp (z := .agg #[.string (⟨#[]⟩), .int .i64 0, .slice none 0 0, .slice none 0 0, .bool false, .bool false, .string (⟨#[]⟩)]) (sz := 7) (by_ := 96) Tryz.underlying26 (by kernel_rfl) rfl rfl rfl M 5 rfl rfl rfl rfl (rc_own (M.has 0 rfl)) (vb _) (by omega)) (fun _ => rfl) ?_)
    intro v85 w86 M
    replace M : Mg w0 w86 (.row 33 7 (.slice (some ⟨g83, 0, none⟩) 1 1) 1 (qj Ty.c [t2]) :: .row 9 1 (.slice t2.fo t2.fs.length t2.fc) t2.fs.length (E.strC t2.fs) :: .row 4 1 (.slice t2.mo t2.ms.length t2.mc) t2.ms.length (E.boolC t2.ms) :: .obj g2 (.cells #[.string u.nm, .int .i64 u.par, .slice u.fo u.fs.length u.fc, .slice u.mo u.ms.length u.mc, .bool u.sl, .bool u.op, .string u.ui] 33) :: .obj b (.cells #[.slice tz ts.length tc, .slice ro rs.length rc] 73) :: .row 33 7 (v85) ((ts ++ [t2]).length) (qj Ty.c (ts ++ [t2])) :: .row 86 2 (.slice ro rs.length rc) rs.length (qj Rk.c rs) :: Y) := by
     have h9 := M
     rw [← ji] at h9
     rw [List.length_append]
     exact h9
    obtain ⟨so87, ca88, rfl⟩ := zv (M.has 5 rfl)
    have hln : (ts ++ [t2]).length = ts.length + 1 := by rw [List.length_append]; rfl
    refine ⟨(M.sub (cn (cn (cn (cn (cn (cn (cn (List.nil_sublist _))))))))), ?_⟩
    intro a A
    refine qe A 9 rfl rfl rfl rfl hP (M.sub (cn (cn (cn (cn (cn (cn (cn (List.nil_sublist _))))))))) (fun w1 M => zf rfl) λa A↦?_
    refine qe (v := .pointer (some ⟨b, 0, none⟩)) A 10 rfl rfl rfl rfl hP (M.sub (cn (cn (cn (cn (cn (cn (cn (List.nil_sublist _))))))))) (fun w1 M => qb RcD_fld_73_0 rfl rfl) λa A↦?_
    refine qw (by kernel_rfl) (zx (us := [.slice so87 ((ts ++ [t2]).length) ca88, .slice ro rs.length rc]) (L' := (.row 33 7 (.slice (some ⟨g83, 0, none⟩) 1 1) 1 (qj Ty.c [t2]) :: .row 9 1 (.slice t2.fo t2.fs.length t2.fc) t2.fs.length (E.strC t2.fs) :: .row 4 1 (.slice t2.mo t2.ms.length t2.mc) t2.ms.length (E.boolC t2.ms) :: .obj g2 (.cells #[.string u.nm, .int .i64 u.par, .slice u.fo u.fs.length u.fc, .slice u.mo u.ms.length u.mc, .bool u.sl, .bool u.op, .string u.ui] 33) :: .obj b (.cells #[.slice so87 ((ts ++ [t2]).length) ca88, .slice ro rs.length rc] 73) :: .row 33 7 (.slice so87 ((ts ++ [t2]).length) ca88) ((ts ++ [t2]).length) (qj Ty.c (ts ++ [t2])) :: .row 86 2 (.slice ro rs.length rc) rs.length (qj Rk.c rs) :: Y)) A M 11 rfl rfl rfl (qz rfl rfl rfl (by kernel_rfl) M 4 rfl rfl rfl) 4 rfl rfl rfl ?_)
    intro w89 M
    refine ⟨(M.sub (cn (cn (cn (cn (cn (cn (cn (List.nil_sublist _))))))))), ?_⟩
    refine zd (by kernel_rfl) ?_
    refine hK70 _ _ (wsk fun K90 hK90 => wrl (sdm A λa A↦?_))
    refine sdo A (zf rfl) λa A↦?_
    refine sdo (v := .pointer (some ⟨b, 0, none⟩)) A (qb RcD_fld_73_0 rfl rfl) λa A↦?_
    refine sdo A (qh M RcD_is1_26 rfl 4 rfl rfl) λa A↦?_
    refine sdo A (qp Tryz.underlying26 rfl) λa A↦?_
    refine sdo (v := .int .i64 ((((ts ++ [t2]).length - 1 : Nat) : Int))) A (qi rfl rfl (fun w => (xb (jg (by omega) (by omega)) w).trans (by rw [show ((((ts ++ [t2]).length : Nat) : Int) - 1 : Int) = (((ts ++ [t2]).length - 1 : Nat) : Int) from by omega]))) λa A↦?_
    iterate 2 refine sda A λa A↦?_
    refine qa (hK90 _ _ (wp_ret (hret _ _ (en2 A rfl (qf rfl) (qf rfl) ?_))))
    replace M : Mg w0 w89 (.row 4 1 (.slice t2.mo t2.ms.length t2.mc) t2.ms.length (E.boolC t2.ms) :: .row 33 7 (.slice (some ⟨g83, 0, none⟩) 1 1) 1 (qj Ty.c [t2]) :: .row 9 1 (.slice t2.fo t2.fs.length t2.fc) t2.fs.length (E.strC t2.fs) :: .obj g2 (.cells #[.string u.nm, .int .i64 u.par, .slice u.fo u.fs.length u.fc, .slice u.mo u.ms.length u.mc, .bool u.sl, .bool u.op, .string u.ui] 33) :: .obj b (.cells #[.slice so87 ((ts ++ [t2]).length) ca88, .slice ro rs.length rc] 73) :: .row 33 7 (.slice so87 ((ts ++ [t2]).length) ca88) ((ts ++ [t2]).length) (qj Ty.c (ts ++ [t2])) :: .row 86 2 (.slice ro rs.length rc) rs.length (qj Rk.c rs) :: Y) := M.bring 2 rfl rfl
    replace M : Mg w0 w89 (.row 9 1 (.slice t2.fo t2.fs.length t2.fc) t2.fs.length (E.strC t2.fs) :: .row 4 1 (.slice t2.mo t2.ms.length t2.mc) t2.ms.length (E.boolC t2.ms) :: .row 33 7 (.slice (some ⟨g83, 0, none⟩) 1 1) 1 (qj Ty.c [t2]) :: .obj g2 (.cells #[.string u.nm, .int .i64 u.par, .slice u.fo u.fs.length u.fc, .slice u.mo u.ms.length u.mc, .bool u.sl, .bool u.op, .string u.ui] 33) :: .obj b (.cells #[.slice so87 ((ts ++ [t2]).length) ca88, .slice ro rs.length rc] 73) :: .row 33 7 (.slice so87 ((ts ++ [t2]).length) ca88) ((ts ++ [t2]).length) (qj Ty.c (ts ++ [t2])) :: .row 86 2 (.slice ro rs.length rc) rs.length (qj Rk.c rs) :: Y) := M.bring 2 rfl rfl
    replace M : Mg w0 w89 (.row 86 2 (.slice ro rs.length rc) rs.length (qj Rk.c rs) :: .row 9 1 (.slice t2.fo t2.fs.length t2.fc) t2.fs.length (E.strC t2.fs) :: .row 4 1 (.slice t2.mo t2.ms.length t2.mc) t2.ms.length (E.boolC t2.ms) :: .row 33 7 (.slice (some ⟨g83, 0, none⟩) 1 1) 1 (qj Ty.c [t2]) :: .obj g2 (.cells #[.string u.nm, .int .i64 u.par, .slice u.fo u.fs.length u.fc, .slice u.mo u.ms.length u.mc, .bool u.sl, .bool u.op, .string u.ui] 33) :: .obj b (.cells #[.slice so87 ((ts ++ [t2]).length) ca88, .slice ro rs.length rc] 73) :: .row 33 7 (.slice so87 ((ts ++ [t2]).length) ca88) ((ts ++ [t2]).length) (qj Ty.c (ts ++ [t2])) :: Y) := M.bring 6 rfl rfl
    replace M : Mg w0 w89 (.row 33 7 (.slice so87 ((ts ++ [t2]).length) ca88) ((ts ++ [t2]).length) (qj Ty.c (ts ++ [t2])) :: .row 86 2 (.slice ro rs.length rc) rs.length (qj Rk.c rs) :: .row 9 1 (.slice t2.fo t2.fs.length t2.fc) t2.fs.length (E.strC t2.fs) :: .row 4 1 (.slice t2.mo t2.ms.length t2.mc) t2.ms.length (E.boolC t2.ms) :: .row 33 7 (.slice (some ⟨g83, 0, none⟩) 1 1) 1 (qj Ty.c [t2]) :: .obj g2 (.cells #[.string u.nm, .int .i64 u.par, .slice u.fo u.fs.length u.fc, .slice u.mo u.ms.length u.mc, .bool u.sl, .bool u.op, .string u.ui] 33) :: .obj b (.cells #[.slice so87 ((ts ++ [t2]).length) ca88, .slice ro rs.length rc] 73) :: Y) := M.bring 6 rfl rfl
    replace M : Mg w0 w89 (.obj b (.cells #[.slice so87 ((ts ++ [t2]).length) ca88, .slice ro rs.length rc] 73) :: .row 33 7 (.slice so87 ((ts ++ [t2]).length) ca88) ((ts ++ [t2]).length) (qj Ty.c (ts ++ [t2])) :: .row 86 2 (.slice ro rs.length rc) rs.length (qj Rk.c rs) :: .row 9 1 (.slice t2.fo t2.fs.length t2.fc) t2.fs.length (E.strC t2.fs) :: .row 4 1 (.slice t2.mo t2.ms.length t2.mc) t2.ms.length (E.boolC t2.ms) :: .row 33 7 (.slice (some ⟨g83, 0, none⟩) 1 1) 1 (qj Ty.c [t2]) :: .obj g2 (.cells #[.string u.nm, .int .i64 u.par, .slice u.fo u.fs.length u.fc, .slice u.mo u.ms.length u.mc, .bool u.sl, .bool u.op, .string u.ui] 33) :: Y) := M.bring 6 rfl rfl
    replace M : Mg w0 w89 (.obj b (.cells #[.slice so87 ((ts ++ [t2]).length) ca88, .slice ro rs.length rc] 73) :: .row 33 7 (.slice so87 ((ts ++ [t2]).length) ca88) ((ts ++ [t2]).length) (qj Ty.c (ts ++ [t2])) :: .row 86 2 (.slice ro rs.length rc) rs.length (qj Rk.c rs) :: .row 9 1 (.slice t2.fo t2.fs.length t2.fc) t2.fs.length (E.strC t2.fs) :: .row 4 1 (.slice t2.mo t2.ms.length t2.mc) t2.ms.length (E.boolC t2.ms) :: Y) := by
     have h9 := M.sub (cc (cc (cc (cc (cc (cn (cn (.refl _))))))))
     exact h9
    exact ⟨t2, so87, ca88, by rw [show (ts ++ [t2]).length - 1 = ts.length by omega], hk2, M⟩
   ·
    refine jf A 6 rfl rfl rfl rfl (zg rfl rfl (fun w => by kernel_rfl)) (xg (hU _ (M.dropn 4)) hul hum hz1 hz2 huz) ?_
    rintro _ w92 ⟨t2, rfl, hk2, hM91⟩
    replace M : Mg w0 w92 (.row 9 1 (.slice t2.fo t2.fs.length t2.fc) t2.fs.length (E.strC t2.fs) :: .row 4 1 (.slice t2.mo t2.ms.length t2.mc) t2.ms.length (E.boolC t2.ms) :: .obj g2 (.cells #[.string u.nm, .int .i64 u.par, .slice u.fo u.fs.length u.fc, .slice u.mo u.ms.length u.mc, .bool u.sl, .bool u.op, .string u.ui] 33) :: .obj b (.cells #[.slice tz ts.length tc, .slice ro rs.length rc] 73) :: .row 33 7 (.slice tz ts.length tc) ts.length (qj Ty.c ts) :: .row 86 2 (.slice ro rs.length rc) rs.length (qj Rk.c rs) :: Y) := (M.both hM91 (qg (by simp) (qg (by simp) (qg (by simp) (qg (by simp) hY)))) (qg (by simp) (qg (by simp) (ql qn))))
    refine ⟨_, rfl, (M.sub (cn (cn (cn (cn (cn (cn (List.nil_sublist _)))))))), ?_⟩
    intro a A
    refine vm (rs := [4, 7]) (by kernel_rfl) (by simp) ⟨?_, ?_, trivial⟩
    ·
     refine vz A 4 rfl rfl rfl rfl (qh M RcD_is1_26 rfl 3 rfl rfl) (M.sub (cn (cn (cn (cn (cn (cn (List.nil_sublist _)))))))) λa A↦?_
     refine qw (by kernel_rfl) (uw (e := 33) (sz := 7) (m := 1) (vs := qj Ty.c [t2]) A M 7 rfl rfl rfl rfl (qs rfl (by kernel_rfl)) rfl rfl (.inl (by decide)) ?_)
     intro g93 w94 M
     refine ⟨(M.sub (cn (cn (cn (cn (cn (cn (cn (List.nil_sublist _))))))))), ?_⟩
     intro a A
     refine qw (by kernel_rfl) (xv (e := 33) (sz := 7) (k := 5) (q := ts.length) (m := 1) (xs := qj Ty.c ts) (news := qj Ty.c [t2]) (L' := fun v95 => (.row 33 7 (.slice (some ⟨g93, 0, none⟩) 1 1) 1 (qj Ty.c [t2]) :: .row 9 1 (.slice t2.fo t2.fs.length t2.fc) t2.fs.length (E.strC t2.fs) :: .row 4 1 (.slice t2.mo t2.ms.length t2.mc) t2.ms.length (E.boolC t2.ms) :: .obj g2 (.cells #[.string u.nm, .int .i64 u.par, .slice u.fo u.fs.length u.fc, .slice u.mo u.ms.length u.mc, .bool u.sl, .bool u.op, .string u.ui] 33) :: .obj b (.cells #[.slice tz ts.length tc, .slice ro rs.length rc] 73) :: .row 33 7 (v95) (ts.length + 1) (qj Ty.c ts ++ qj Ty.c [t2]) :: .row 86 2 (.slice ro rs.length rc) rs.length (qj Rk.c rs) :: Y)) A 8 rfl rfl rfl rfl (jp (z := .agg #[.string (⟨#[]⟩), .int .i64 0, .slice none 0 0, .slice none 0 0, .bool false, .bool false, .string (⟨#[]⟩)]) (sz := 7) (by_ := 96) Tryz.underlying26 (by kernel_rfl) rfl rfl rfl M 5 rfl rfl rfl rfl (rc_own (M.has 0 rfl)) (vb _) (by omega)) (fun _ => rfl) ?_)
     intro v95 w96 M
     replace M : Mg w0 w96 (.row 33 7 (.slice (some ⟨g93, 0, none⟩) 1 1) 1 (qj Ty.c [t2]) :: .row 9 1 (.slice t2.fo t2.fs.length t2.fc) t2.fs.length (E.strC t2.fs) :: .row 4 1 (.slice t2.mo t2.ms.length t2.mc) t2.ms.length (E.boolC t2.ms) :: .obj g2 (.cells #[.string u.nm, .int .i64 u.par, .slice u.fo u.fs.length u.fc, .slice u.mo u.ms.length u.mc, .bool u.sl, .bool u.op, .string u.ui] 33) :: .obj b (.cells #[.slice tz ts.length tc, .slice ro rs.length rc] 73) :: .row 33 7 (v95) ((ts ++ [t2]).length) (qj Ty.c (ts ++ [t2])) :: .row 86 2 (.slice ro rs.length rc) rs.length (qj Rk.c rs) :: Y) := by
      have h9 := M
      rw [← ji] at h9
      rw [List.length_append]
      exact h9
     obtain ⟨so97, ca98, rfl⟩ := zv (M.has 5 rfl)
     have hln : (ts ++ [t2]).length = ts.length + 1 := by rw [List.length_append]; rfl
     refine ⟨(M.sub (cn (cn (cn (cn (cn (cn (cn (List.nil_sublist _))))))))), ?_⟩
     intro a A
     refine qe A 9 rfl rfl rfl rfl hP (M.sub (cn (cn (cn (cn (cn (cn (cn (List.nil_sublist _))))))))) (fun w1 M => zf rfl) λa A↦?_
     refine qe (v := .pointer (some ⟨b, 0, none⟩)) A 10 rfl rfl rfl rfl hP (M.sub (cn (cn (cn (cn (cn (cn (cn (List.nil_sublist _))))))))) (fun w1 M => qb RcD_fld_73_0 rfl rfl) λa A↦?_
     refine qw (by kernel_rfl) (zx (us := [.slice so97 ((ts ++ [t2]).length) ca98, .slice ro rs.length rc]) (L' := (.row 33 7 (.slice (some ⟨g93, 0, none⟩) 1 1) 1 (qj Ty.c [t2]) :: .row 9 1 (.slice t2.fo t2.fs.length t2.fc) t2.fs.length (E.strC t2.fs) :: .row 4 1 (.slice t2.mo t2.ms.length t2.mc) t2.ms.length (E.boolC t2.ms) :: .obj g2 (.cells #[.string u.nm, .int .i64 u.par, .slice u.fo u.fs.length u.fc, .slice u.mo u.ms.length u.mc, .bool u.sl, .bool u.op, .string u.ui] 33) :: .obj b (.cells #[.slice so97 ((ts ++ [t2]).length) ca98, .slice ro rs.length rc] 73) :: .row 33 7 (.slice so97 ((ts ++ [t2]).length) ca98) ((ts ++ [t2]).length) (qj Ty.c (ts ++ [t2])) :: .row 86 2 (.slice ro rs.length rc) rs.length (qj Rk.c rs) :: Y)) A M 11 rfl rfl rfl (qz rfl rfl rfl (by kernel_rfl) M 4 rfl rfl rfl) 4 rfl rfl rfl ?_)
     intro w99 M
     refine ⟨(M.sub (cn (cn (cn (cn (cn (cn (cn (List.nil_sublist _))))))))), ?_⟩
     refine zd (by kernel_rfl) ?_
     refine hK70 _ _ (wsk fun K100 hK100 => wrl (sdm A λa A↦?_))
     refine sdo A (zf rfl) λa A↦?_
     refine sdo (v := .pointer (some ⟨b, 0, none⟩)) A (qb RcD_fld_73_0 rfl rfl) λa A↦?_
     refine sdo A (qh M RcD_is1_26 rfl 4 rfl rfl) λa A↦?_
     refine sdo A (qp Tryz.underlying26 rfl) λa A↦?_
     refine sdo (v := .int .i64 ((((ts ++ [t2]).length - 1 : Nat) : Int))) A (qi rfl rfl (fun w => (xb (jg (by omega) (by omega)) w).trans (by rw [show ((((ts ++ [t2]).length : Nat) : Int) - 1 : Int) = (((ts ++ [t2]).length - 1 : Nat) : Int) from by omega]))) λa A↦?_
     iterate 2 refine sda A λa A↦?_
     refine qa (hK100 _ _ (wp_ret (hret _ _ (en2 A rfl (qf rfl) (qf rfl) ?_))))
     replace M : Mg w0 w99 (.row 4 1 (.slice t2.mo t2.ms.length t2.mc) t2.ms.length (E.boolC t2.ms) :: .row 33 7 (.slice (some ⟨g93, 0, none⟩) 1 1) 1 (qj Ty.c [t2]) :: .row 9 1 (.slice t2.fo t2.fs.length t2.fc) t2.fs.length (E.strC t2.fs) :: .obj g2 (.cells #[.string u.nm, .int .i64 u.par, .slice u.fo u.fs.length u.fc, .slice u.mo u.ms.length u.mc, .bool u.sl, .bool u.op, .string u.ui] 33) :: .obj b (.cells #[.slice so97 ((ts ++ [t2]).length) ca98, .slice ro rs.length rc] 73) :: .row 33 7 (.slice so97 ((ts ++ [t2]).length) ca98) ((ts ++ [t2]).length) (qj Ty.c (ts ++ [t2])) :: .row 86 2 (.slice ro rs.length rc) rs.length (qj Rk.c rs) :: Y) := M.bring 2 rfl rfl
     replace M : Mg w0 w99 (.row 9 1 (.slice t2.fo t2.fs.length t2.fc) t2.fs.length (E.strC t2.fs) :: .row 4 1 (.slice t2.mo t2.ms.length t2.mc) t2.ms.length (E.boolC t2.ms) :: .row 33 7 (.slice (some ⟨g93, 0, none⟩) 1 1) 1 (qj Ty.c [t2]) :: .obj g2 (.cells #[.string u.nm, .int .i64 u.par, .slice u.fo u.fs.length u.fc, .slice u.mo u.ms.length u.mc, .bool u.sl, .bool u.op, .string u.ui] 33) :: .obj b (.cells #[.slice so97 ((ts ++ [t2]).length) ca98, .slice ro rs.length rc] 73) :: .row 33 7 (.slice so97 ((ts ++ [t2]).length) ca98) ((ts ++ [t2]).length) (qj Ty.c (ts ++ [t2])) :: .row 86 2 (.slice ro rs.length rc) rs.length (qj Rk.c rs) :: Y) := M.bring 2 rfl rfl
     replace M : Mg w0 w99 (.row 86 2 (.slice ro rs.length rc) rs.length (qj Rk.c rs) :: .row 9 1 (.slice t2.fo t2.fs.length t2.fc) t2.fs.length (E.strC t2.fs) :: .row 4 1 (.slice t2.mo t2.ms.length t2.mc) t2.ms.length (E.boolC t2.ms) :: .row 33 7 (.slice (some ⟨g93, 0, none⟩) 1 1) 1 (qj Ty.c [t2]) :: .obj g2 (.cells #[.string u.nm, .int .i64 u.par, .slice u.fo u.fs.length u.fc, .slice u.mo u.ms.length u.mc, .bool u.sl, .bool u.op, .string u.ui] 33) :: .obj b (.cells #[.slice so97 ((ts ++ [t2]).length) ca98, .slice ro rs.length rc] 73) :: .row 33 7 (.slice so97 ((ts ++ [t2]).length) ca98) ((ts ++ [t2]).length) (qj Ty.c (ts ++ [t2])) :: Y) := M.bring 6 rfl rfl
     replace M : Mg w0 w99 (.row 33 7 (.slice so97 ((ts ++ [t2]).length) ca98) ((ts ++ [t2]).length) (qj Ty.c (ts ++ [t2])) :: .row 86 2 (.slice ro rs.length rc) rs.length (qj Rk.c rs) :: .row 9 1 (.slice t2.fo t2.fs.length t2.fc) t2.fs.length (E.strC t2.fs) :: .row 4 1 (.slice t2.mo t2.ms.length t2.mc) t2.ms.length (E.boolC t2.ms) :: .row 33 7 (.slice (some ⟨g93, 0, none⟩) 1 1) 1 (qj Ty.c [t2]) :: .obj g2 (.cells #[.string u.nm, .int .i64 u.par, .slice u.fo u.fs.length u.fc, .slice u.mo u.ms.length u.mc, .bool u.sl, .bool u.op, .string u.ui] 33) :: .obj b (.cells #[.slice so97 ((ts ++ [t2]).length) ca98, .slice ro rs.length rc] 73) :: Y) := M.bring 6 rfl rfl
     replace M : Mg w0 w99 (.obj b (.cells #[.slice so97 ((ts ++ [t2]).length) ca98, .slice ro rs.length rc] 73) :: .row 33 7 (.slice so97 ((ts ++ [t2]).length) ca98) ((ts ++ [t2]).length) (qj Ty.c (ts ++ [t2])) :: .row 86 2 (.slice ro rs.length rc) rs.length (qj Rk.c rs) :: .row 9 1 (.slice t2.fo t2.fs.length t2.fc) t2.fs.length (E.strC t2.fs) :: .row 4 1 (.slice t2.mo t2.ms.length t2.mc) t2.ms.length (E.boolC t2.ms) :: .row 33 7 (.slice (some ⟨g93, 0, none⟩) 1 1) 1 (qj Ty.c [t2]) :: .obj g2 (.cells #[.string u.nm, .int .i64 u.par, .slice u.fo u.fs.length u.fc, .slice u.mo u.ms.length u.mc, .bool u.sl, .bool u.op, .string u.ui] 33) :: Y) := M.bring 6 rfl rfl
     replace M : Mg w0 w99 (.obj b (.cells #[.slice so97 ((ts ++ [t2]).length) ca98, .slice ro rs.length rc] 73) :: .row 33 7 (.slice so97 ((ts ++ [t2]).length) ca98) ((ts ++ [t2]).length) (qj Ty.c (ts ++ [t2])) :: .row 86 2 (.slice ro rs.length rc) rs.length (qj Rk.c rs) :: .row 9 1 (.slice t2.fo t2.fs.length t2.fc) t2.fs.length (E.strC t2.fs) :: .row 4 1 (.slice t2.mo t2.ms.length t2.mc) t2.ms.length (E.boolC t2.ms) :: Y) := by
      have h9 := M.sub (cc (cc (cc (cc (cc (cn (cn (.refl _))))))))
      exact h9
     exact ⟨t2, so97, ca98, by rw [show (ts ++ [t2]).length - 1 = ts.length by omega], hk2, M⟩
    ·
     refine uw (e := 33) (sz := 7) (m := 1) (vs := qj Ty.c [t2]) A M 7 rfl rfl rfl rfl (qs rfl (by kernel_rfl)) rfl rfl (.inl (by decide)) ?_
     intro g101 w102 M
     refine ⟨(M.sub (cn (cn (cn (cn (cn (cn (cn (List.nil_sublist _))))))))), ?_⟩
     intro a A
     refine qw (by kernel_rfl) (vz A 4 rfl rfl rfl rfl (qh M RcD_is1_26 rfl 4 rfl rfl) (M.sub (cn (cn (cn (cn (cn (cn (cn (List.nil_sublist _))))))))) ?_)
     intro a A
     refine qw (by kernel_rfl) (xv (e := 33) (sz := 7) (k := 5) (q := ts.length) (m := 1) (xs := qj Ty.c ts) (news := qj Ty.c [t2]) (L' := fun v103 => (.row 33 7 (.slice (some ⟨g101, 0, none⟩) 1 1) 1 (qj Ty.c [t2]) :: .row 9 1 (.slice t2.fo t2.fs.length t2.fc) t2.fs.length (E.strC t2.fs) :: .row 4 1 (.slice t2.mo t2.ms.length t2.mc) t2.ms.length (E.boolC t2.ms) :: .obj g2 (.cells #[.string u.nm, .int .i64 u.par, .slice u.fo u.fs.length u.fc, .slice u.mo u.ms.length u.mc, .bool u.sl, .bool u.op, .string u.ui] 33) :: .obj b (.cells #[.slice tz ts.length tc, .slice ro rs.length rc] 73) :: .row 33 7 (v103) (ts.length + 1) (qj Ty.c ts ++ qj Ty.c [t2]) :: .row 86 2 (.slice ro rs.length rc) rs.length (qj Rk.c rs) :: Y)) A 8 rfl rfl rfl rfl (jp (z := .agg #[.string (⟨#[]⟩), .int .i64 0, .slice none 0 0, .slice none 0 0, .bool false, .bool false, .string (⟨#[]⟩)]) (sz := 7) (by_ := 96) Tryz.underlying26 (by kernel_rfl) rfl rfl rfl M 5 rfl rfl rfl rfl (rc_own (M.has 0 rfl)) (vb _) (by omega)) (fun _ => rfl) ?_)
     intro v103 w104 M
     replace M : Mg w0 w104 (.row 33 7 (.slice (some ⟨g101, 0, none⟩) 1 1) 1 (qj Ty.c [t2]) :: .row 9 1 (.slice t2.fo t2.fs.length t2.fc) t2.fs.length (E.strC t2.fs) :: .row 4 1 (.slice t2.mo t2.ms.length t2.mc) t2.ms.length (E.boolC t2.ms) :: .obj g2 (.cells #[.string u.nm, .int .i64 u.par, .slice u.fo u.fs.length u.fc, .slice u.mo u.ms.length u.mc, .bool u.sl, .bool u.op, .string u.ui] 33) :: .obj b (.cells #[.slice tz ts.length tc, .slice ro rs.length rc] 73) :: .row 33 7 (v103) ((ts ++ [t2]).length) (qj Ty.c (ts ++ [t2])) :: .row 86 2 (.slice ro rs.length rc) rs.length (qj Rk.c rs) :: Y) := by
      have h9 := M
      rw [← ji] at h9
      rw [List.length_append]
      exact h9
     obtain ⟨so105, ca106, rfl⟩ := zv (M.has 5 rfl)
     have hln : (ts ++ [t2]).length = ts.length + 1 := by rw [List.length_append]; rfl
     refine ⟨(M.sub (cn (cn (cn (cn (cn (cn (cn (List.nil_sublist _))))))))), ?_⟩
     intro a A
     refine qe A 9 rfl rfl rfl rfl hP (M.sub (cn (cn (cn (cn (cn (cn (cn (List.nil_sublist _))))))))) (fun w1 M => zf rfl) λa A↦?_
     refine qe (v := .pointer (some ⟨b, 0, none⟩)) A 10 rfl rfl rfl rfl hP (M.sub (cn (cn (cn (cn (cn (cn (cn (List.nil_sublist _))))))))) (fun w1 M => qb RcD_fld_73_0 rfl rfl) λa A↦?_
     refine qw (by kernel_rfl) (zx (us := [.slice so105 ((ts ++ [t2]).length) ca106, .slice ro rs.length rc]) (L' := (.row 33 7 (.slice (some ⟨g101, 0, none⟩) 1 1) 1 (qj Ty.c [t2]) :: .row 9 1 (.slice t2.fo t2.fs.length t2.fc) t2.fs.length (E.strC t2.fs) :: .row 4 1 (.slice t2.mo t2.ms.length t2.mc) t2.ms.length (E.boolC t2.ms) :: .obj g2 (.cells #[.string u.nm, .int .i64 u.par, .slice u.fo u.fs.length u.fc, .slice u.mo u.ms.length u.mc, .bool u.sl, .bool u.op, .string u.ui] 33) :: .obj b (.cells #[.slice so105 ((ts ++ [t2]).length) ca106, .slice ro rs.length rc] 73) :: .row 33 7 (.slice so105 ((ts ++ [t2]).length) ca106) ((ts ++ [t2]).length) (qj Ty.c (ts ++ [t2])) :: .row 86 2 (.slice ro rs.length rc) rs.length (qj Rk.c rs) :: Y)) A M 11 rfl rfl rfl (qz rfl rfl rfl (by kernel_rfl) M 4 rfl rfl rfl) 4 rfl rfl rfl ?_)
     intro w107 M
     refine ⟨(M.sub (cn (cn (cn (cn (cn (cn (cn (List.nil_sublist _))))))))), ?_⟩
     refine zd (by kernel_rfl) ?_
     refine hK70 _ _ (wsk fun K108 hK108 => wrl (sdm A λa A↦?_))
     refine sdo A (zf rfl) λa A↦?_
     refine sdo (v := .pointer (some ⟨b, 0, none⟩)) A (qb RcD_fld_73_0 rfl rfl) λa A↦?_
     refine sdo A (qh M RcD_is1_26 rfl 4 rfl rfl) λa A↦?_
     refine sdo A (qp Tryz.underlying26 rfl) λa A↦?_
     refine sdo (v := .int .i64 ((((ts ++ [t2]).length - 1 : Nat) : Int))) A (qi rfl rfl (fun w => (xb (jg (by omega) (by omega)) w).trans (by rw [show ((((ts ++ [t2]).length : Nat) : Int) - 1 : Int) = (((ts ++ [t2]).length - 1 : Nat) : Int) from by omega]))) λa A↦?_
     iterate 2 refine sda A λa A↦?_
     refine qa (hK108 _ _ (wp_ret (hret _ _ (en2 A rfl (qf rfl) (qf rfl) ?_))))
     replace M : Mg w0 w107 (.row 4 1 (.slice t2.mo t2.ms.length t2.mc) t2.ms.length (E.boolC t2.ms) :: .row 33 7 (.slice (some ⟨g101, 0, none⟩) 1 1) 1 (qj Ty.c [t2]) :: .row 9 1 (.slice t2.fo t2.fs.length t2.fc) t2.fs.length (E.strC t2.fs) :: .obj g2 (.cells #[.string u.nm, .int .i64 u.par, .slice u.fo u.fs.length u.fc, .slice u.mo u.ms.length u.mc, .bool u.sl, .bool u.op, .string u.ui] 33) :: .obj b (.cells #[.slice so105 ((ts ++ [t2]).length) ca106, .slice ro rs.length rc] 73) :: .row 33 7 (.slice so105 ((ts ++ [t2]).length) ca106) ((ts ++ [t2]).length) (qj Ty.c (ts ++ [t2])) :: .row 86 2 (.slice ro rs.length rc) rs.length (qj Rk.c rs) :: Y) := M.bring 2 rfl rfl
     replace M : Mg w0 w107 (.row 9 1 (.slice t2.fo t2.fs.length t2.fc) t2.fs.length (E.strC t2.fs) :: .row 4 1 (.slice t2.mo t2.ms.length t2.mc) t2.ms.length (E.boolC t2.ms) :: .row 33 7 (.slice (some ⟨g101, 0, none⟩) 1 1) 1 (qj Ty.c [t2]) :: .obj g2 (.cells #[.string u.nm, .int .i64 u.par, .slice u.fo u.fs.length u.fc, .slice u.mo u.ms.length u.mc, .bool u.sl, .bool u.op, .string u.ui] 33) :: .obj b (.cells #[.slice so105 ((ts ++ [t2]).length) ca106, .slice ro rs.length rc] 73) :: .row 33 7 (.slice so105 ((ts ++ [t2]).length) ca106) ((ts ++ [t2]).length) (qj Ty.c (ts ++ [t2])) :: .row 86 2 (.slice ro rs.length rc) rs.length (qj Rk.c rs) :: Y) := M.bring 2 rfl rfl
     replace M : Mg w0 w107 (.row 86 2 (.slice ro rs.length rc) rs.length (qj Rk.c rs) :: .row 9 1 (.slice t2.fo t2.fs.length t2.fc) t2.fs.length (E.strC t2.fs) :: .row 4 1 (.slice t2.mo t2.ms.length t2.mc) t2.ms.length (E.boolC t2.ms) :: .row 33 7 (.slice (some ⟨g101, 0, none⟩) 1 1) 1 (qj Ty.c [t2]) :: .obj g2 (.cells #[.string u.nm, .int .i64 u.par, .slice u.fo u.fs.length u.fc, .slice u.mo u.ms.length u.mc, .bool u.sl, .bool u.op, .string u.ui] 33) :: .obj b (.cells #[.slice so105 ((ts ++ [t2]).length) ca106, .slice ro rs.length rc] 73) :: .row 33 7 (.slice so105 ((ts ++ [t2]).length) ca106) ((ts ++ [t2]).length) (qj Ty.c (ts ++ [t2])) :: Y) := M.bring 6 rfl rfl
     replace M : Mg w0 w107 (.row 33 7 (.slice so105 ((ts ++ [t2]).length) ca106) ((ts ++ [t2]).length) (qj Ty.c (ts ++ [t2])) :: .row 86 2 (.slice ro rs.length rc) rs.length (qj Rk.c rs) :: .row 9 1 (.slice t2.fo t2.fs.length t2.fc) t2.fs.length (E.strC t2.fs) :: .row 4 1 (.slice t2.mo t2.ms.length t2.mc) t2.ms.length (E.boolC t2.ms) :: .row 33 7 (.slice (some ⟨g101, 0, none⟩) 1 1) 1 (qj Ty.c [t2]) :: .obj g2 (.cells #[.string u.nm, .int .i64 u.par, .slice u.fo u.fs.length u.fc, .slice u.mo u.ms.length u.mc, .bool u.sl, .bool u.op, .string u.ui] 33) :: .obj b (.cells #[.slice so105 ((ts ++ [t2]).length) ca106, .slice ro rs.length rc] 73) :: Y) := M.bring 6 rfl rfl
     replace M : Mg w0 w107 (.obj b (.cells #[.slice so105 ((ts ++ [t2]).length) ca106, .slice ro rs.length rc] 73) :: .row 33 7 (.slice so105 ((ts ++ [t2]).length) ca106) ((ts ++ [t2]).length) (qj Ty.c (ts ++ [t2])) :: .row 86 2 (.slice ro rs.length rc) rs.length (qj Rk.c rs) :: .row 9 1 (.slice t2.fo t2.fs.length t2.fc) t2.fs.length (E.strC t2.fs) :: .row 4 1 (.slice t2.mo t2.ms.length t2.mc) t2.ms.length (E.boolC t2.ms) :: .row 33 7 (.slice (some ⟨g101, 0, none⟩) 1 1) 1 (qj Ty.c [t2]) :: .obj g2 (.cells #[.string u.nm, .int .i64 u.par, .slice u.fo u.fs.length u.fc, .slice u.mo u.ms.length u.mc, .bool u.sl, .bool u.op, .string u.ui] 33) :: Y) := M.bring 6 rfl rfl
     replace M : Mg w0 w107 (.obj b (.cells #[.slice so105 ((ts ++ [t2]).length) ca106, .slice ro rs.length rc] 73) :: .row 33 7 (.slice so105 ((ts ++ [t2]).length) ca106) ((ts ++ [t2]).length) (qj Ty.c (ts ++ [t2])) :: .row 86 2 (.slice ro rs.length rc) rs.length (qj Rk.c rs) :: .row 9 1 (.slice t2.fo t2.fs.length t2.fc) t2.fs.length (E.strC t2.fs) :: .row 4 1 (.slice t2.mo t2.ms.length t2.mc) t2.ms.length (E.boolC t2.ms) :: Y) := by
      have h9 := M.sub (cc (cc (cc (cc (cc (cn (cn (.refl _))))))))
      exact h9
     exact ⟨t2, so105, ca106, by rw [show (ts ++ [t2]).length - 1 = ts.length by omega], hk2, M⟩
theorem qna {w : World} {t : Dt} (ht : t.rd w) (hT : Tabs8 w) : Calls Tryz.prog 34 #[.agg (t.d.cells t.ts.length).toArray] w fun e w' => e = .returned (.bool (!jn ja t.tr)) ∧ Below w.heap.size w w' := by
 have M : Mg w w ([]) := Mg.start w
 refine qx (l := [(0, .agg (t.d.cells t.ts.length).toArray)]) Tryz.func34 rfl Tryz.ntmps34 rfl rfl ?_
 intro Q hret hnorm hP a A
 refine wsk fun K1 hK1 => wrl (jb (vs := (t.d.cells t.ts.length)) (t := 42) A M rfl rfl rfl pg (zh rfl rfl) (by decide) ?_)
 intro g2 w3 M a A
 refine sda A λa A↦?_
 refine qa (hK1 _ _ (wsk fun K4 hK4 => wrl (sdo A (qy M RcD_isS_42 rfl 0 rfl (cs := (t.d.cells t.ts.length)) rfl rfl) λa A↦?_)))
 rcases tf (jn ja t.tr) with hb5 | hb5
 ·
  refine gcl A M (ef rfl rfl) ((hb5 ▸ sound_any (t := t) (Dt.keep M.bel _ ht) (hT.below M.bel))) fun w7 hb6 M a A => ?_
  refine sdo (v := .bool false) A (zj rfl zq) λa A↦?_
  refine sda A λa A↦?_
  refine qa (hK4 _ _ (wp_ret (hret _ _ (en1 A rfl (qf rfl) ?_))))
  exact ⟨by simp_all, M.bel⟩
 ·
  refine gcl A M (ef rfl rfl) ((hb5 ▸ sound_any (t := t) (Dt.keep M.bel _ ht) (hT.below M.bel))) fun w9 hb8 M a A => ?_
  refine sdo (v := .bool true) A (zj rfl zq) λa A↦?_
  refine sda A λa A↦?_
  refine qa (hK4 _ _ (wp_ret (hret _ _ (en1 A rfl (qf rfl) ?_))))
  exact ⟨by simp_all, M.bel⟩
theorem zoc {w : World} {ts : List Dt} (hD : ∀ t ∈ ts, t.rd w) (hT : Tabs8 w) : Asks Tryz.prog 34 [] w ts (fun t => !jn ja t.tr) := ⟨fun us w => by kernel_rfl, fun t w1 ht hb => qna (Dt.keep hb _ (hD t ht)) (hT.below hb)⟩
theorem zod (vs : List Dt) : (vs.any fun t => !jn ja t.tr) = !(vs.map Dt.tr).all (jn ja) := by
 induction vs with
 | nil => rfl
 | cons t ts ih => rw [List.any_cons, List.map_cons, List.all_cons, ih, Bool.not_and]
theorem qaa {w : World} {so : Option Addr} {ca : Nat} {vs : List Dt} (hR : Rt w so vs) (hD : ∀ t ∈ vs, t.rd w) (hl : vs.length ≤ 1000000000) (hT : Tabs8 w) {b : Bool} (h : (vs.map Dt.tr).all (jn ja) = b) : Calls Tryz.prog 33 #[.slice so vs.length ca, .func (.func 34) #[] #[]] w fun e w' => e = .returned (.bool (!b)) ∧ Below w.heap.size w w' := by
 have := qrb (ca := ca) (cs := []) hR hD hl (zoc hD hT)
 rw [zod, h] at this
 exact this
set_option maxHeartbeats 2000000 in
theorem zoe {w0 w : World} {b tc rc : Nat} {tz ro : Option Addr} {ts : List Ty} {rs : List Rk} {Y : List Ck} (hY : jk Y) (hW : WS (ts.map Ty.k) (rs.map Rk.k)) (hsr : ∀ w1, Mg w0 w1 (.obj b (.cells #[.slice tz ts.length tc, .slice ro rs.length rc] 73) :: .row 33 7 (.slice tz ts.length tc) ts.length (qj Ty.c ts) :: .row 86 2 (.slice ro rs.length rc) rs.length (qj Rk.c rs) :: Y) → SR w1 b tz tc ts ro rc rs) (hM0 : Mg w0 w (.obj b (.cells #[.slice tz ts.length tc, .slice ro rs.length rc] 73) :: .row 33 7 (.slice tz ts.length tc) ts.length (qj Ty.c ts) :: .row 86 2 (.slice ro rs.length rc) rs.length (qj Rk.c rs) :: Y)) {vo : Option Addr} {vc : Nat} {vs : List Dt} (hV : ∀ w1, Mg w0 w1 Y → Rt w1 vo vs ∧ ∀ d ∈ vs, d.rd w1) (hvb : Tr.bulks (vs.map Dt.tr) ≤ 1000000000) (hT : ∀ w1, Mg w0 w1 Y → Tabs8 w1) {t : Int} (hok : okT ts.length t = true) (hcn : vs.length = cnt (ts.map Ty.k) t) (hso : (vs.map Dt.tr).all (jn ja) = true) (hn : rs.length < 20000) : Calls Tryz.prog 10 #[.pointer (some ⟨b, 0, none⟩), .int .i64 t, .slice vo vs.length vc] w fun e w' => ∃ (us : List Dt) (so6 : Option Addr) (ca6 : Nat) (ro' : Option Addr) (rc' : Nat) (F : List Ck), e = .returned (.tuple #[.int .i64 ((rs.length : Nat) : Int), .int .i64 0]) ∧ (us.map Dt.tr = vs.map Dt.tr ∧ (∀ d ∈ us, Lives F d) ∧ jk F) ∧ Mg w0 w' (.obj b (.cells #[.slice tz ts.length tc, .slice ro' ((rs ++ [(Rk.mk t.toNat so6 ca6 us)]).length) rc'] 73) :: .row 33 7 (.slice tz ts.length tc) ts.length (qj Ty.c ts) :: .row 86 2 (.slice ro' ((rs ++ [(Rk.mk t.toNat so6 ca6 us)]).length) rc') ((rs ++ [(Rk.mk t.toNat so6 ca6 us)]).length) (qj Rk.c (rs ++ [(Rk.mk t.toNat so6 ca6 us)])) :: .row 42 11 (.slice so6 us.length ca6) us.length (cellsOf us) :: (F ++ Y)) := by
 have hkl := hW.kl
 have hrl := hW.rl
 rw [List.length_map] at hkl hrl
 have hvl := ky vs
 obtain ⟨ht0, ht1⟩ := ka hok
 have M : Mg w0 w (.obj b (.cells #[.slice tz ts.length tc, .slice ro rs.length rc] 73) :: .row 33 7 (.slice tz ts.length tc) ts.length (qj Ty.c ts) :: .row 86 2 (.slice ro rs.length rc) rs.length (qj Rk.c rs) :: Y) := hM0
 refine qx (l := [(0, .pointer (some ⟨b, 0, none⟩)), (1, .int .i64 t), (2, .slice vo vs.length vc)]) Tryz.func10 rfl Tryz.ntmps10 rfl rfl ?_
 intro Q hret hnorm hP a A
 refine wsk fun K1 hK1 => wrl ?_
 iterate 2 refine sda A λa A↦?_
 refine qa (hK1 _ _ (wsk fun K2 hK2 => wrl ?_))
 iterate 2 refine sdm A λa A↦?_
 refine gcl A M (ef rfl rfl) (vj (hsr _ ((show Mg _ _ (.obj b (.cells #[.slice tz ts.length tc, .slice ro rs.length rc] 73) :: .row 33 7 (.slice tz ts.length tc) ts.length (qj Ty.c ts) :: .row 86 2 (.slice ro rs.length rc) rs.length (qj Rk.c rs) :: Y) from (M.dropn 0)))) hW hok) fun w4 hb3 M a A => ?_
 refine sda A λa A↦?_
 refine qa (hK2 _ _ (wsk fun K5 hK5 => wp_block (wsk fun K6 hK6 => wrl (sdm A λa A↦?_))))
 refine sdo (v := .bool false) A (qi rfl rfl (fun w => by kernel_rfl)) λa A↦?_
 refine sda A λa A↦?_
 refine qa (hK6 _ _ (wp_cond_false (A.ev rfl) ?_))
 refine wsk fun K7 hK7 => wrl (sdm A λa A↦?_)
 refine sdo A (qp Tryz.underlying34 rfl) λa A↦?_
 iterate 2 refine sdm A λa A↦?_
 refine gcl A M (ef rfl rfl) (vk (hsr _ ((show Mg _ _ (.obj b (.cells #[.slice tz ts.length tc, .slice ro rs.length rc] 73) :: .row 33 7 (.slice tz ts.length tc) ts.length (qj Ty.c ts) :: .row 86 2 (.slice ro rs.length rc) rs.length (qj Rk.c rs) :: Y) from (M.dropn 0)))) hW (by omega) (by omega)) fun w9 hb8 M a A => ?_
 refine sdo (v := .bool false) A (qi rfl rfl (fun w => (zi w).trans (by rw [show ((((vs.length : Nat) : Int) != ((cnt (ts.map Ty.k) t : Nat) : Int))) = false from (by simp; omega)]))) λa A↦?_
 refine sda A λa A↦?_
 refine qa (hK7 _ _ (wp_cond_false (A.ev rfl) ?_))
 refine wsk fun K10 hK10 => wrl (sdm A λa A↦?_)
 refine gcl A M (ef rfl rfl) (qaa (hV _ (M.dropn 3)).1 (hV _ (M.dropn 3)).2 (by omega) (hT _ (M.dropn 3)) hso) fun w12 hb11 M a A => ?_
 refine sda A λa A↦?_
 refine qa (hK10 _ _ (wp_cond_false (A.ev rfl) ?_))
 refine wsk fun K13 hK13 => wrl (sdm A λa A↦?_)
 refine sdo A (zf rfl) λa A↦?_
 refine sdo (v := .pointer (some ⟨b, 1, none⟩)) A (qb RcD_fld_73_1 rfl rfl) λa A↦?_
 refine sdo A (qh M RcD_is1_71 rfl 0 rfl rfl) λa A↦?_
 refine sdo A (qp Tryz.underlying71 rfl) λa A↦?_
 refine sdo (v := .bool false) A (qi rfl rfl (fun w => (zk w).trans (by rw [show (decide (20000 ≤ ((rs.length : Nat) : Int))) = false from (decide_eq_false (by omega))]))) λa A↦?_
 refine sda A λa A↦?_
 refine qa (hK13 _ _ (wp_cond_false (A.ev rfl) ?_))
 refine wp_skip (hK5 _ _ (wsk fun K14 hK14 => zn (S := fun w1 => Mg w0 w1 ([])) (by kernel_rfl) ?_))
 replace M := M.drew
 refine qe A 0 rfl rfl rfl rfl hP (M.sub (cn (cn (cn (List.nil_sublist _))))) (fun w1 M => qr rfl) λa A↦?_
 refine qe A 1 rfl rfl rfl rfl hP (M.sub (cn (cn (cn (List.nil_sublist _))))) (fun w1 M => qr rfl) λa A↦?_
 refine qe A 2 rfl rfl rfl rfl hP (M.sub (cn (cn (cn (List.nil_sublist _))))) (fun w1 M => zf rfl) λa A↦?_
 refine qe (v := .pointer (some ⟨b, 1, none⟩)) A 3 rfl rfl rfl rfl hP (M.sub (cn (cn (cn (List.nil_sublist _))))) (fun w1 M => qb RcD_fld_73_1 rfl rfl) λa A↦?_
 refine qe A 5 rfl rfl rfl rfl hP (M.sub (cn (cn (cn (List.nil_sublist _))))) (fun w1 M => qr rfl) λa A↦?_
 refine qe A 6 rfl rfl rfl rfl hP (M.sub (cn (cn (cn (List.nil_sublist _))))) (fun w1 M => qr rfl) λa A↦?_
 refine vm (rs := [4, 7]) (by kernel_rfl) (by simp) ⟨?_, ?_, trivial⟩
 ·
  refine vz A 4 rfl rfl rfl rfl (qh M RcD_is1_71 rfl 0 rfl rfl) (M.sub (cn (cn (cn (List.nil_sublist _))))) λa A↦?_
  refine qw (by kernel_rfl) (jf A 7 rfl rfl rfl rfl (zg rfl rfl (fun w => by kernel_rfl)) (qfi (fun t _ => uk t) (hV _ (M.dropn 3)).1 (hV _ (M.dropn 3)).2 hvb) ?_)
  rintro _ w16 ⟨v6, us, rfl, ⟨htr, hus⟩, hM15⟩
  obtain ⟨so6, ca6, rfl⟩ := zv (hM15.has 0 rfl)
  have hun : us.length = vs.length := by have := congrArg List.length htr; simpa using this
  have hLu : ∀ t ∈ us, Lives (others w12.drew w16 [.row 42 11 (.slice so6 us.length ca6) us.length (cellsOf us)]) t := fun t ht => qee (hus t ht).1 (Dt.at_mono (fun b9 hb9 => ⟨hb9.1, fun d hd => by rw [List.mem_singleton] at hd; subst hd; exact hb9.2⟩) _ (hus t ht).2)
  replace M : Mg w0 w16 (.row 42 11 (.slice so6 us.length ca6) us.length (cellsOf us) :: .obj b (.cells #[.slice tz ts.length tc, .slice ro rs.length rc] 73) :: .row 33 7 (.slice tz ts.length tc) ts.length (qj Ty.c ts) :: .row 86 2 (.slice ro rs.length rc) rs.length (qj Rk.c rs) :: (others w12.drew w16 [.row 42 11 (.slice so6 us.length ca6) us.length (cellsOf us)] ++ Y)) := M.data 3 (qg (by simp) (qg (by simp) (qg (by simp) hY))) hM15 (qg (by simp) (ql qn))
  refine ⟨_, rfl, (M.sub (cn (cn (cn (cn (List.nil_sublist _)))))), ?_⟩
  intro a A
  refine qe (v := .agg #[.int .i64 (((t.toNat : Nat) : Int)), .slice so6 us.length ca6]) A 8 rfl rfl rfl rfl hP (M.sub (cn (cn (cn (cn (List.nil_sublist _)))))) (fun w1 M => jd rfl (fun w => by rw [show ((t.toNat : Nat) : Int) = t by omega]; kernel_rfl)) λa A↦?_
  refine qw (by kernel_rfl) (uw (e := 86) (sz := 2) (m := 1) (vs := qj Rk.c [(Rk.mk t.toNat so6 ca6 us)]) A M 9 rfl rfl rfl rfl (qs rfl (by kernel_rfl)) rfl rfl (.inl (by decide)) ?_)
  intro g17 w18 M
  refine ⟨(M.sub (cn (cn (cn (cn (cn (List.nil_sublist _))))))), ?_⟩
  intro a A
  refine qw (by kernel_rfl) (xv (e := 86) (sz := 2) (k := 4) (q := rs.length) (m := 1) (xs := qj Rk.c rs) (news := qj Rk.c [(Rk.mk t.toNat so6 ca6 us)]) (L' := fun v19 => (.row 86 2 (.slice (some ⟨g17, 0, none⟩) 1 1) 1 (qj Rk.c [(Rk.mk t.toNat so6 ca6 us)]) :: .row 42 11 (.slice so6 us.length ca6) us.length (cellsOf us) :: .obj b (.cells #[.slice tz ts.length tc, .slice ro rs.length rc] 73) :: .row 33 7 (.slice tz ts.length tc) ts.length (qj Ty.c ts) :: .row 86 2 (v19) (rs.length + 1) (qj Rk.c rs ++ qj Rk.c [(Rk.mk t.toNat so6 ca6 us)]) :: (others w12.drew w16 [.row 42 11 (.slice so6 us.length ca6) us.length (cellsOf us)] ++ Y))) A 10 rfl rfl rfl rfl (jp (z := .agg #[.int .i64 0, .slice none 0 0]) (sz := 2) (by_ := 32) Tryz.underlying71 (by kernel_rfl) rfl rfl rfl M 4 rfl rfl rfl rfl (rc_own (M.has 0 rfl)) (qff _) (by omega)) (fun _ => rfl) ?_)
  intro v19 w20 M
  replace M : Mg w0 w20 (.row 86 2 (.slice (some ⟨g17, 0, none⟩) 1 1) 1 (qj Rk.c [(Rk.mk t.toNat so6 ca6 us)]) :: .row 42 11 (.slice so6 us.length ca6) us.length (cellsOf us) :: .obj b (.cells #[.slice tz ts.length tc, .slice ro rs.length rc] 73) :: .row 33 7 (.slice tz ts.length tc) ts.length (qj Ty.c ts) :: .row 86 2 (v19) ((rs ++ [(Rk.mk t.toNat so6 ca6 us)]).length) (qj Rk.c (rs ++ [(Rk.mk t.toNat so6 ca6 us)])) :: (others w12.drew w16 [.row 42 11 (.slice so6 us.length ca6) us.length (cellsOf us)] ++ Y)) := by
   have h9 := M
   rw [← ji] at h9
   rw [List.length_append]
   exact h9
  obtain ⟨so21, ca22, rfl⟩ := zv (M.has 4 rfl)
  have hln : (rs ++ [(Rk.mk t.toNat so6 ca6 us)]).length = rs.length + 1 := by rw [List.length_append]; rfl
  refine ⟨(M.sub (cn (cn (cn (cn (cn (List.nil_sublist _))))))), ?_⟩
  intro a A
  refine qe A 11 rfl rfl rfl rfl hP (M.sub (cn (cn (cn (cn (cn (List.nil_sublist _))))))) (fun w1 M => zf rfl) λa A↦?_
  refine qe (v := .pointer (some ⟨b, 1, none⟩)) A 12 rfl rfl rfl rfl hP (M.sub (cn (cn (cn (cn (cn (List.nil_sublist _))))))) (fun w1 M => qb RcD_fld_73_1 rfl rfl) λa A↦?_
  refine qw (by kernel_rfl) (zx (us := [.slice tz ts.length tc, .slice so21 ((rs ++ [(Rk.mk t.toNat so6 ca6 us)]).length) ca22]) (L' := (.row 86 2 (.slice (some ⟨g17, 0, none⟩) 1 1) 1 (qj Rk.c [(Rk.mk t.toNat so6 ca6 us)]) :: .row 42 11 (.slice so6 us.length ca6) us.length (cellsOf us) :: .obj b (.cells #[.slice tz ts.length tc, .slice so21 ((rs ++ [(Rk.mk t.toNat so6 ca6 us)]).length) ca22] 73) :: .row 33 7 (.slice tz ts.length tc) ts.length (qj Ty.c ts) :: .row 86 2 (.slice so21 ((rs ++ [(Rk.mk t.toNat so6 ca6 us)]).length) ca22) ((rs ++ [(Rk.mk t.toNat so6 ca6 us)]).length) (qj Rk.c (rs ++ [(Rk.mk t.toNat so6 ca6 us)])) :: (others w12.drew w16 [.row 42 11 (.slice so6 us.length ca6) us.length (cellsOf us)] ++ Y))) A M 13 rfl rfl rfl (qz rfl rfl rfl (by kernel_rfl) M 2 rfl rfl rfl) 2 rfl rfl rfl ?_)
  intro w23 M
  refine ⟨(M.sub (cn (cn (cn (cn (cn (List.nil_sublist _))))))), ?_⟩
  refine zd (by kernel_rfl) ?_
  refine hK14 _ _ (wsk fun K24 hK24 => wrl (sdm A λa A↦?_))
  refine sdo A (zf rfl) λa A↦?_
  refine sdo (v := .pointer (some ⟨b, 1, none⟩)) A (qb RcD_fld_73_1 rfl rfl) λa A↦?_
  refine sdo A (qh M RcD_is1_71 rfl 2 rfl rfl) λa A↦?_
  refine sdo A (qp Tryz.underlying71 rfl) λa A↦?_
  refine sdo (v := .int .i64 ((((rs ++ [(Rk.mk t.toNat so6 ca6 us)]).length - 1 : Nat) : Int))) A (qi rfl rfl (fun w => (xb (jg (by omega) (by omega)) w).trans (by rw [show ((((rs ++ [(Rk.mk t.toNat so6 ca6 us)]).length : Nat) : Int) - 1 : Int) = (((rs ++ [(Rk.mk t.toNat so6 ca6 us)]).length - 1 : Nat) : Int) from by omega]))) λa A↦?_
  iterate 2 refine sda A λa A↦?_
  refine qa (hK24 _ _ (wp_ret (hret _ _ (en2 A rfl (qf rfl) (qf rfl) ?_))))
  replace M : Mg w0 w23 (.row 42 11 (.slice so6 us.length ca6) us.length (cellsOf us) :: .row 86 2 (.slice (some ⟨g17, 0, none⟩) 1 1) 1 (qj Rk.c [(Rk.mk t.toNat so6 ca6 us)]) :: .obj b (.cells #[.slice tz ts.length tc, .slice so21 ((rs ++ [(Rk.mk t.toNat so6 ca6 us)]).length) ca22] 73) :: .row 33 7 (.slice tz ts.length tc) ts.length (qj Ty.c ts) :: .row 86 2 (.slice so21 ((rs ++ [(Rk.mk t.toNat so6 ca6 us)]).length) ca22) ((rs ++ [(Rk.mk t.toNat so6 ca6 us)]).length) (qj Rk.c (rs ++ [(Rk.mk t.toNat so6 ca6 us)])) :: (others w12.drew w16 [.row 42 11 (.slice so6 us.length ca6) us.length (cellsOf us)] ++ Y)) := M.bring 1 rfl rfl
  replace M : Mg w0 w23 (.row 86 2 (.slice so21 ((rs ++ [(Rk.mk t.toNat so6 ca6 us)]).length) ca22) ((rs ++ [(Rk.mk t.toNat so6 ca6 us)]).length) (qj Rk.c (rs ++ [(Rk.mk t.toNat so6 ca6 us)])) :: .row 42 11 (.slice so6 us.length ca6) us.length (cellsOf us) :: .row 86 2 (.slice (some ⟨g17, 0, none⟩) 1 1) 1 (qj Rk.c [(Rk.mk t.toNat so6 ca6 us)]) :: .obj b (.cells #[.slice tz ts.length tc, .slice so21 ((rs ++ [(Rk.mk t.toNat so6 ca6 us)]).length) ca22] 73) :: .row 33 7 (.slice tz ts.length tc) ts.length (qj Ty.c ts) :: (others w12.drew w16 [.row 42 11 (.slice so6 us.length ca6) us.length (cellsOf us)] ++ Y)) := M.bring 4 rfl rfl
  replace M : Mg w0 w23 (.row 33 7 (.slice tz ts.length tc) ts.length (qj Ty.c ts) :: .row 86 2 (.slice so21 ((rs ++ [(Rk.mk t.toNat so6 ca6 us)]).length) ca22) ((rs ++ [(Rk.mk t.toNat so6 ca6 us)]).length) (qj Rk.c (rs ++ [(Rk.mk t.toNat so6 ca6 us)])) :: .row 42 11 (.slice so6 us.length ca6) us.length (cellsOf us) :: .row 86 2 (.slice (some ⟨g17, 0, none⟩) 1 1) 1 (qj Rk.c [(Rk.mk t.toNat so6 ca6 us)]) :: .obj b (.cells #[.slice tz ts.length tc, .slice so21 ((rs ++ [(Rk.mk t.toNat so6 ca6 us)]).length) ca22] 73) :: (others w12.drew w16 [.row 42 11 (.slice so6 us.length ca6) us.length (cellsOf us)] ++ Y)) := M.bring 4 rfl rfl
  replace M : Mg w0 w23 (.obj b (.cells #[.slice tz ts.length tc, .slice so21 ((rs ++ [(Rk.mk t.toNat so6 ca6 us)]).length) ca22] 73) :: .row 33 7 (.slice tz ts.length tc) ts.length (qj Ty.c ts) :: .row 86 2 (.slice so21 ((rs ++ [(Rk.mk t.toNat so6 ca6 us)]).length) ca22) ((rs ++ [(Rk.mk t.toNat so6 ca6 us)]).length) (qj Rk.c (rs ++ [(Rk.mk t.toNat so6 ca6 us)])) :: .row 42 11 (.slice so6 us.length ca6) us.length (cellsOf us) :: .row 86 2 (.slice (some ⟨g17, 0, none⟩) 1 1) 1 (qj Rk.c [(Rk.mk t.toNat so6 ca6 us)]) :: (others w12.drew w16 [.row 42 11 (.slice so6 us.length ca6) us.length (cellsOf us)] ++ Y)) := M.bring 4 rfl rfl
  replace M : Mg w0 w23 (.obj b (.cells #[.slice tz ts.length tc, .slice so21 ((rs ++ [(Rk.mk t.toNat so6 ca6 us)]).length) ca22] 73) :: .row 33 7 (.slice tz ts.length tc) ts.length (qj Ty.c ts) :: .row 86 2 (.slice so21 ((rs ++ [(Rk.mk t.toNat so6 ca6 us)]).length) ca22) ((rs ++ [(Rk.mk t.toNat so6 ca6 us)]).length) (qj Rk.c (rs ++ [(Rk.mk t.toNat so6 ca6 us)])) :: .row 42 11 (.slice so6 us.length ca6) us.length (cellsOf us) :: (others w12.drew w16 [.row 42 11 (.slice so6 us.length ca6) us.length (cellsOf us)] ++ Y)) := by
   have h9 := M.sub (cc (cc (cc (cc (cn (.refl _))))))
   exact h9
  exact ⟨us, so6, ca6, so21, ca22, _, by rw [show (rs ++ [(Rk.mk t.toNat so6 ca6 us)]).length - 1 = rs.length by omega], ⟨htr, hLu, ul⟩, M⟩
 ·
  refine jf A 7 rfl rfl rfl rfl (zg rfl rfl (fun w => by kernel_rfl)) (qfi (fun t _ => uk t) (hV _ (M.dropn 3)).1 (hV _ (M.dropn 3)).2 hvb) ?_
  rintro _ w26 ⟨v6, us, rfl, ⟨htr, hus⟩, hM25⟩
  obtain ⟨so6, ca6, rfl⟩ := zv (hM25.has 0 rfl)
  have hun : us.length = vs.length := by have := congrArg List.length htr; simpa using this
  have hLu : ∀ t ∈ us, Lives (others w12.drew w26 [.row 42 11 (.slice so6 us.length ca6) us.length (cellsOf us)]) t := fun t ht => qee (hus t ht).1 (Dt.at_mono (fun b9 hb9 => ⟨hb9.1, fun d hd => by rw [List.mem_singleton] at hd; subst hd; exact hb9.2⟩) _ (hus t ht).2)
  replace M : Mg w0 w26 (.row 42 11 (.slice so6 us.length ca6) us.length (cellsOf us) :: .obj b (.cells #[.slice tz ts.length tc, .slice ro rs.length rc] 73) :: .row 33 7 (.slice tz ts.length tc) ts.length (qj Ty.c ts) :: .row 86 2 (.slice ro rs.length rc) rs.length (qj Rk.c rs) :: (others w12.drew w26 [.row 42 11 (.slice so6 us.length ca6) us.length (cellsOf us)] ++ Y)) := M.data 3 (qg (by simp) (qg (by simp) (qg (by simp) hY))) hM25 (qg (by simp) (ql qn))
  refine ⟨_, rfl, (M.sub (cn (cn (cn (cn (List.nil_sublist _)))))), ?_⟩
  intro a A
  refine qe (v := .agg #[.int .i64 (((t.toNat : Nat) : Int)), .slice so6 us.length ca6]) A 8 rfl rfl rfl rfl hP (M.sub (cn (cn (cn (cn (List.nil_sublist _)))))) (fun w1 M => jd rfl (fun w => by rw [show ((t.toNat : Nat) : Int) = t by omega]; kernel_rfl)) λa A↦?_
  refine vm (rs := [4, 9]) (by kernel_rfl) (by simp) ⟨?_, ?_, trivial⟩
  ·
   refine vz A 4 rfl rfl rfl rfl (qh M RcD_is1_71 rfl 1 rfl rfl) (M.sub (cn (cn (cn (cn (List.nil_sublist _)))))) λa A↦?_
   refine qw (by kernel_rfl) (uw (e := 86) (sz := 2) (m := 1) (vs := qj Rk.c [(Rk.mk t.toNat so6 ca6 us)]) A M 9 rfl rfl rfl rfl (qs rfl (by kernel_rfl)) rfl rfl (.inl (by decide)) ?_)
   intro g27 w28 M
   refine ⟨(M.sub (cn (cn (cn (cn (cn (List.nil_sublist _))))))), ?_⟩
   intro a A
   refine qw (by kernel_rfl) (xv (e := 86) (sz := 2) (k := 4) (q := rs.length) (m := 1) (xs := qj Rk.c rs) (news := qj Rk.c [(Rk.mk t.toNat so6 ca6 us)]) (L' := fun v29 => (.row 86 2 (.slice (some ⟨g27, 0, none⟩) 1 1) 1 (qj Rk.c [(Rk.mk t.toNat so6 ca6 us)]) :: .row 42 11 (.slice so6 us.length ca6) us.length (cellsOf us) :: .obj b (.cells #[.slice tz ts.length tc, .slice ro rs.length rc] 73) :: .row 33 7 (.slice tz ts.length tc) ts.length (qj Ty.c ts) :: .row 86 2 (v29) (rs.length + 1) (qj Rk.c rs ++ qj Rk.c [(Rk.mk t.toNat so6 ca6 us)]) :: (others w12.drew w26 [.row 42 11 (.slice so6 us.length ca6) us.length (cellsOf us)] ++ Y))) A 10 rfl rfl rfl rfl (jp (z := .agg #[.int .i64 0, .slice none 0 0]) (sz := 2) (by_ := 32) Tryz.underlying71 (by kernel_rfl) rfl rfl rfl M 4 rfl rfl rfl rfl (rc_own (M.has 0 rfl)) (qff _) (by omega)) (fun _ => rfl) ?_)
   intro v29 w30 M
   replace M : Mg w0 w30 (.row 86 2 (.slice (some ⟨g27, 0, none⟩) 1 1) 1 (qj Rk.c [(Rk.mk t.toNat so6 ca6 us)]) :: .row 42 11 (.slice so6 us.length ca6) us.length (cellsOf us) :: .obj b (.cells #[.slice tz ts.length tc, .slice ro rs.length rc] 73) :: .row 33 7 (.slice tz ts.length tc) ts.length (qj Ty.c ts) :: .row 86 2 (v29) ((rs ++ [(Rk.mk t.toNat so6 ca6 us)]).length) (qj Rk.c (rs ++ [(Rk.mk t.toNat so6 ca6 us)])) :: (others w12.drew w26 [.row 42 11 (.slice so6 us.length ca6) us.length (cellsOf us)] ++ Y)) := by
    have h9 := M
    rw [← ji] at h9
    rw [List.length_append]
    exact h9
   obtain ⟨so31, ca32, rfl⟩ := zv (M.has 4 rfl)
   have hln : (rs ++ [(Rk.mk t.toNat so6 ca6 us)]).length = rs.length + 1 := by rw [List.length_append]; rfl
   refine ⟨(M.sub (cn (cn (cn (cn (cn (List.nil_sublist _))))))), ?_⟩
   intro a A
   refine qe A 11 rfl rfl rfl rfl hP (M.sub (cn (cn (cn (cn (cn (List.nil_sublist _))))))) (fun w1 M => zf rfl) λa A↦?_
   refine qe (v := .pointer (some ⟨b, 1, none⟩)) A 12 rfl rfl rfl rfl hP (M.sub (cn (cn (cn (cn (cn (List.nil_sublist _))))))) (fun w1 M => qb RcD_fld_73_1 rfl rfl) λa A↦?_
   refine qw (by kernel_rfl) (zx (us := [.slice tz ts.length tc, .slice so31 ((rs ++ [(Rk.mk t.toNat so6 ca6 us)]).length) ca32]) (L' := (.row 86 2 (.slice (some ⟨g27, 0, none⟩) 1 1) 1 (qj Rk.c [(Rk.mk t.toNat so6 ca6 us)]) :: .row 42 11 (.slice so6 us.length ca6) us.length (cellsOf us) :: .obj b (.cells #[.slice tz ts.length tc, .slice so31 ((rs ++ [(Rk.mk t.toNat so6 ca6 us)]).length) ca32] 73) :: .row 33 7 (.slice tz ts.length tc) ts.length (qj Ty.c ts) :: .row 86 2 (.slice so31 ((rs ++ [(Rk.mk t.toNat so6 ca6 us)]).length) ca32) ((rs ++ [(Rk.mk t.toNat so6 ca6 us)]).length) (qj Rk.c (rs ++ [(Rk.mk t.toNat so6 ca6 us)])) :: (others w12.drew w26 [.row 42 11 (.slice so6 us.length ca6) us.length (cellsOf us)] ++ Y))) A M 13 rfl rfl rfl (qz rfl rfl rfl (by kernel_rfl) M 2 rfl rfl rfl) 2 rfl rfl rfl ?_)
   intro w33 M
   refine ⟨(M.sub (cn (cn (cn (cn (cn (List.nil_sublist _))))))), ?_⟩
   refine zd (by kernel_rfl) ?_
   refine hK14 _ _ (wsk fun K34 hK34 => wrl (sdm A λa A↦?_))
   refine sdo A (zf rfl) λa A↦?_
   refine sdo (v := .pointer (some ⟨b, 1, none⟩)) A (qb RcD_fld_73_1 rfl rfl) λa A↦?_
   refine sdo A (qh M RcD_is1_71 rfl 2 rfl rfl) λa A↦?_
   refine sdo A (qp Tryz.underlying71 rfl) λa A↦?_
   refine sdo (v := .int .i64 ((((rs ++ [(Rk.mk t.toNat so6 ca6 us)]).length - 1 : Nat) : Int))) A (qi rfl rfl (fun w => (xb (jg (by omega) (by omega)) w).trans (by rw [show ((((rs ++ [(Rk.mk t.toNat so6 ca6 us)]).length : Nat) : Int) - 1 : Int) = (((rs ++ [(Rk.mk t.toNat so6 ca6 us)]).length - 1 : Nat) : Int) from by omega]))) λa A↦?_
   iterate 2 refine sda A λa A↦?_
   refine qa (hK34 _ _ (wp_ret (hret _ _ (en2 A rfl (qf rfl) (qf rfl) ?_))))
   replace M : Mg w0 w33 (.row 42 11 (.slice so6 us.length ca6) us.length (cellsOf us) :: .row 86 2 (.slice (some ⟨g27, 0, none⟩) 1 1) 1 (qj Rk.c [(Rk.mk t.toNat so6 ca6 us)]) :: .obj b (.cells #[.slice tz ts.length tc, .slice so31 ((rs ++ [(Rk.mk t.toNat so6 ca6 us)]).length) ca32] 73) :: .row 33 7 (.slice tz ts.length tc) ts.length (qj Ty.c ts) :: .row 86 2 (.slice so31 ((rs ++ [(Rk.mk t.toNat so6 ca6 us)]).length) ca32) ((rs ++ [(Rk.mk t.toNat so6 ca6 us)]).length) (qj Rk.c (rs ++ [(Rk.mk t.toNat so6 ca6 us)])) :: (others w12.drew w26 [.row 42 11 (.slice so6 us.length ca6) us.length (cellsOf us)] ++ Y)) := M.bring 1 rfl rfl
   replace M : Mg w0 w33 (.row 86 2 (.slice so31 ((rs ++ [(Rk.mk t.toNat so6 ca6 us)]).length) ca32) ((rs ++ [(Rk.mk t.toNat so6 ca6 us)]).length) (qj Rk.c (rs ++ [(Rk.mk t.toNat so6 ca6 us)])) :: .row 42 11 (.slice so6 us.length ca6) us.length (cellsOf us) :: .row 86 2 (.slice (some ⟨g27, 0, none⟩) 1 1) 1 (qj Rk.c [(Rk.mk t.toNat so6 ca6 us)]) :: .obj b (.cells #[.slice tz ts.length tc, .slice so31 ((rs ++ [(Rk.mk t.toNat so6 ca6 us)]).length) ca32] 73) :: .row 33 7 (.slice tz ts.length tc) ts.length (qj Ty.c ts) :: (others w12.drew w26 [.row 42 11 (.slice so6 us.length ca6) us.length (cellsOf us)] ++ Y)) := M.bring 4 rfl rfl
   replace M : Mg w0 w33 (.row 33 7 (.slice tz ts.length tc) ts.length (qj Ty.c ts) :: .row 86 2 (.slice so31 ((rs ++ [(Rk.mk t.toNat so6 ca6 us)]).length) ca32) ((rs ++ [(Rk.mk t.toNat so6 ca6 us)]).length) (qj Rk.c (rs ++ [(Rk.mk t.toNat so6 ca6 us)])) :: .row 42 11 (.slice so6 us.length ca6) us.length (cellsOf us) :: .row 86 2 (.slice (some ⟨g27, 0, none⟩) 1 1) 1 (qj Rk.c [(Rk.mk t.toNat so6 ca6 us)]) :: .obj b (.cells #[.slice tz ts.length tc, .slice so31 ((rs ++ [(Rk.mk t.toNat so6 ca6 us)]).length) ca32] 73) :: (others w12.drew w26 [.row 42 11 (.slice so6 us.length ca6) us.length (cellsOf us)] ++ Y)) := M.bring 4 rfl rfl
   replace M : Mg w0 w33 (.obj b (.cells #[.slice tz ts.length tc, .slice so31 ((rs ++ [(Rk.mk t.toNat so6 ca6 us)]).length) ca32] 73) :: .row 33 7 (.slice tz ts.length tc) ts.length (qj Ty.c ts) :: .row 86 2 (.slice so31 ((rs ++ [(Rk.mk t.toNat so6 ca6 us)]).length) ca32) ((rs ++ [(Rk.mk t.toNat so6 ca6 us)]).length) (qj Rk.c (rs ++ [(Rk.mk t.toNat so6 ca6 us)])) :: .row 42 11 (.slice so6 us.length ca6) us.length (cellsOf us) :: .row 86 2 (.slice (some ⟨g27, 0, none⟩) 1 1) 1 (qj Rk.c [(Rk.mk t.toNat so6 ca6 us)]) :: (others w12.drew w26 [.row 42 11 (.slice so6 us.length ca6) us.length (cellsOf us)] ++ Y)) := M.bring 4 rfl rfl
   replace M : Mg w0 w33 (.obj b (.cells #[.slice tz ts.length tc, .slice so31 ((rs ++ [(Rk.mk t.toNat so6 ca6 us)]).length) ca32] 73) :: .row 33 7 (.slice tz ts.length tc) ts.length (qj Ty.c ts) :: .row 86 2 (.slice so31 ((rs ++ [(Rk.mk t.toNat so6 ca6 us)]).length) ca32) ((rs ++ [(Rk.mk t.toNat so6 ca6 us)]).length) (qj Rk.c (rs ++ [(Rk.mk t.toNat so6 ca6 us)])) :: .row 42 11 (.slice so6 us.length ca6) us.length (cellsOf us) :: (others w12.drew w26 [.row 42 11 (.slice so6 us.length ca6) us.length (cellsOf us)] ++ Y)) := by
    have h9 := M.sub (cc (cc (cc (cc (cn (.refl _))))))
    exact h9
   exact ⟨us, so6, ca6, so31, ca32, _, by rw [show (rs ++ [(Rk.mk t.toNat so6 ca6 us)]).length - 1 = rs.length by omega], ⟨htr, hLu, ul⟩, M⟩
  ·
   refine uw (e := 86) (sz := 2) (m := 1) (vs := qj Rk.c [(Rk.mk t.toNat so6 ca6 us)]) A M 9 rfl rfl rfl rfl (qs rfl (by kernel_rfl)) rfl rfl (.inl (by decide)) ?_
   intro g35 w36 M
   refine ⟨(M.sub (cn (cn (cn (cn (cn (List.nil_sublist _))))))), ?_⟩
   intro a A
   refine qw (by kernel_rfl) (vz A 4 rfl rfl rfl rfl (qh M RcD_is1_71 rfl 2 rfl rfl) (M.sub (cn (cn (cn (cn (cn (List.nil_sublist _))))))) ?_)
   intro a A
   refine qw (by kernel_rfl) (xv (e := 86) (sz := 2) (k := 4) (q := rs.length) (m := 1) (xs := qj Rk.c rs) (news := qj Rk.c [(Rk.mk t.toNat so6 ca6 us)]) (L' := fun v37 => (.row 86 2 (.slice (some ⟨g35, 0, none⟩) 1 1) 1 (qj Rk.c [(Rk.mk t.toNat so6 ca6 us)]) :: .row 42 11 (.slice so6 us.length ca6) us.length (cellsOf us) :: .obj b (.cells #[.slice tz ts.length tc, .slice ro rs.length rc] 73) :: .row 33 7 (.slice tz ts.length tc) ts.length (qj Ty.c ts) :: .row 86 2 (v37) (rs.length + 1) (qj Rk.c rs ++ qj Rk.c [(Rk.mk t.toNat so6 ca6 us)]) :: (others w12.drew w26 [.row 42 11 (.slice so6 us.length ca6) us.length (cellsOf us)] ++ Y))) A 10 rfl rfl rfl rfl (jp (z := .agg #[.int .i64 0, .slice none 0 0]) (sz := 2) (by_ := 32) Tryz.underlying71 (by kernel_rfl) rfl rfl rfl M 4 rfl rfl rfl rfl (rc_own (M.has 0 rfl)) (qff _) (by omega)) (fun _ => rfl) ?_)
   intro v37 w38 M
   replace M : Mg w0 w38 (.row 86 2 (.slice (some ⟨g35, 0, none⟩) 1 1) 1 (qj Rk.c [(Rk.mk t.toNat so6 ca6 us)]) :: .row 42 11 (.slice so6 us.length ca6) us.length (cellsOf us) :: .obj b (.cells #[.slice tz ts.length tc, .slice ro rs.length rc] 73) :: .row 33 7 (.slice tz ts.length tc) ts.length (qj Ty.c ts) :: .row 86 2 (v37) ((rs ++ [(Rk.mk t.toNat so6 ca6 us)]).length) (qj Rk.c (rs ++ [(Rk.mk t.toNat so6 ca6 us)])) :: (others w12.drew w26 [.row 42 11 (.slice so6 us.length ca6) us.length (cellsOf us)] ++ Y)) := by
    have h9 := M
    rw [← ji] at h9
    rw [List.length_append]
    exact h9
   obtain ⟨so39, ca40, rfl⟩ := zv (M.has 4 rfl)
   have hln : (rs ++ [(Rk.mk t.toNat so6 ca6 us)]).length = rs.length + 1 := by rw [List.length_append]; rfl
   refine ⟨(M.sub (cn (cn (cn (cn (cn (List.nil_sublist _))))))), ?_⟩
   intro a A
   refine qe A 11 rfl rfl rfl rfl hP (M.sub (cn (cn (cn (cn (cn (List.nil_sublist _))))))) (fun w1 M => zf rfl) λa A↦?_
   refine qe (v := .pointer (some ⟨b, 1, none⟩)) A 12 rfl rfl rfl rfl hP (M.sub (cn (cn (cn (cn (cn (List.nil_sublist _))))))) (fun w1 M => qb RcD_fld_73_1 rfl rfl) λa A↦?_
   refine qw (by kernel_rfl) (zx (us := [.slice tz ts.length tc, .slice so39 ((rs ++ [(Rk.mk t.toNat so6 ca6 us)]).length) ca40]) (L' := (.row 86 2 (.slice (some ⟨g35, 0, none⟩) 1 1) 1 (qj Rk.c [(Rk.mk t.toNat so6 ca6 us)]) :: .row 42 11 (.slice so6 us.length ca6) us.length (cellsOf us) :: .obj b (.cells #[.slice tz ts.length tc, .slice so39 ((rs ++ [(Rk.mk t.toNat so6 ca6 us)]).length) ca40] 73) :: .row 33 7 (.slice tz ts.length tc) ts.length (qj Ty.c ts) :: .row 86 2 (.slice so39 ((rs ++ [(Rk.mk t.toNat so6 ca6 us)]).length) ca40) ((rs ++ [(Rk.mk t.toNat so6 ca6 us)]).length) (qj Rk.c (rs ++ [(Rk.mk t.toNat so6 ca6 us)])) :: (others w12.drew w26 [.row 42 11 (.slice so6 us.length ca6) us.length (cellsOf us)] ++ Y))) A M 13 rfl rfl rfl (qz rfl rfl rfl (by kernel_rfl) M 2 rfl rfl rfl) 2 rfl rfl rfl ?_)
   intro w41 M
   refine ⟨(M.sub (cn (cn (cn (cn (cn (List.nil_sublist _))))))), ?_⟩
   refine zd (by kernel_rfl) ?_
   refine hK14 _ _ (wsk fun K42 hK42 => wrl (sdm A λa A↦?_))
   refine sdo A (zf rfl) λa A↦?_
   refine sdo (v := .pointer (some ⟨b, 1, none⟩)) A (qb RcD_fld_73_1 rfl rfl) λa A↦?_
   refine sdo A (qh M RcD_is1_71 rfl 2 rfl rfl) λa A↦?_
   refine sdo A (qp Tryz.underlying71 rfl) λa A↦?_
   refine sdo (v := .int .i64 ((((rs ++ [(Rk.mk t.toNat so6 ca6 us)]).length - 1 : Nat) : Int))) A (qi rfl rfl (fun w => (xb (jg (by omega) (by omega)) w).trans (by rw [show ((((rs ++ [(Rk.mk t.toNat so6 ca6 us)]).length : Nat) : Int) - 1 : Int) = (((rs ++ [(Rk.mk t.toNat so6 ca6 us)]).length - 1 : Nat) : Int) from by omega]))) λa A↦?_
   iterate 2 refine sda A λa A↦?_
   refine qa (hK42 _ _ (wp_ret (hret _ _ (en2 A rfl (qf rfl) (qf rfl) ?_))))
   replace M : Mg w0 w41 (.row 42 11 (.slice so6 us.length ca6) us.length (cellsOf us) :: .row 86 2 (.slice (some ⟨g35, 0, none⟩) 1 1) 1 (qj Rk.c [(Rk.mk t.toNat so6 ca6 us)]) :: .obj b (.cells #[.slice tz ts.length tc, .slice so39 ((rs ++ [(Rk.mk t.toNat so6 ca6 us)]).length) ca40] 73) :: .row 33 7 (.slice tz ts.length tc) ts.length (qj Ty.c ts) :: .row 86 2 (.slice so39 ((rs ++ [(Rk.mk t.toNat so6 ca6 us)]).length) ca40) ((rs ++ [(Rk.mk t.toNat so6 ca6 us)]).length) (qj Rk.c (rs ++ [(Rk.mk t.toNat so6 ca6 us)])) :: (others w12.drew w26 [.row 42 11 (.slice so6 us.length ca6) us.length (cellsOf us)] ++ Y)) := M.bring 1 rfl rfl
   replace M : Mg w0 w41 (.row 86 2 (.slice so39 ((rs ++ [(Rk.mk t.toNat so6 ca6 us)]).length) ca40) ((rs ++ [(Rk.mk t.toNat so6 ca6 us)]).length) (qj Rk.c (rs ++ [(Rk.mk t.toNat so6 ca6 us)])) :: .row 42 11 (.slice so6 us.length ca6) us.length (cellsOf us) :: .row 86 2 (.slice (some ⟨g35, 0, none⟩) 1 1) 1 (qj Rk.c [(Rk.mk t.toNat so6 ca6 us)]) :: .obj b (.cells #[.slice tz ts.length tc, .slice so39 ((rs ++ [(Rk.mk t.toNat so6 ca6 us)]).length) ca40] 73) :: .row 33 7 (.slice tz ts.length tc) ts.length (qj Ty.c ts) :: (others w12.drew w26 [.row 42 11 (.slice so6 us.length ca6) us.length (cellsOf us)] ++ Y)) := M.bring 4 rfl rfl
   replace M : Mg w0 w41 (.row 33 7 (.slice tz ts.length tc) ts.length (qj Ty.c ts) :: .row 86 2 (.slice so39 ((rs ++ [(Rk.mk t.toNat so6 ca6 us)]).length) ca40) ((rs ++ [(Rk.mk t.toNat so6 ca6 us)]).length) (qj Rk.c (rs ++ [(Rk.mk t.toNat so6 ca6 us)])) :: .row 42 11 (.slice so6 us.length ca6) us.length (cellsOf us) :: .row 86 2 (.slice (some ⟨g35, 0, none⟩) 1 1) 1 (qj Rk.c [(Rk.mk t.toNat so6 ca6 us)]) :: .obj b (.cells #[.slice tz ts.length tc, .slice so39 ((rs ++ [(Rk.mk t.toNat so6 ca6 us)]).length) ca40] 73) :: (others w12.drew w26 [.row 42 11 (.slice so6 us.length ca6) us.length (cellsOf us)] ++ Y)) := M.bring 4 rfl rfl
   replace M : Mg w0 w41 (.obj b (.cells #[.slice tz ts.length tc, .slice so39 ((rs ++ [(Rk.mk t.toNat so6 ca6 us)]).length) ca40] 73) :: .row 33 7 (.slice tz ts.length tc) ts.length (qj Ty.c ts) :: .row 86 2 (.slice so39 ((rs ++ [(Rk.mk t.toNat so6 ca6 us)]).length) ca40) ((rs ++ [(Rk.mk t.toNat so6 ca6 us)]).length) (qj Rk.c (rs ++ [(Rk.mk t.toNat so6 ca6 us)])) :: .row 42 11 (.slice so6 us.length ca6) us.length (cellsOf us) :: .row 86 2 (.slice (some ⟨g35, 0, none⟩) 1 1) 1 (qj Rk.c [(Rk.mk t.toNat so6 ca6 us)]) :: (others w12.drew w26 [.row 42 11 (.slice so6 us.length ca6) us.length (cellsOf us)] ++ Y)) := M.bring 4 rfl rfl
   replace M : Mg w0 w41 (.obj b (.cells #[.slice tz ts.length tc, .slice so39 ((rs ++ [(Rk.mk t.toNat so6 ca6 us)]).length) ca40] 73) :: .row 33 7 (.slice tz ts.length tc) ts.length (qj Ty.c ts) :: .row 86 2 (.slice so39 ((rs ++ [(Rk.mk t.toNat so6 ca6 us)]).length) ca40) ((rs ++ [(Rk.mk t.toNat so6 ca6 us)]).length) (qj Rk.c (rs ++ [(Rk.mk t.toNat so6 ca6 us)])) :: .row 42 11 (.slice so6 us.length ca6) us.length (cellsOf us) :: (others w12.drew w26 [.row 42 11 (.slice so6 us.length ca6) us.length (cellsOf us)] ++ Y)) := by
    have h9 := M.sub (cc (cc (cc (cc (cn (.refl _))))))
    exact h9
   exact ⟨us, so6, ca6, so39, ca40, _, by rw [show (rs ++ [(Rk.mk t.toNat so6 ca6 us)]).length - 1 = rs.length by omega], ⟨htr, hLu, ul⟩, M⟩
section
variable {P : Program} {w0 w : World} {L : List Ck} {l : List (Nat × Value)} {dst : Option Tmp} {ty : TypeId} {pos : String} {after : Array Edge} {guard : Option (Nat × Bool)} {v : Value} {ops : List Oper} {Q : Exit → Act → World → Prop} {a : Act} {n : Nat} {o : Oper} {S : World → Prop} {md : Region.Mode} {fuel : Nat} {listed : Array Bool}
theorem qsb (M : Mg w0 w L) (k : Nat) {e : TypeId} {sz n cap : Nat} {so : Option Addr} {xs : List Value} (hk : L[k]? = some (.row e sz (.slice so n cap) n xs)) (hn : 0 < n) : ∃ g, so = some ⟨g, 0, none⟩ := by
 rcases (M.has k hk).2 with ⟨_, h0⟩ | ⟨g, cap', cur, he, _⟩
 ·
  omega
 ·
  cases he; exact ⟨g, rfl⟩
theorem yn {t e : TypeId} {sz : Nat} (hu : P.underlying t = some (.slice e)) (he : (P.info? e).map (·.size) = some sz) {x i : Operand} {so : Option Addr} {g n c k : Nat} {z : Int} (hx : ev l x = some (.slice so n c)) (hi : ev l i = some (.int .i64 z)) (hz : z = (k : Nat)) (hso : so = some ⟨g, 0, none⟩) (hk : k < n) : Does P l ⟨dst, .indexAddr t x i, ty, pos, after, guard⟩ w (.pointer (some ⟨g, k * sz, none⟩)) w := by
 subst hso
 exact xp hu he hx hi hz hk
theorem qld {t : TypeId} {x y : Operand} {g q : Nat} {u : Value} {cs : List Value} {so : Option Addr} (hso : so = some ⟨g, 0, none⟩) (hx : ev l x = some (.pointer (some ⟨g, q, none⟩))) (hy : ev l y = some u) (hc : u.cells = cs.toArray) (hn : (P.info? t).map (·.size) = some cs.length) (M : Mg w0 w L) (k : Nat) {e : TypeId} {sz m cap : Nat} {xs : List Value} (hk0 : L[k]? = some (.row e sz (.slice so m cap) m xs)) (hl : q + cs.length ≤ m * sz) (h1 : cs.all Value.oneCell' = true) : Sets P l ⟨dst, .store t x y, ty, pos, after, guard⟩ w (w.setCells g q cs) := by
 subst hso
 exact qdd hx hy hc hn M k hk0 hl h1
theorem zjj (A : Sl a n l) (M : Mg w0 w L) (i : Nat) (hi : ops[i]? = some o) (hg : zu l ops o = true) (hdst : o.dst = none) {g q m cap : Nat} {cs xs us : List Value} {e : TypeId} {sz : Nat} {so : Option Addr} (he : Sets P l o w (w.setCells g q cs)) (hso : so = some ⟨g, 0, none⟩) (k : Nat) (hk0 : L[k]? = some (.row e sz (.slice so m cap) m xs)) (hus : over xs q cs = us) {L' : List Ck} (hL : L.set k (.row e sz (.slice so m cap) m us) = L')
  (hk : ∀ w', Mg w0 w' L' → S w' ∧ wpAnyH P md ops.toArray Q S fuel (listed.setIfInBounds i true) a w') : wpOp P ops.toArray Q i (fun a' w' => S w' ∧ wpAnyH P md ops.toArray Q S fuel (listed.setIfInBounds i true) a' w') a w := by
 subst hso
 exact zdh A M i hi hg hdst he k hk0 hus hL hk
end
set_option maxHeartbeats 2000000 in
theorem zrj {w0 w : World} {b tc rc : Nat} {tz ro : Option Addr} {ts : List Ty} {rs : List Rk} {Y : List Ck} (hY : jk Y) (hW : WS (ts.map Ty.k) (rs.map Rk.k)) {x : Rk} (hsr : ∀ w1, Mg w0 w1 (.obj b (.cells #[.slice tz ts.length tc, .slice ro rs.length rc] 73) :: .row 33 7 (.slice tz ts.length tc) ts.length (qj Ty.c ts) :: .row 86 2 (.slice ro rs.length rc) rs.length (qj Rk.c rs) :: .row 42 11 (.slice x.vo x.vs.length x.vc) x.vs.length (cellsOf x.vs) :: Y) → SR w1 b tz tc ts ro rc rs) (hM0 : Mg w0 w (.obj b (.cells #[.slice tz ts.length tc, .slice ro rs.length rc] 73) :: .row 33 7 (.slice tz ts.length tc) ts.length (qj Ty.c ts) :: .row 86 2 (.slice ro rs.length rc) rs.length (qj Rk.c rs) :: .row 42 11 (.slice x.vo x.vs.length x.vc) x.vs.length (cellsOf x.vs) :: Y)) {v : Dt} (hv : ∀ w1, Mg w0 w1 Y → v.rd w1) (hvb : v.tr.bulk ≤ 1000000000) (hT : ∀ w1, Mg w0 w1 Y → Tabs8 w1) {r t i : Int} (hx : rs[r.toNat]? = some x) (hpl0 : (plS (ts.map Ty.k) (rs.map Rk.k) r t i).2 = 0) (hso : jn ja v.tr = true) (hmu : ((((ts.map Ty.k)[t.toNat]?).map fun k => (k.ms[i.toNat]?).getD false).getD false) = true) : Calls Tryz.prog 16 #[.pointer (some ⟨b, 0, none⟩), .int .i64 r, .int .i64 t, .int .i64 i, .agg (v.d.cells v.ts.length).toArray] w fun e w' => ∃ (v2 : Dt) (F : List Ck), e = .returned (.int .i64 0) ∧ (v2.tr = v.tr ∧ Lives F v2 ∧ jk F) ∧ Mg w0 w' (.obj b (.cells #[.slice tz ts.length tc, .slice ro rs.length rc] 73) :: .row 33 7 (.slice tz ts.length tc) ts.length (qj Ty.c ts) :: .row 86 2 (.slice ro rs.length rc) rs.length (qj Rk.c rs) :: .row 42 11 (.slice x.vo x.vs.length x.vc) x.vs.length (cellsOf (x.vs.set ((plS (ts.map Ty.k) (rs.map Rk.k) r t i).1.toNat) v2)) :: (F ++ Y)) := by
 have hkl := hW.kl
 have hrl := hW.rl
 rw [List.length_map] at hkl hrl
 obtain ⟨x9, k9, hx9, hk9, p1, p2, p3, p4, p5, p6, p7, p8, p9, p10⟩ := qoe hW hpl0
 rw [List.length_map] at p2 p4
 obtain rfl : x9 = x.k := Option.some.inj (hx9.symm.trans (xf hx))
 rw [show x.k.2.length = x.vs.length from List.length_map _] at p9 p10
 obtain ⟨gx, hgx⟩ := qsb hM0 3 rfl (show 0 < x.vs.length by omega)
 have M : Mg w0 w (.obj b (.cells #[.slice tz ts.length tc, .slice ro rs.length rc] 73) :: .row 33 7 (.slice tz ts.length tc) ts.length (qj Ty.c ts) :: .row 86 2 (.slice ro rs.length rc) rs.length (qj Rk.c rs) :: .row 42 11 (.slice x.vo x.vs.length x.vc) x.vs.length (cellsOf x.vs) :: Y) := hM0
 refine qx (l := [(0, .pointer (some ⟨b, 0, none⟩)), (1, .int .i64 r), (2, .int .i64 t), (3, .int .i64 i), (4, .agg (v.d.cells v.ts.length).toArray)]) Tryz.func16 rfl Tryz.ntmps16 rfl rfl ?_
 intro Q hret hnorm hP a A
 refine wsk fun K1 hK1 => wrl (jb (vs := (v.d.cells v.ts.length)) (t := 42) A M rfl rfl rfl pg (zh rfl rfl) (by decide) ?_)
 intro g2 w3 M a A
 refine sda A λa A↦?_
 refine qa (hK1 _ _ (wsk fun K4 hK4 => wrl ?_))
 iterate 4 refine sdm A λa A↦?_
 refine gcl A M (ef rfl rfl) ((hpl0 ▸ yy (hsr _ ((show Mg _ _ (.obj b (.cells #[.slice tz ts.length tc, .slice ro rs.length rc] 73) :: .row 33 7 (.slice tz ts.length tc) ts.length (qj Ty.c ts) :: .row 86 2 (.slice ro rs.length rc) rs.length (qj Rk.c rs) :: .row 42 11 (.slice x.vo x.vs.length x.vc) x.vs.length (cellsOf x.vs) :: Y) from (M.dropn 1)))) hW)) fun w6 hb5 M a A => ?_
 refine sdm A λa A↦?_
 iterate 2 refine sdo A (ze (vs := [.int .i64 ((plS (ts.map Ty.k) (rs.map Rk.k) r t i).1), .int .i64 0]) rfl rfl) λa A↦?_
 iterate 2 refine sda A λa A↦?_
 refine qa (hK4 _ _ (wsk fun K7 hK7 => wp_block (wsk fun K8 hK8 => wrl (sdm A λa A↦?_))))
 refine sdo (v := .bool false) A (qi rfl rfl (fun w => by kernel_rfl)) λa A↦?_
 refine sda A λa A↦?_
 refine qa (hK8 _ _ (wp_cond_false (A.ev rfl) ?_))
 refine wsk fun K9 hK9 => wrl (sdo A (qy M RcD_isS_42 rfl 0 rfl (cs := (v.d.cells v.ts.length)) rfl rfl) λa A↦?_)
 refine gcl A M (ef rfl rfl) ((hso ▸ sound_any (t := v) (hv _ (M.dropn 5)) (hT _ (M.dropn 5)))) fun w11 hb10 M a A => ?_
 refine sdo (v := .bool false) A (zj rfl zq) λa A↦?_
 refine sda A λa A↦?_
 refine qa (hK9 _ _ (wp_cond_false (A.ev rfl) ?_))
 refine wsk fun K12 hK12 => wrl (sdm A λa A↦?_)
 refine sdo A (zf rfl) λa A↦?_
 refine sdo (v := .pointer (some ⟨b, 0, none⟩)) A (qb RcD_fld_73_0 rfl rfl) λa A↦?_
 refine sdo A (qh M RcD_is1_26 rfl 1 rfl rfl) λa A↦?_
 refine sdm A λa A↦?_
 obtain ⟨ty13, bt14, ot15, it16, mt17, rt18, lt19, Ht20⟩ := ((hsr _ ((show Mg _ _ (.obj b (.cells #[.slice tz ts.length tc, .slice ro rs.length rc] 73) :: .row 33 7 (.slice tz ts.length tc) ts.length (qj Ty.c ts) :: .row 86 2 (.slice ro rs.length rc) rs.length (qj Rk.c rs) :: .row 42 11 (.slice x.vo x.vs.length x.vc) x.vs.length (cellsOf x.vs) :: Y) from (M.dropn 1))))).T.at_ (i := t.toNat) (by omega)
 refine sdo (v := .pointer (some ⟨bt14, ot15 + t.toNat * 7, none⟩)) A (zb (k := t.toNat) Tryz.underlying26 (by kernel_rfl) rfl rfl (by first | rfl | omega) lt19 (by omega)) λa A↦?_
 refine sdo (v := .pointer (some ⟨bt14, ot15 + t.toNat * 7 + 3, none⟩)) A (qb RcD_fld_33_3 rfl rfl) λa A↦?_
 refine sdo A (qef (j := 3) ux (by decide) M 2 rfl it16 lt19 rfl RcD_is1_31 rfl (by omega)) λa A↦?_
 refine sdm A λa A↦?_
 have hml := hW.ml _ (List.mem_of_getElem? (zl it16))
 rw [show ty13.k.fs.length = ty13.fs.length from rfl, show ty13.k.ms.length = ty13.ms.length from rfl] at hml
 obtain rfl : k9 = ty13.k := Option.some.inj (hk9.symm.trans (zl it16))
 rw [show ty13.k.fs.length = ty13.fs.length from rfl] at p6
 obtain ⟨bx21, ox22, sx23, hs24, hc25, hi26⟩ := E.Rl.at_ rt18.m (i := i.toNat) (by omega)
 rw [hk9] at hmu
 replace hmu : (ty13.ms[i.toNat]?).getD false = true := hmu
 rw [hi26] at hmu
 obtain rfl : sx23 = true := hmu
 refine sdo (v := .pointer (some ⟨bx21, ox22 + i.toNat, none⟩)) A (zp (k := i.toNat) Tryz.underlying31 (by kernel_rfl) rfl rfl (by omega) hs24 (by omega)) λa A↦?_
 refine sdo A (qdi hc25 RcD_is1_4 rfl) λa A↦?_
 refine sdo (v := .bool false) A (zj rfl zq) λa A↦?_
 refine sda A λa A↦?_
 refine qa (hK12 _ _ (wp_cond_false (A.ev rfl) ?_))
 refine wp_skip (hK7 _ _ (wsk fun K27 hK27 => zn (S := fun w1 => Mg w0 w1 (.obj g2 (.cells (v.d.cells v.ts.length).toArray 42) :: .obj b (.cells #[.slice tz ts.length tc, .slice ro rs.length rc] 73) :: .row 86 2 (.slice ro rs.length rc) rs.length (qj Rk.c rs) :: [])) (by kernel_rfl) ?_))
 replace M := M.drew
 refine qe A 0 rfl rfl rfl rfl hP (M.sub (cc (cc (cn (cc (cn (List.nil_sublist _))))))) (fun w1 M => qr rfl) λa A↦?_
 refine qe A 1 rfl rfl rfl rfl hP (M.sub (cc (cc (cn (cc (cn (List.nil_sublist _))))))) (fun w1 M => zf rfl) λa A↦?_
 refine qe (v := .pointer (some ⟨b, 1, none⟩)) A 2 rfl rfl rfl rfl hP (M.sub (cc (cc (cn (cc (cn (List.nil_sublist _))))))) (fun w1 M => qb RcD_fld_73_1 rfl rfl) λa A↦?_
 refine qe A 3 rfl rfl rfl rfl hP (M.sub (cc (cc (cn (cc (cn (List.nil_sublist _))))))) (fun w1 M => qh M RcD_is1_71 rfl 1 rfl rfl) λa A↦?_
 refine qe A 4 rfl rfl rfl rfl hP (M.sub (cc (cc (cn (cc (cn (List.nil_sublist _))))))) (fun w1 M => qr rfl) λa A↦?_
 obtain ⟨rk28, br29, or30, ir31, mr32, rr33, lr34, Hr35⟩ := ((hsr _ ((show Mg _ _ (.obj b (.cells #[.slice tz ts.length tc, .slice ro rs.length rc] 73) :: .row 33 7 (.slice tz ts.length tc) ts.length (qj Ty.c ts) :: .row 86 2 (.slice ro rs.length rc) rs.length (qj Rk.c rs) :: .row 42 11 (.slice x.vo x.vs.length x.vc) x.vs.length (cellsOf x.vs) :: Y) from (M.dropn 1))))).R.at_ (i := r.toNat) (by omega)
 obtain rfl : x = rk28 := Option.some.inj (hx.symm.trans ir31)
 refine qe (v := .pointer (some ⟨br29, or30 + r.toNat * 2, none⟩)) A 5 rfl rfl rfl rfl hP (M.sub (cc (cc (cn (cc (cn (List.nil_sublist _))))))) (fun w1 M => zb (k := r.toNat) Tryz.underlying71 (by kernel_rfl) rfl rfl (by first | rfl | omega) lr34 (by omega)) λa A↦?_
 refine qe (v := .pointer (some ⟨br29, or30 + r.toNat * 2 + 1, none⟩)) A 6 rfl rfl rfl rfl hP (M.sub (cc (cc (cn (cc (cn (List.nil_sublist _))))))) (fun w1 M => qb RcD_fld_86_1 rfl rfl) λa A↦?_
 refine qe A 7 rfl rfl rfl rfl hP (M.sub (cc (cc (cn (cc (cn (List.nil_sublist _))))))) (fun w1 M => qef (j := 1) ug (by decide) M 2 rfl ir31 lr34 rfl RcD_is1_34 rfl (by omega)) λa A↦?_
 refine qe A 8 rfl rfl rfl rfl hP (M.sub (cc (cc (cn (cc (cn (List.nil_sublist _))))))) (fun w1 M => qr rfl) λa A↦?_
 refine qe A 9 rfl rfl rfl rfl hP (M.sub (cc (cc (cn (cc (cn (List.nil_sublist _))))))) (fun w1 M => qy M RcD_isS_42 rfl 0 rfl (cs := (v.d.cells v.ts.length)) rfl rfl) λa A↦?_
 refine qw (by kernel_rfl) (jf A 10 rfl rfl rfl rfl (zg rfl rfl (fun w => by kernel_rfl)) (uk v (hv _ (M.dropn 5)) hvb) ?_)
 rintro _ w37 ⟨v2, rfl, ⟨hr2, ho2, ht2⟩, hb36⟩
 have hL2 := qje hr2 ho2
 replace M : Mg w0 w37 (.obj g2 (.cells (v.d.cells v.ts.length).toArray 42) :: .obj b (.cells #[.slice tz ts.length tc, .slice ro rs.length rc] 73) :: .row 33 7 (.slice tz ts.length tc) ts.length (qj Ty.c ts) :: .row 86 2 (.slice ro rs.length rc) rs.length (qj Rk.c rs) :: .row 42 11 (.slice x.vo x.vs.length x.vc) x.vs.length (cellsOf x.vs) :: (made w11.drew w37 ++ Y)) := M.freezeAt 5 (qg (by simp) (qg (by simp) (qg (by simp) (qg (by simp) (qg (by simp) hY))))) hb36
 refine ⟨_, rfl, (M.sub (cc (cc (cn (cc (cn (List.nil_sublist _))))))), ?_⟩
 intro a A
 refine qe (v := .pointer (some ⟨gx, (plS (ts.map Ty.k) (rs.map Rk.k) r t i).1.toNat * 11, none⟩)) A 11 rfl rfl rfl rfl hP (M.sub (cc (cc (cn (cc (cn (List.nil_sublist _))))))) (fun w1 M => yn (k := (plS (ts.map Ty.k) (rs.map Rk.k) r t i).1.toNat) Tryz.underlying34 (by kernel_rfl) rfl rfl (by omega) hgx (by omega)) λa A↦?_
 refine qw (by kernel_rfl) (zjj (cs := v2.d.cells v2.ts.length) (us := cellsOf (x.vs.set ((plS (ts.map Ty.k) (rs.map Rk.k) r t i).1.toNat) v2)) (L' := (.obj g2 (.cells (v.d.cells v.ts.length).toArray 42) :: .obj b (.cells #[.slice tz ts.length tc, .slice ro rs.length rc] 73) :: .row 33 7 (.slice tz ts.length tc) ts.length (qj Ty.c ts) :: .row 86 2 (.slice ro rs.length rc) rs.length (qj Rk.c rs) :: .row 42 11 (.slice x.vo x.vs.length x.vc) x.vs.length (cellsOf (x.vs.set ((plS (ts.map Ty.k) (rs.map Rk.k) r t i).1.toNat) v2)) :: (made w11.drew w37 ++ Y))) A M 12 rfl rfl rfl (qld hgx rfl rfl rfl (by kernel_rfl) M 4 rfl (by show _ + 11 ≤ _; omega) (qai v2)) hgx 4 rfl (qjc (by omega) rfl) rfl ?_)
 intro w38 M
 refine ⟨(M.sub (cc (cc (cn (cc (cn (List.nil_sublist _))))))), ?_⟩
 refine zd (by kernel_rfl) ?_
 refine hK27 _ _ (wsk fun K39 hK39 => wrl (sda A λa A↦?_))
 refine qa (hK39 _ _ (wp_ret (hret _ _ (en1 A rfl (qf rfl) ?_))))
 replace M : Mg w0 w38 (.row 42 11 (.slice x.vo x.vs.length x.vc) x.vs.length (cellsOf (x.vs.set ((plS (ts.map Ty.k) (rs.map Rk.k) r t i).1.toNat) v2)) :: .obj g2 (.cells (v.d.cells v.ts.length).toArray 42) :: .obj b (.cells #[.slice tz ts.length tc, .slice ro rs.length rc] 73) :: .row 33 7 (.slice tz ts.length tc) ts.length (qj Ty.c ts) :: .row 86 2 (.slice ro rs.length rc) rs.length (qj Rk.c rs) :: (made w11.drew w37 ++ Y)) := M.bring 4 rfl rfl
 replace M : Mg w0 w38 (.row 86 2 (.slice ro rs.length rc) rs.length (qj Rk.c rs) :: .row 42 11 (.slice x.vo x.vs.length x.vc) x.vs.length (cellsOf (x.vs.set ((plS (ts.map Ty.k) (rs.map Rk.k) r t i).1.toNat) v2)) :: .obj g2 (.cells (v.d.cells v.ts.length).toArray 42) :: .obj b (.cells #[.slice tz ts.length tc, .slice ro rs.length rc] 73) :: .row 33 7 (.slice tz ts.length tc) ts.length (qj Ty.c ts) :: (made w11.drew w37 ++ Y)) := M.bring 4 rfl rfl
 replace M : Mg w0 w38 (.row 33 7 (.slice tz ts.length tc) ts.length (qj Ty.c ts) :: .row 86 2 (.slice ro rs.length rc) rs.length (qj Rk.c rs) :: .row 42 11 (.slice x.vo x.vs.length x.vc) x.vs.length (cellsOf (x.vs.set ((plS (ts.map Ty.k) (rs.map Rk.k) r t i).1.toNat) v2)) :: .obj g2 (.cells (v.d.cells v.ts.length).toArray 42) :: .obj b (.cells #[.slice tz ts.length tc, .slice ro rs.length rc] 73) :: (made w11.drew w37 ++ Y)) := M.bring 4 rfl rfl
 replace M : Mg w0 w38 (.obj b (.cells #[.slice tz ts.length tc, .slice ro rs.length rc] 73) :: .row 33 7 (.slice tz ts.length tc) ts.length (qj Ty.c ts) :: .row 86 2 (.slice ro rs.length rc) rs.length (qj Rk.c rs) :: .row 42 11 (.slice x.vo x.vs.length x.vc) x.vs.length (cellsOf (x.vs.set ((plS (ts.map Ty.k) (rs.map Rk.k) r t i).1.toNat) v2)) :: .obj g2 (.cells (v.d.cells v.ts.length).toArray 42) :: (made w11.drew w37 ++ Y)) := M.bring 4 rfl rfl
 replace M : Mg w0 w38 (.obj b (.cells #[.slice tz ts.length tc, .slice ro rs.length rc] 73) :: .row 33 7 (.slice tz ts.length tc) ts.length (qj Ty.c ts) :: .row 86 2 (.slice ro rs.length rc) rs.length (qj Rk.c rs) :: .row 42 11 (.slice x.vo x.vs.length x.vc) x.vs.length (cellsOf (x.vs.set ((plS (ts.map Ty.k) (rs.map Rk.k) r t i).1.toNat) v2)) :: (made w11.drew w37 ++ Y)) := by
  have h9 := M.sub (cc (cc (cc (cc (cn (.refl _))))))
  exact h9
 exact ⟨v2, _, rfl, ⟨ht2, hL2, qti⟩, M⟩
end Go.Proofs.YtokgmpjblnpjmaaGreatDoor.G
