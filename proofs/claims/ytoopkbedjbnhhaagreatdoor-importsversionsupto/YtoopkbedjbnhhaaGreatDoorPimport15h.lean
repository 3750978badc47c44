/- JcN JcO Ja ShelfH JcG Le Jf JcH JcI JcP Bulk ArgC ArgB ArgD ArgI -/
import Derived.Test.YtoopkbedjbnhhaaGreatDoorPimport15g
import Derived.Test.YtoopkbedjbnhhaaGreatDoorPimport15e
import Derived.Maps.RangeRun
import Derived.Shelf.Small.Utf8
import Derived.Shelf.Small.Bits
import Derived.Shelf.Strconv.Itoa0
import Derived.Shelf.LaysM
import Derived.Shelf.Strconv.Clone
import Derived.Shelf.Slices.Equal
import Derived.Ground.Names2Prog
import Derived.Shelf.Slices.SearchI
import Derived.Shelf.Slices.Empties2
import Derived.Ground.SlgnProg
import Derived.Shelf.SlicesE.Clone
import Derived.Test.YtoopkbedjbnhhaaGreatDoorProg
import Derived.Test.YtoopkbedjbnhhaaGreatDoorPimport15f
import Derived.RangeFuncNested
import Derived.RangeFuncLeaves
import Derived.LoopNIn
import Derived.Test.YtoopkbedjbnhhaaGreatDoorArith
import Derived.ControlIn
import Derived.OrdersIn
import Derived.Test.YtoopkbedjbnhhaaGreatDoorRows
import Derived.Test.YtoopkbedjbnhhaaGreatDoorPimport15d
import Derived.WalkKit
import Derived.ProofKit
import Derived.OpenShut
import Derived.ChangeOld
import Derived.Lib.SmallJoins
import Derived.Deep.Strs
import Derived.Test.YtoopkbedjbnhhaaGreatDoorPimport15c
import Derived.Deep.Slices
import Derived.DataElems
set_option linter.unusedVariables false
set_option linter.unusedSimpArgs false
set_option maxHeartbeats 1000000
namespace Go.Proofs.YtoopkbedjbnhhaaGreatDoor.G
open Go.RowKit
set_option maxRecDepth 100000
def RSub (n : Nat) : Prop := ∀ {w0 w : World} {t : Dt}, Below w0.heap.size w0 w → t.rd w0 → xl zl t.tr = true → t.tr.bulk ≤ n → ∀ {b : Bool}, (zx n t.tr).isSome = b → Calls Tryz.prog 70 #[.agg (t.d.cells t.ts.length).toArray] w fun e w' => e = .returned (bV b) ∧ Below w.heap.size w w'
def RRef (n : Nat) : Prop := ∀ {w0 w : World} {t : Dt}, Below w0.heap.size w0 w → t.rd w0 → xl zl t.tr = true → t.tr.bulk ≤ n → ∀ {b : Bool}, (jk n t.tr).isSome = b → Calls Tryz.prog 39 #[.agg (t.d.cells t.ts.length).toArray] w fun e w' => e = .returned (bV b) ∧ Below w.heap.size w w'
def RFit (n : Nat) : Prop := ∀ {w0 w : World} {t : Dt} {z : Int}, Below w0.heap.size w0 w → t.rd w0 → xl zl t.tr = true → t.tr.bulk ≤ n → (zx n t.tr).isSome = true → ∀ {b : Bool}, vF (zx n t.tr) z = b → Calls Tryz.prog 71 #[iV z, .agg (t.d.cells t.ts.length).toArray] w fun e w' => e = .returned (bV b) ∧ Below w.heap.size w w'
def RFits (n : Nat) : Prop := ∀ {w0 w : World} {t : Dt} {l : List Int} {sv : Option Addr} {cv : Nat}, Below w0.heap.size w0 w → t.rd w0 → xl zl t.tr = true → t.tr.bulk ≤ n → Rc w0 sv (izC l) → l.length ≤ 2000000 → (jk n t.tr).isSome = true → ∀ {b : Bool}, vF (jk n t.tr) l = b → Calls Tryz.prog 41 #[.slice sv l.length cv, .agg (t.d.cells t.ts.length).toArray] w fun e w' => e = .returned (bV b) ∧ Below w.heap.size w w'
theorem qqg {α : Type} {l : List (Option (α → Bool))} (h : l.length = 1) : (jg kk l).isSome = (jz l).isSome := by
 match l, h with
 | [o], _ => rw [uq, qyj]; simp
theorem qua {α : Type} {xs : List Dt} {g : Dt → Option (α → Bool)} (h : (jg vv ((xs.drop 1).map g)).isSome = true) (a : α) : vF (jg vv ((xs.drop 1).map g)) a = (xs.drop 1).all fun x => vF (g x) a := by rw [zpf h, List.all_map]; rfl
theorem zfc {α : Type} {xs : List Dt} {g : Dt → Option (α → Bool)} (h : (jg wOr ((xs.drop 1).map g)).isSome = true) (a : α) : vF (jg wOr ((xs.drop 1).map g)) a = (xs.drop 1).any fun x => vF (g x) a := by rw [zsf h, List.any_map]; rfl
theorem zmc {w0 w : World} {n : Nat} {t : Dt} (h0 : Below w0.heap.size w0 w) (ht : t.rd w0) (hs : xl zl t.tr = true) (hb : t.tr.bulk ≤ n + 1) (hn : n + 1 ≤ 4000000) (ih : RSub n) : Calls Tryz.prog 70 #[.agg (t.d.cells t.ts.length).toArray] w fun e w' => e = .returned (bV (zx (n + 1) t.tr).isSome) ∧ Below w.heap.size w w' := by
 have M : Mg w w ([]) := Mg.start w
 refine qx (l := [(0, .agg (t.d.cells t.ts.length).toArray)]) Tryz.func70 rfl Tryz.ntmps70 rfl rfl ?_
 intro Q hret hnorm hP a A
 refine wsk fun K1 hK1 => wrl (jl (vs := (t.d.cells t.ts.length)) (t := 30) A M rfl rfl rfl pg (zd rfl rfl) (by decide) ?_)
 intro g2 w3 M a A
 refine sda A λa A↦?_
 refine qa (hK1 _ _ (wsk fun K4 hK4 => wsk fun K5 hK5 => wrl (sdo A (zy M xi rfl 0 rfl (cs := (t.d.cells t.ts.length)) rfl rfl) λa A↦?_)))
 refine gcl A M (ef rfl rfl) (kb (Dt.keep (h0.trans (M.bel.mono h0.size)) _ ht) hs) fun w7 hb6 M a A => ?_
 rcases tf (decide (0 ≤ (nN (jb t.tr)))) with hb8 | hb8
 ·
  have hb8' := of_decide_eq_true hb8
  refine sdc A ju hb8 λa A↦?_
  refine qa (hK5 _ _ (ct A ?_))
  refine wsk fun K9 hK9 => wrl (sda A λa A↦?_)
  refine qa (hK9 _ _ (wr1 hret A ?_))
  have hd9 : decide (0 ≤ nN (jb t.tr)) = true := hb8
  obtain ⟨b9, hb9, hb8⟩ := qtf hd9
  have e9 : (zx (n + 1) t.tr).isSome = true := by
   rw [qic hb9]; rfl
  exact ⟨by rw [e9], M.bel⟩
 ·
  have hb8' := of_decide_eq_false hb8
  refine sdc A ju hb8 λa A↦?_
  refine qa (hK5 _ _ (cf A ?_))
  refine wp_skip (hK4 _ _ (wsk fun K10 hK10 => wrl (sdo A (zy M xi rfl 0 rfl (cs := (t.d.cells t.ts.length)) rfl rfl) λa A↦?_)))
  rcases tf ((zw t.tr).isSome) with hb11 | hb11
  ·
   refine sct A (ef rfl rfl) ((hb11 ▸ kd (h0.trans (M.bel.mono h0.size)) ht hs (by omega))) ?_
   rintro _ w15 ⟨so12, ca13, xs, rfl, hIt, hM14⟩
   have hle9 := hIt.le
   replace M : Mg w w15 (.row 30 11 (.slice so12 xs.length ca13) xs.length (cellsOf xs) :: .obj g2 (.cells (t.d.cells t.ts.length).toArray 30) :: []) := (M.both hM14 (qr (by simp) (qw za)) (qr (by simp) (qw za)))
   refine ⟨_, rfl, ?_⟩
   intro a A
   refine sdm A λa A↦?_
   iterate 2 refine sdo A (qi (vs := [.slice so12 xs.length ca13, bV true]) rfl rfl) λa A↦?_
   iterate 2 refine sda A λa A↦?_
   refine qa (hK10 _ _ (wsk fun K16 hK16 => wsk fun K17 hK17 => wrl (sdm A λa A↦?_)))
   refine sdo (v := bV false) A (ql rfl qp) λa A↦?_
   iterate 2 refine sdm A λa A↦?_
   refine sdo A (qy Tryz.underlying28 rfl) λa A↦?_
   rcases tf ((((xs.length : Nat) : Int) == 0)) with hb18 | hb18
   ·
    have hb18' := eq_of_beq hb18
    refine sdc A qt hb18 λa A↦?_
    refine sdk (v := bV true) A λa A↦?_
    refine sdm A λa A↦?_
    iterate 5 refine qm A rfl rfl rfl λa A↦?_
    refine sdk (v := bV true) A λa A↦?_
    refine qa (hK17 _ _ (ct A ?_))
    refine wsk fun K19 hK19 => wrl (sda A λa A↦?_)
    refine qa (hK19 _ _ (wr1 hret A ?_))
    have hd9 : decide (0 ≤ nN (jb t.tr)) = false := hb8
    have hn9 := xv hd9
    have ha9 := hIt.as hb11
    have e9 : (zx (n + 1) t.tr).isSome = false := by
     rw [qid hn9 ha9 (qih (by omega))]; rfl
    exact ⟨by rw [e9], M.bel⟩
   ·
    have hb18' := ne_of_beq_false hb18
    refine sdc A qt hb18 λa A↦?_
    refine sdk (v := bV false) A λa A↦?_
    iterate 2 refine sdm A λa A↦?_
    obtain ⟨th, hith⟩ : ∃ t, xs[0]? = some t := ⟨_, List.getElem?_eq_getElem (by omega)⟩
    have hlth := (List.getElem?_eq_some_iff.1 hith).1
    have mth := List.mem_of_getElem? hith
    obtain ⟨bk20, ok21, lk22, Hk23⟩ := vg (jr (M.has 0 rfl)).1 (fun x hx => Dt.keep (h0.trans (M.bel.mono h0.size)) _ (hIt.rd x hx)) hith
    refine sdo (v := pA bk20 (ok21 + 0 * 11)) A (ze (k := 0) Tryz.underlying28 (by kernel_rfl) rfl rfl (by first | rfl | omega) lk22 hlth) λa A↦?_
    refine sdo (v := pA bk20 (ok21 + 0 * 11)) A (qf vm rfl rfl) λa A↦?_
    refine sdo A (vl (j := 0) (Mg.start _) Hk23 o93 rfl rfl rfl) λa A↦?_
    rcases tf ((th.d.k != 6)) with hb24 | hb24
    ·
     have hb24' := bne_iff_ne.1 hb24
     refine sdc A jm hb24 λa A↦?_
     refine sdk (v := bV true) A λa A↦?_
     refine qa (hK17 _ _ (ct A ?_))
     refine wsk fun K25 hK25 => wrl (sda A λa A↦?_)
     refine qa (hK25 _ _ (wr1 hret A ?_))
     have hd9 : decide (0 ≤ nN (jb t.tr)) = false := hb8
     have hn9 := xv hd9
     have ha9 := hIt.as hb11
     have e9 : (zx (n + 1) t.tr).isSome = false := by
      rw [qid hn9 ha9 (qig hith (by have h9 := hb24'; omega))]; rfl
     exact ⟨by rw [e9], M.bel⟩
    ·
     have hb24' := bne_eq_false_iff_eq.1 hb24
     refine sdc A jm hb24 λa A↦?_
     refine sdk (v := bV false) A λa A↦?_
     refine qa (hK17 _ _ (cf A ?_))
     refine wp_skip (hK16 _ _ (wsk fun K26 hK26 => wsk fun K27 hK27 => wrl (sdm A λa A↦?_)))
     obtain ⟨bk28, ok29, lk30, Hk31⟩ := vg (jr (M.has 0 rfl)).1 (fun x hx => Dt.keep (h0.trans (M.bel.mono h0.size)) _ (hIt.rd x hx)) hith
     refine sdo (v := pA bk28 (ok29 + 0 * 11)) A (ze (k := 0) Tryz.underlying28 (by kernel_rfl) rfl rfl (by first | rfl | omega) lk30 hlth) λa A↦?_
     refine sdo (v := pA bk28 (ok29 + 0 * 11 + 8)) A (qf ki rfl rfl) λa A↦?_
     refine sdo A (vl (j := 8) (Mg.start _) Hk31 o99 rfl rfl rfl) λa A↦?_
     refine qa (hK27 _ _ (wp_block (wsk fun K32 hK32 => wsk fun K33 hK33 => wrl ?_)))
     rcases tf (decide (th.d.s = ⟨#[62, 61]⟩)) with hb34 | hb34
     ·
      have hb34' := of_decide_eq_true hb34
      refine sdo (v := bV true) A (qh rfl rfl (fun w => (zn Tryz.underlying9 w).trans (by rw [hb34] <;> rfl))) λa A↦?_
      refine sda A λa A↦?_
      refine qa (hK33 _ _ (ct A ?_))
      refine wp_skip (hK32 _ _ (ct A ?_))
      refine wsk fun K35 hK35 => wrl (sdm A λa A↦?_)
      refine sdo A (qy Tryz.underlying28 rfl) λa A↦?_
      rcases tf ((((xs.length : Nat) : Int) == 2)) with hb36 | hb36
      ·
       have hb36' := eq_of_beq hb36
       refine sdc A qt hb36 λa A↦?_
       iterate 2 refine sdm A λa A↦?_
       obtain ⟨ta, hita⟩ : ∃ t, xs[1]? = some t := ⟨_, List.getElem?_eq_getElem (by omega)⟩
       have hlta := (List.getElem?_eq_some_iff.1 hita).1
       have mta := List.mem_of_getElem? hita
       obtain ⟨bk37, ok38, lk39, Hk40⟩ := vg (jr (M.has 0 rfl)).1 (fun x hx => Dt.keep (h0.trans (M.bel.mono h0.size)) _ (hIt.rd x hx)) hita
       refine sdo (v := pA bk37 (ok38 + 1 * 11)) A (ze (k := 1) Tryz.underlying28 (by kernel_rfl) rfl rfl (by first | rfl | omega) lk39 hlta) λa A↦?_
       refine sdo A (jh (Mg.start _) Hk40 xi rfl rfl) λa A↦?_
       refine gcl A M (ef rfl rfl) (kb (Dt.keep (h0.trans (M.bel.mono h0.size)) _ (hIt.rd _ mta)) (hIt.sh _ mta)) fun w42 hb41 M a A => ?_
       rcases tf (decide (0 ≤ (nN (jb ta.tr)))) with hb43 | hb43
       ·
        have hb43' := of_decide_eq_true hb43
        refine sdc A ju hb43 λa A↦?_
        refine sdk (v := bV true) A λa A↦?_
        refine sda A λa A↦?_
        refine qa (hK35 _ _ (wr1 hret A ?_))
        have hd9 : decide (0 ≤ nN (jb t.tr)) = false := hb8
        have hn9 := xv hd9
        have ha9 := hIt.as hb11
        have hw9 := xu hith (by have h9 := hb24'; omega)
        have ewGe : zg xs = wGe := (zb hith).trans (of_decide_eq_true hb34)
        have e9 : (zx (n + 1) t.tr).isSome = true := by
         rw [qqa hn9 ha9 hw9 ewGe, xd (by omega) hita, List.map_singleton, Option.isSome_map, xx, ← qge]; exact hb43
        exact ⟨by rw [e9], M.bel⟩
       ·
        have hb43' := of_decide_eq_false hb43
        refine sdc A ju hb43 λa A↦?_
        refine sdk (v := bV false) A λa A↦?_
        refine sda A λa A↦?_
        refine qa (hK35 _ _ (wr1 hret A ?_))
        have hd9 : decide (0 ≤ nN (jb t.tr)) = false := hb8
        have hn9 := xv hd9
        have ha9 := hIt.as hb11
        have hw9 := xu hith (by have h9 := hb24'; omega)
        have ewGe : zg xs = wGe := (zb hith).trans (of_decide_eq_true hb34)
        have e9 : (zx (n + 1) t.tr).isSome = false := by
         rw [qqa hn9 ha9 hw9 ewGe, xd (by omega) hita, List.map_singleton, Option.isSome_map, xx, ← qge]; exact hb43
        exact ⟨by rw [e9], M.bel⟩
      ·
       have hb36' := ne_of_beq_false hb36
       refine sdc A qt hb36 λa A↦?_
       refine sdm A λa A↦?_
       iterate 5 refine qm A rfl rfl rfl λa A↦?_
       refine sdk (v := bV false) A λa A↦?_
       refine sda A λa A↦?_
       refine qa (hK35 _ _ (wr1 hret A ?_))
       have hd9 : decide (0 ≤ nN (jb t.tr)) = false := hb8
       have hn9 := xv hd9
       have ha9 := hIt.as hb11
       have hw9 := xu hith (by have h9 := hb24'; omega)
       have ewGe : zg xs = wGe := (zb hith).trans (of_decide_eq_true hb34)
       have e9 : (zx (n + 1) t.tr).isSome = false := by
        rw [qqa hn9 ha9 hw9 ewGe, qlg (by rw [List.length_map, List.length_drop]; omega)]; rfl
       exact ⟨by rw [e9], M.bel⟩
     ·
      have hb34' := of_decide_eq_false hb34
      refine sdo (v := bV false) A (qh rfl rfl (fun w => (zn Tryz.underlying9 w).trans (by rw [hb34] <;> rfl))) λa A↦?_
      refine sda A λa A↦?_
      refine qa (hK33 _ _ (cf A ?_))
      refine wrl ?_
      rcases tf (decide (th.d.s = ⟨#[60, 61]⟩)) with hb44 | hb44
      ·
       have hb44' := of_decide_eq_true hb44
       refine sdo (v := bV true) A (qh rfl rfl (fun w => (zn Tryz.underlying9 w).trans (by rw [hb44] <;> rfl))) λa A↦?_
       refine sda A λa A↦?_
       refine qa (hK32 _ _ (ct A ?_))
       refine wsk fun K45 hK45 => wrl (sdm A λa A↦?_)
       refine sdo A (qy Tryz.underlying28 rfl) λa A↦?_
       rcases tf ((((xs.length : Nat) : Int) == 2)) with hb46 | hb46
       ·
        have hb46' := eq_of_beq hb46
        refine sdc A qt hb46 λa A↦?_
        iterate 2 refine sdm A λa A↦?_
        obtain ⟨ta, hita⟩ : ∃ t, xs[1]? = some t := ⟨_, List.getElem?_eq_getElem (by omega)⟩
        have hlta := (List.getElem?_eq_some_iff.1 hita).1
        have mta := List.mem_of_getElem? hita
        obtain ⟨bk47, ok48, lk49, Hk50⟩ := vg (jr (M.has 0 rfl)).1 (fun x hx => Dt.keep (h0.trans (M.bel.mono h0.size)) _ (hIt.rd x hx)) hita
        refine sdo (v := pA bk47 (ok48 + 1 * 11)) A (ze (k := 1) Tryz.underlying28 (by kernel_rfl) rfl rfl (by first | rfl | omega) lk49 hlta) λa A↦?_
        refine sdo A (jh (Mg.start _) Hk50 xi rfl rfl) λa A↦?_
        refine gcl A M (ef rfl rfl) (kb (Dt.keep (h0.trans (M.bel.mono h0.size)) _ (hIt.rd _ mta)) (hIt.sh _ mta)) fun w52 hb51 M a A => ?_
        rcases tf (decide (0 ≤ (nN (jb ta.tr)))) with hb53 | hb53
        ·
         have hb53' := of_decide_eq_true hb53
         refine sdc A ju hb53 λa A↦?_
         refine sdk (v := bV true) A λa A↦?_
         refine sda A λa A↦?_
         refine qa (hK45 _ _ (wr1 hret A ?_))
         have hd9 : decide (0 ≤ nN (jb t.tr)) = false := hb8
         have hn9 := xv hd9
         have ha9 := hIt.as hb11
         have hw9 := xu hith (by have h9 := hb24'; omega)
         have ewGe : zg xs ≠ wGe := fun h9 => of_decide_eq_false hb34 ((zb hith).symm.trans h9)
         have ewLe : zg xs = wLe := (zb hith).trans (of_decide_eq_true hb44)
         have e9 : (zx (n + 1) t.tr).isSome = true := by
          rw [qqb hn9 ha9 hw9 ewLe, xd (by omega) hita, List.map_singleton, Option.isSome_map, xx, ← qge]; exact hb53
         exact ⟨by rw [e9], M.bel⟩
        ·
         have hb53' := of_decide_eq_false hb53
         refine sdc A ju hb53 λa A↦?_
         refine sdk (v := bV false) A λa A↦?_
         refine sda A λa A↦?_
         refine qa (hK45 _ _ (wr1 hret A ?_))
         have hd9 : decide (0 ≤ nN (jb t.tr)) = false := hb8
         have hn9 := xv hd9
         have ha9 := hIt.as hb11
         have hw9 := xu hith (by have h9 := hb24'; omega)
         have ewGe : zg xs ≠ wGe := fun h9 => of_decide_eq_false hb34 ((zb hith).symm.trans h9)
         have ewLe : zg xs = wLe := (zb hith).trans (of_decide_eq_true hb44)
         have e9 : (zx (n + 1) t.tr).isSome = false := by
          rw [qqb hn9 ha9 hw9 ewLe, xd (by omega) hita, List.map_singleton, Option.isSome_map, xx, ← qge]; exact hb53
         exact ⟨by rw [e9], M.bel⟩
       ·
        have hb46' := ne_of_beq_false hb46
        refine sdc A qt hb46 λa A↦?_
        refine sdm A λa A↦?_
        iterate 5 refine qm A rfl rfl rfl λa A↦?_
        refine sdk (v := bV false) A λa A↦?_
        refine sda A λa A↦?_
        refine qa (hK45 _ _ (wr1 hret A ?_))
        have hd9 : decide (0 ≤ nN (jb t.tr)) = false := hb8
        have hn9 := xv hd9
        have ha9 := hIt.as hb11
        have hw9 := xu hith (by have h9 := hb24'; omega)
        have ewGe : zg xs ≠ wGe := fun h9 => of_decide_eq_false hb34 ((zb hith).symm.trans h9)
        have ewLe : zg xs = wLe := (zb hith).trans (of_decide_eq_true hb44)
        have e9 : (zx (n + 1) t.tr).isSome = false := by
         rw [qqb hn9 ha9 hw9 ewLe, qlg (by rw [List.length_map, List.length_drop]; omega)]; rfl
        exact ⟨by rw [e9], M.bel⟩
      ·
       have hb44' := of_decide_eq_false hb44
       refine sdo (v := bV false) A (qh rfl rfl (fun w => (zn Tryz.underlying9 w).trans (by rw [hb44] <;> rfl))) λa A↦?_
       refine sda A λa A↦?_
       refine qa (hK32 _ _ (cf A ?_))
       refine wsk fun K54 hK54 => wrl ?_
       rcases tf (decide (th.d.s = ⟨#[110, 111, 116]⟩)) with hb55 | hb55
       ·
        have hb55' := of_decide_eq_true hb55
        refine sdo (v := bV true) A (qh rfl rfl (fun w => (zn Tryz.underlying9 w).trans (by rw [hb55] <;> rfl))) λa A↦?_
        refine sda A λa A↦?_
        refine qa (hK54 _ _ (ct A ?_))
        refine wsk fun K56 hK56 => wrl (sdm A λa A↦?_)
        refine sdo A (qy Tryz.underlying28 rfl) λa A↦?_
        rcases tf ((((xs.length : Nat) : Int) == 2)) with hb57 | hb57
        ·
         have hb57' := eq_of_beq hb57
         refine sdc A qt hb57 λa A↦?_
         iterate 2 refine sdm A λa A↦?_
         obtain ⟨ta, hita⟩ : ∃ t, xs[1]? = some t := ⟨_, List.getElem?_eq_getElem (by omega)⟩
         have hlta := (List.getElem?_eq_some_iff.1 hita).1
         have mta := List.mem_of_getElem? hita
         obtain ⟨bk58, ok59, lk60, Hk61⟩ := vg (jr (M.has 0 rfl)).1 (fun x hx => Dt.keep (h0.trans (M.bel.mono h0.size)) _ (hIt.rd x hx)) hita
         refine sdo (v := pA bk58 (ok59 + 1 * 11)) A (ze (k := 1) Tryz.underlying28 (by kernel_rfl) rfl rfl (by first | rfl | omega) lk60 hlta) λa A↦?_
         refine sdo A (jh (Mg.start _) Hk61 xi rfl rfl) λa A↦?_
         rcases tf ((zx n ta.tr).isSome) with hb62 | hb62
         ·
          refine gcl A M (ef rfl rfl) (ih (h0.trans (M.bel.mono h0.size)) (hIt.rd _ mta) (hIt.sh _ mta) (by have := hIt.lt _ mta; omega) hb62) fun w64 hb63 M a A => ?_
          refine sdk (v := bV true) A λa A↦?_
          refine sda A λa A↦?_
          refine qa (hK56 _ _ (wr1 hret A ?_))
          have hd9 : decide (0 ≤ nN (jb t.tr)) = false := hb8
          have hn9 := xv hd9
          have ha9 := hIt.as hb11
          have hw9 := xu hith (by have h9 := hb24'; omega)
          have ewGe : zg xs ≠ wGe := fun h9 => of_decide_eq_false hb34 ((zb hith).symm.trans h9)
          have ewLe : zg xs ≠ wLe := fun h9 => of_decide_eq_false hb44 ((zb hith).symm.trans h9)
          have ewNot : zg xs = kk := (zb hith).trans (of_decide_eq_true hb55)
          have e9 : (zx (n + 1) t.tr).isSome = true := by
           rw [xe hn9 ha9 hw9 ewGe ewLe, ewNot, xd (by omega) hita, List.map_singleton, uq]; exact hb62
          exact ⟨by rw [e9], M.bel⟩
         ·
          refine gcl A M (ef rfl rfl) (ih (h0.trans (M.bel.mono h0.size)) (hIt.rd _ mta) (hIt.sh _ mta) (by have := hIt.lt _ mta; omega) hb62) fun w66 hb65 M a A => ?_
          refine sdk (v := bV false) A λa A↦?_
          refine sda A λa A↦?_
          refine qa (hK56 _ _ (wr1 hret A ?_))
          have hd9 : decide (0 ≤ nN (jb t.tr)) = false := hb8
          have hn9 := xv hd9
          have ha9 := hIt.as hb11
          have hw9 := xu hith (by have h9 := hb24'; omega)
          have ewGe : zg xs ≠ wGe := fun h9 => of_decide_eq_false hb34 ((zb hith).symm.trans h9)
          have ewLe : zg xs ≠ wLe := fun h9 => of_decide_eq_false hb44 ((zb hith).symm.trans h9)
          have ewNot : zg xs = kk := (zb hith).trans (of_decide_eq_true hb55)
          have e9 : (zx (n + 1) t.tr).isSome = false := by
           rw [xe hn9 ha9 hw9 ewGe ewLe, ewNot, xd (by omega) hita, List.map_singleton, uq]; exact hb62
          exact ⟨by rw [e9], M.bel⟩
        ·
         have hb57' := ne_of_beq_false hb57
         refine sdc A qt hb57 λa A↦?_
         refine sdm A λa A↦?_
         iterate 4 refine qm A rfl rfl rfl λa A↦?_
         refine sdk (v := bV false) A λa A↦?_
         refine sda A λa A↦?_
         refine qa (hK56 _ _ (wr1 hret A ?_))
         have hd9 : decide (0 ≤ nN (jb t.tr)) = false := hb8
         have hn9 := xv hd9
         have ha9 := hIt.as hb11
         have hw9 := xu hith (by have h9 := hb24'; omega)
         have ewGe : zg xs ≠ wGe := fun h9 => of_decide_eq_false hb34 ((zb hith).symm.trans h9)
         have ewLe : zg xs ≠ wLe := fun h9 => of_decide_eq_false hb44 ((zb hith).symm.trans h9)
         have ewNot : zg xs = kk := (zb hith).trans (of_decide_eq_true hb55)
         have e9 : (zx (n + 1) t.tr).isSome = false := by
          rw [xe hn9 ha9 hw9 ewGe ewLe, ewNot, qbb (by rw [List.length_map, List.length_drop]; omega)]; rfl
         exact ⟨by rw [e9], M.bel⟩
       ·
        have hb55' := of_decide_eq_false hb55
        refine sdo (v := bV false) A (qh rfl rfl (fun w => (zn Tryz.underlying9 w).trans (by rw [hb55] <;> rfl))) λa A↦?_
        refine sda A λa A↦?_
        refine qa (hK54 _ _ (cf A ?_))
        refine wsk fun K67 hK67 => wsk fun K68 hK68 => wrl ?_
        rcases tf (decide (th.d.s = ⟨#[97, 110, 100]⟩)) with hb69 | hb69
        ·
         have hb69' := of_decide_eq_true hb69
         refine sdo (v := bV true) A (qh rfl rfl (fun w => (zn Tryz.underlying9 w).trans (by rw [hb69] <;> rfl))) λa A↦?_
         refine sda A λa A↦?_
         refine qa (hK68 _ _ (ct A ?_))
         refine wp_skip (hK67 _ _ (ct A ?_))
         refine wsk fun K70 hK70 => wsk fun K71 hK71 => wrl (sda A λa A↦?_)
         refine qa (hK71 _ _ (wp_block (jc (fun m_ a w1 => ∃ (i : Nat), m_ = 1 + (xs.length - i) ∧ (1 ≤ i ∧ ∀ (j : Nat) u, 1 ≤ j → j < i → xs[j]? = some u → (zx n u.tr).isSome = true) ∧ Sl a 71 [(0, .agg (t.d.cells t.ts.length).toArray), (1, pA g2 0), (3, .slice so12 xs.length ca13), (4, bV true), (5, iV (((i : Nat) : Int))), (6, .agg (t.d.cells t.ts.length).toArray), (7, iV ((nN (jb t.tr)))), (8, bV false), (9, .tuple #[.slice so12 xs.length ca13, bV true]), (10, .agg (t.d.cells t.ts.length).toArray), (11, .tuple #[.slice so12 xs.length ca13, bV true]), (12, .slice so12 xs.length ca13), (13, bV true), (14, bV true), (15, bV false), (16, bV false), (17, .slice so12 xs.length ca13), (18, iV (((xs.length : Nat) : Int))), (19, bV false), (20, bV false), (21, bV false), (22, .slice so12 xs.length ca13), (23, pA bk20 (ok21 + 0 * 11)), (24, pA bk20 (ok21 + 0 * 11)), (25, iV th.d.k), (26, bV false), (27, bV false), (28, .slice so12 xs.length ca13), (29, pA bk28 (ok29 + 0 * 11)), (30, pA bk28 (ok29 + 0 * 11 + 8)), (31, .string th.d.s), (32, bV false), (33, bV false), (34, bV false), (45, bV false), (46, bV false), (56, bV true), (57, bV true)] ∧ Mg w w1 (.row 30 11 (.slice so12 xs.length ca13) xs.length (cellsOf xs) :: .obj g2 (.cells (t.d.cells t.ts.length).toArray 30) :: [])) _ ⟨1, rfl, ⟨Nat.le_refl _, fun j u h1 h2 => absurd h1 (by omega)⟩, A.keep _ (by repeat' constructor), M⟩ ?_)))
         clear M A
         rintro m_ a w72 ⟨i, rfl, hinv74, A, M⟩ K73 hK73
         obtain ⟨hi0, hin9⟩ := hinv74
         refine wsk fun K75 hK75 => wsk fun K76 hK76 => wrl ?_
         iterate 2 refine sdm A λa A↦?_
         refine sdo A (qy Tryz.underlying28 rfl) λa A↦?_
         rcases tf (decide (((i : Nat) : Int) < ((xs.length : Nat) : Int))) with hb77 | hb77
         ·
          have hb77' := of_decide_eq_true hb77
          refine sdc A zh hb77 λa A↦?_
          refine qa (hK76 _ _ (ct A ?_))
          refine wp_skip (hK75 _ _ (wsk fun K78 hK78 => wp_block (wsk fun K79 hK79 => wrl ?_)))
          iterate 2 refine sdm A λa A↦?_
          obtain ⟨ti, hiti⟩ : ∃ t, xs[i]? = some t := ⟨_, List.getElem?_eq_getElem (by omega)⟩
          have hlti := (List.getElem?_eq_some_iff.1 hiti).1
          have mti := List.mem_of_getElem? hiti
          obtain ⟨bk80, ok81, lk82, Hk83⟩ := vg (jr (M.has 0 rfl)).1 (fun x hx => Dt.keep (h0.trans (M.bel.mono h0.size)) _ (hIt.rd x hx)) hiti
          refine sdo (v := pA bk80 (ok81 + i * 11)) A (ze (k := i) Tryz.underlying28 (by kernel_rfl) rfl rfl (by first | rfl | omega) lk82 hlti) λa A↦?_
          refine sdo A (jh (Mg.start _) Hk83 xi rfl rfl) λa A↦?_
          rcases tf ((zx n ti.tr).isSome) with hb84 | hb84
          ·
           refine gcl A M (ef rfl rfl) (ih (h0.trans (M.bel.mono h0.size)) (hIt.rd _ mti) (hIt.sh _ mti) (by have := hIt.lt _ mti; omega) hb84) fun w86 hb85 M a A => ?_
           refine sdo (v := bV false) A (ql rfl qp) λa A↦?_
           refine qa (hK79 _ _ (cf A ?_))
           refine wp_skip (hK78 _ _ (wrl (sdm A λa A↦?_)))
           refine sdo (v := iV (((i + 1 : Nat) : Int))) A (qh rfl rfl (ar_add ((in_i64 (by omega) (by omega)).trans (by omega)))) λa A↦?_
           refine sda A λa A↦?_
           refine qa ?_
           refine hK73 _ _ _ (by omega) ⟨i + 1, rfl, ⟨by omega, din (p := fun u : Dt => (zx n u.tr).isSome) hin9 hiti hb84⟩, A.keep _ (by repeat' constructor), M⟩
          ·
           refine gcl A M (ef rfl rfl) (ih (h0.trans (M.bel.mono h0.size)) (hIt.rd _ mti) (hIt.sh _ mti) (by have := hIt.lt _ mti; omega) hb84) fun w88 hb87 M a A => ?_
           refine sdo (v := bV true) A (ql rfl qp) λa A↦?_
           refine qa (hK79 _ _ (ct A ?_))
           refine wsk fun K89 hK89 => wrl (sda A λa A↦?_)
           refine qa (hK89 _ _ (wr1 hret A ?_))
           have hd9 : decide (0 ≤ nN (jb t.tr)) = false := hb8
           have hn9 := xv hd9
           have ha9 := hIt.as hb11
           have hw9 := xu hith (by have h9 := hb24'; omega)
           have ewGe : zg xs ≠ wGe := fun h9 => of_decide_eq_false hb34 ((zb hith).symm.trans h9)
           have ewLe : zg xs ≠ wLe := fun h9 => of_decide_eq_false hb44 ((zb hith).symm.trans h9)
           have ewNot : zg xs ≠ kk := fun h9 => of_decide_eq_false hb55 ((zb hith).symm.trans h9)
           have ewAnd : zg xs = vv := (zb hith).trans (of_decide_eq_true hb69)
           have e9 : (zx (n + 1) t.tr).isSome = false := by
            rw [xe hn9 ha9 hw9 ewGe ewLe, ewAnd, qfe, xt]; exact qth hi0 hiti hb84
           exact ⟨by rw [e9], M.bel⟩
         ·
          have hb77' := of_decide_eq_false hb77
          refine sdc A zh hb77 λa A↦?_
          refine qa (hK76 _ _ (cf A ?_))
          refine wp_exit (hK70 _ _ (wsk fun K90 hK90 => wrl (sda A λa A↦?_)))
          refine qa (hK90 _ _ (wr1 hret A ?_))
          have hd9 : decide (0 ≤ nN (jb t.tr)) = false := hb8
          have hn9 := xv hd9
          have ha9 := hIt.as hb11
          have hw9 := xu hith (by have h9 := hb24'; omega)
          have ewGe : zg xs ≠ wGe := fun h9 => of_decide_eq_false hb34 ((zb hith).symm.trans h9)
          have ewLe : zg xs ≠ wLe := fun h9 => of_decide_eq_false hb44 ((zb hith).symm.trans h9)
          have ewNot : zg xs ≠ kk := fun h9 => of_decide_eq_false hb55 ((zb hith).symm.trans h9)
          have ewAnd : zg xs = vv := (zb hith).trans (of_decide_eq_true hb69)
          have e9 : (zx (n + 1) t.tr).isSome = true := by
           rw [xe hn9 ha9 hw9 ewGe ewLe, ewAnd, qfe, xt]; exact qtg hin9 (by omega)
          exact ⟨by rw [e9], M.bel⟩
        ·
         have hb69' := of_decide_eq_false hb69
         refine sdo (v := bV false) A (qh rfl rfl (fun w => (zn Tryz.underlying9 w).trans (by rw [hb69] <;> rfl))) λa A↦?_
         refine sda A λa A↦?_
         refine qa (hK68 _ _ (cf A ?_))
         refine wrl ?_
         rcases tf (decide (th.d.s = ⟨#[111, 114]⟩)) with hb91 | hb91
         ·
          have hb91' := of_decide_eq_true hb91
          refine sdo (v := bV true) A (qh rfl rfl (fun w => (zn Tryz.underlying9 w).trans (by rw [hb91] <;> rfl))) λa A↦?_
          refine sda A λa A↦?_
          refine qa (hK67 _ _ (ct A ?_))
          refine wsk fun K92 hK92 => wsk fun K93 hK93 => wrl (sda A λa A↦?_)
          refine qa (hK93 _ _ (wp_block (jc (fun m_ a w1 => ∃ (i : Nat), m_ = 1 + (xs.length - i) ∧ (1 ≤ i ∧ ∀ (j : Nat) u, 1 ≤ j → j < i → xs[j]? = some u → (zx n u.tr).isSome = true) ∧ Sl a 71 [(0, .agg (t.d.cells t.ts.length).toArray), (1, pA g2 0), (3, .slice so12 xs.length ca13), (4, bV true), (5, iV (((i : Nat) : Int))), (6, .agg (t.d.cells t.ts.length).toArray), (7, iV ((nN (jb t.tr)))), (8, bV false), (9, .tuple #[.slice so12 xs.length ca13, bV true]), (10, .agg (t.d.cells t.ts.length).toArray), (11, .tuple #[.slice so12 xs.length ca13, bV true]), (12, .slice so12 xs.length ca13), (13, bV true), (14, bV true), (15, bV false), (16, bV false), (17, .slice so12 xs.length ca13), (18, iV (((xs.length : Nat) : Int))), (19, bV false), (20, bV false), (21, bV false), (22, .slice so12 xs.length ca13), (23, pA bk20 (ok21 + 0 * 11)), (24, pA bk20 (ok21 + 0 * 11)), (25, iV th.d.k), (26, bV false), (27, bV false), (28, .slice so12 xs.length ca13), (29, pA bk28 (ok29 + 0 * 11)), (30, pA bk28 (ok29 + 0 * 11 + 8)), (31, .string th.d.s), (32, bV false), (33, bV false), (34, bV false), (45, bV false), (46, bV false), (56, bV true), (57, bV false), (58, bV true)] ∧ Mg w w1 (.row 30 11 (.slice so12 xs.length ca13) xs.length (cellsOf xs) :: .obj g2 (.cells (t.d.cells t.ts.length).toArray 30) :: [])) _ ⟨1, rfl, ⟨Nat.le_refl _, fun j u h1 h2 => absurd h1 (by omega)⟩, A.keep _ (by repeat' constructor), M⟩ ?_)))
          clear M A
          rintro m_ a w94 ⟨i, rfl, hinv96, A, M⟩ K95 hK95
          obtain ⟨hi0, hin9⟩ := hinv96
          refine wsk fun K97 hK97 => wsk fun K98 hK98 => wrl ?_
          iterate 2 refine sdm A λa A↦?_
          refine sdo A (qy Tryz.underlying28 rfl) λa A↦?_
          rcases tf (decide (((i : Nat) : Int) < ((xs.length : Nat) : Int))) with hb99 | hb99
          ·
           have hb99' := of_decide_eq_true hb99
           refine sdc A zh hb99 λa A↦?_
           refine qa (hK98 _ _ (ct A ?_))
           refine wp_skip (hK97 _ _ (wsk fun K100 hK100 => wp_block (wsk fun K101 hK101 => wrl ?_)))
           iterate 2 refine sdm A λa A↦?_
           obtain ⟨ti, hiti⟩ : ∃ t, xs[i]? = some t := ⟨_, List.getElem?_eq_getElem (by omega)⟩
           have hlti := (List.getElem?_eq_some_iff.1 hiti).1
           have mti := List.mem_of_getElem? hiti
           obtain ⟨bk102, ok103, lk104, Hk105⟩ := vg (jr (M.has 0 rfl)).1 (fun x hx => Dt.keep (h0.trans (M.bel.mono h0.size)) _ (hIt.rd x hx)) hiti
           refine sdo (v := pA bk102 (ok103 + i * 11)) A (ze (k := i) Tryz.underlying28 (by kernel_rfl) rfl rfl (by first | rfl | omega) lk104 hlti) λa A↦?_
           refine sdo A (jh (Mg.start _) Hk105 xi rfl rfl) λa A↦?_
           rcases tf ((zx n ti.tr).isSome) with hb106 | hb106
           ·
            refine gcl A M (ef rfl rfl) (ih (h0.trans (M.bel.mono h0.size)) (hIt.rd _ mti) (hIt.sh _ mti) (by have := hIt.lt _ mti; omega) hb106) fun w108 hb107 M a A => ?_
            refine sdo (v := bV false) A (ql rfl qp) λa A↦?_
            refine qa (hK101 _ _ (cf A ?_))
            refine wp_skip (hK100 _ _ (wrl (sdm A λa A↦?_)))
            refine sdo (v := iV (((i + 1 : Nat) : Int))) A (qh rfl rfl (ar_add ((in_i64 (by omega) (by omega)).trans (by omega)))) λa A↦?_
            refine sda A λa A↦?_
            refine qa ?_
            refine hK95 _ _ _ (by omega) ⟨i + 1, rfl, ⟨by omega, din (p := fun u : Dt => (zx n u.tr).isSome) hin9 hiti hb106⟩, A.keep _ (by repeat' constructor), M⟩
           ·
            refine gcl A M (ef rfl rfl) (ih (h0.trans (M.bel.mono h0.size)) (hIt.rd _ mti) (hIt.sh _ mti) (by have := hIt.lt _ mti; omega) hb106) fun w110 hb109 M a A => ?_
            refine sdo (v := bV true) A (ql rfl qp) λa A↦?_
            refine qa (hK101 _ _ (ct A ?_))
            refine wsk fun K111 hK111 => wrl (sda A λa A↦?_)
            refine qa (hK111 _ _ (wr1 hret A ?_))
            have hd9 : decide (0 ≤ nN (jb t.tr)) = false := hb8
            have hn9 := xv hd9
            have ha9 := hIt.as hb11
            have hw9 := xu hith (by have h9 := hb24'; omega)
            have ewGe : zg xs ≠ wGe := fun h9 => of_decide_eq_false hb34 ((zb hith).symm.trans h9)
            have ewLe : zg xs ≠ wLe := fun h9 => of_decide_eq_false hb44 ((zb hith).symm.trans h9)
            have ewNot : zg xs ≠ kk := fun h9 => of_decide_eq_false hb55 ((zb hith).symm.trans h9)
            have ewAnd : zg xs ≠ vv := fun h9 => of_decide_eq_false hb69 ((zb hith).symm.trans h9)
            have ewOr : zg xs = wOr := (zb hith).trans (of_decide_eq_true hb91)
            have e9 : (zx (n + 1) t.tr).isSome = false := by
             rw [xe hn9 ha9 hw9 ewGe ewLe, ewOr, qie, xt]; exact qth hi0 hiti hb106
            exact ⟨by rw [e9], M.bel⟩
          ·
           have hb99' := of_decide_eq_false hb99
           refine sdc A zh hb99 λa A↦?_
           refine qa (hK98 _ _ (cf A ?_))
           refine wp_exit (hK92 _ _ (wsk fun K112 hK112 => wrl (sda A λa A↦?_)))
           refine qa (hK112 _ _ (wr1 hret A ?_))
           have hd9 : decide (0 ≤ nN (jb t.tr)) = false := hb8
           have hn9 := xv hd9
           have ha9 := hIt.as hb11
           have hw9 := xu hith (by have h9 := hb24'; omega)
           have ewGe : zg xs ≠ wGe := fun h9 => of_decide_eq_false hb34 ((zb hith).symm.trans h9)
           have ewLe : zg xs ≠ wLe := fun h9 => of_decide_eq_false hb44 ((zb hith).symm.trans h9)
           have ewNot : zg xs ≠ kk := fun h9 => of_decide_eq_false hb55 ((zb hith).symm.trans h9)
           have ewAnd : zg xs ≠ vv := fun h9 => of_decide_eq_false hb69 ((zb hith).symm.trans h9)
           have ewOr : zg xs = wOr := (zb hith).trans (of_decide_eq_true hb91)
           have e9 : (zx (n + 1) t.tr).isSome = true := by
            rw [xe hn9 ha9 hw9 ewGe ewLe, ewOr, qie, xt]; exact qtg hin9 (by omega)
           exact ⟨by rw [e9], M.bel⟩
         ·
          have hb91' := of_decide_eq_false hb91
          refine sdo (v := bV false) A (qh rfl rfl (fun w => (zn Tryz.underlying9 w).trans (by rw [hb91] <;> rfl))) λa A↦?_
          refine sda A λa A↦?_
          refine qa (hK67 _ _ (cf A ?_))
          refine wp_skip (hK26 _ _ (wsk fun K113 hK113 => wrl (sda A λa A↦?_)))
          refine qa (hK113 _ _ (wr1 hret A ?_))
          have hd9 : decide (0 ≤ nN (jb t.tr)) = false := hb8
          have hn9 := xv hd9
          have ha9 := hIt.as hb11
          have hw9 := xu hith (by have h9 := hb24'; omega)
          have ewGe : zg xs ≠ wGe := fun h9 => of_decide_eq_false hb34 ((zb hith).symm.trans h9)
          have ewLe : zg xs ≠ wLe := fun h9 => of_decide_eq_false hb44 ((zb hith).symm.trans h9)
          have ewNot : zg xs ≠ kk := fun h9 => of_decide_eq_false hb55 ((zb hith).symm.trans h9)
          have ewAnd : zg xs ≠ vv := fun h9 => of_decide_eq_false hb69 ((zb hith).symm.trans h9)
          have ewOr : zg xs ≠ wOr := fun h9 => of_decide_eq_false hb91 ((zb hith).symm.trans h9)
          have e9 : (zx (n + 1) t.tr).isSome = false := by
           rw [xe hn9 ha9 hw9 ewGe ewLe, ut ewAnd ewOr ewNot]; rfl
          exact ⟨by rw [e9], M.bel⟩
  ·
   refine sct A (ef rfl rfl) ((hb11 ▸ kd (h0.trans (M.bel.mono h0.size)) ht hs (by omega))) ?_
   rintro _ w117 ⟨so114, ca115, xs, rfl, hIt, hM116⟩
   have hle9 := hIt.le
   replace M : Mg w w117 (.row 30 11 (.slice so114 xs.length ca115) xs.length (cellsOf xs) :: .obj g2 (.cells (t.d.cells t.ts.length).toArray 30) :: []) := (M.both hM116 (qr (by simp) (qw za)) (qr (by simp) (qw za)))
   refine ⟨_, rfl, ?_⟩
   intro a A
   refine sdm A λa A↦?_
   iterate 2 refine sdo A (qi (vs := [.slice so114 xs.length ca115, bV false]) rfl rfl) λa A↦?_
   iterate 2 refine sda A λa A↦?_
   refine qa (hK10 _ _ (wsk fun K118 hK118 => wsk fun K119 hK119 => wrl (sdm A λa A↦?_)))
   refine sdo (v := bV true) A (ql rfl qp) λa A↦?_
   refine sdm A λa A↦?_
   iterate 3 refine qm A rfl rfl rfl λa A↦?_
   refine sdk (v := bV true) A λa A↦?_
   refine sdm A λa A↦?_
   iterate 5 refine qm A rfl rfl rfl λa A↦?_
   refine sdk (v := bV true) A λa A↦?_
   refine qa (hK119 _ _ (ct A ?_))
   refine wsk fun K120 hK120 => wrl (sda A λa A↦?_)
   refine qa (hK120 _ _ (wr1 hret A ?_))
   have hd9 : decide (0 ≤ nN (jb t.tr)) = false := hb8
   have hn9 := xv hd9
   have e9 : (zx (n + 1) t.tr).isSome = false := by
    rw [qfc hn9 (vn hb11)]; rfl
   exact ⟨by rw [e9], M.bel⟩
theorem zmd {w0 w : World} {n : Nat} {t : Dt} (h0 : Below w0.heap.size w0 w) (ht : t.rd w0) (hs : xl zl t.tr = true) (hb : t.tr.bulk ≤ n + 1) (hn : n + 1 ≤ 4000000) (ih : RRef n) (ihs : RSub n) : Calls Tryz.prog 39 #[.agg (t.d.cells t.ts.length).toArray] w fun e w' => e = .returned (bV (jk (n + 1) t.tr).isSome) ∧ Below w.heap.size w w' := by
 have M : Mg w w ([]) := Mg.start w
 refine qx (l := [(0, .agg (t.d.cells t.ts.length).toArray)]) Tryz.func39 rfl Tryz.ntmps39 rfl rfl ?_
 intro Q hret hnorm hP a A
 refine wsk fun K1 hK1 => wrl (jl (vs := (t.d.cells t.ts.length)) (t := 30) A M rfl rfl rfl pg (zd rfl rfl) (by decide) ?_)
 intro g2 w3 M a A
 refine sda A λa A↦?_
 refine qa (hK1 _ _ (wsk fun K4 hK4 => wrl (sdo A (zy M xi rfl 0 rfl (cs := (t.d.cells t.ts.length)) rfl rfl) λa A↦?_)))
 rcases tf ((zw t.tr).isSome) with hb5 | hb5
 ·
  refine sct A (ef rfl rfl) ((hb5 ▸ kd (h0.trans (M.bel.mono h0.size)) ht hs (by omega))) ?_
  rintro _ w9 ⟨so6, ca7, xs, rfl, hIt, hM8⟩
  have hle9 := hIt.le
  replace M : Mg w w9 (.row 30 11 (.slice so6 xs.length ca7) xs.length (cellsOf xs) :: .obj g2 (.cells (t.d.cells t.ts.length).toArray 30) :: []) := (M.both hM8 (qr (by simp) (qw za)) (qr (by simp) (qw za)))
  refine ⟨_, rfl, ?_⟩
  intro a A
  refine sdm A λa A↦?_
  iterate 2 refine sdo A (qi (vs := [.slice so6 xs.length ca7, bV true]) rfl rfl) λa A↦?_
  iterate 2 refine sda A λa A↦?_
  refine qa (hK4 _ _ (wsk fun K10 hK10 => wsk fun K11 hK11 => wrl (sdm A λa A↦?_)))
  refine sdo (v := bV false) A (ql rfl qp) λa A↦?_
  refine qa (hK11 _ _ (cf A ?_))
  refine wp_skip (hK10 _ _ (wsk fun K12 hK12 => wsk fun K13 hK13 => wrl (sdm A λa A↦?_)))
  refine sdo A (qy Tryz.underlying28 rfl) λa A↦?_
  rcases tf ((((xs.length : Nat) : Int) == 0)) with hb14 | hb14
  ·
   have hb14' := eq_of_beq hb14
   refine sdc A qt hb14 λa A↦?_
   refine sdm A λa A↦?_
   iterate 5 refine qm A rfl rfl rfl λa A↦?_
   refine sdk (v := bV true) A λa A↦?_
   refine qa (hK13 _ _ (ct A ?_))
   refine wsk fun K15 hK15 => wsk fun K16 hK16 => wrl (sda A λa A↦?_)
   refine qa (hK16 _ _ (wp_block (jc (fun m_ a w1 => ∃ (i : Nat), m_ = 1 + (xs.length - i) ∧ (0 ≤ i ∧ ∀ (j : Nat) u, 0 ≤ j → j < i → xs[j]? = some u → (zx n u.tr).isSome = true) ∧ Sl a 69 [(0, .agg (t.d.cells t.ts.length).toArray), (1, pA g2 0), (3, .slice so6 xs.length ca7), (4, bV true), (5, iV (((i : Nat) : Int))), (8, .tuple #[.slice so6 xs.length ca7, bV true]), (9, .agg (t.d.cells t.ts.length).toArray), (10, .tuple #[.slice so6 xs.length ca7, bV true]), (11, .slice so6 xs.length ca7), (12, bV true), (13, bV true), (14, bV false), (15, .slice so6 xs.length ca7), (16, iV (((xs.length : Nat) : Int))), (17, bV true), (18, bV true), (24, bV true)] ∧ Mg w w1 (.row 30 11 (.slice so6 xs.length ca7) xs.length (cellsOf xs) :: .obj g2 (.cells (t.d.cells t.ts.length).toArray 30) :: [])) _ ⟨0, rfl, ⟨Nat.le_refl _, fun j u h1 h2 => absurd h1 (by omega)⟩, A.keep _ (by repeat' constructor), M⟩ ?_)))
   clear M A
   rintro m_ a w17 ⟨i, rfl, hinv19, A, M⟩ K18 hK18
   obtain ⟨hi0, hin9⟩ := hinv19
   refine wsk fun K20 hK20 => wsk fun K21 hK21 => wrl ?_
   iterate 2 refine sdm A λa A↦?_
   refine sdo A (qy Tryz.underlying28 rfl) λa A↦?_
   rcases tf (decide (((i : Nat) : Int) < ((xs.length : Nat) : Int))) with hb22 | hb22
   ·
    have hb22' := of_decide_eq_true hb22
    refine sdc A zh hb22 λa A↦?_
    refine qa (hK21 _ _ (ct A ?_))
    refine wp_skip (hK20 _ _ (wsk fun K23 hK23 => wp_block (wsk fun K24 hK24 => wrl ?_)))
    iterate 2 refine sdm A λa A↦?_
    obtain ⟨ti, hiti⟩ : ∃ t, xs[i]? = some t := ⟨_, List.getElem?_eq_getElem (by omega)⟩
    have hlti := (List.getElem?_eq_some_iff.1 hiti).1
    have mti := List.mem_of_getElem? hiti
    obtain ⟨bk25, ok26, lk27, Hk28⟩ := vg (jr (M.has 0 rfl)).1 (fun x hx => Dt.keep (h0.trans (M.bel.mono h0.size)) _ (hIt.rd x hx)) hiti
    refine sdo (v := pA bk25 (ok26 + i * 11)) A (ze (k := i) Tryz.underlying28 (by kernel_rfl) rfl rfl (by first | rfl | omega) lk27 hlti) λa A↦?_
    refine sdo A (jh (Mg.start _) Hk28 xi rfl rfl) λa A↦?_
    rcases tf ((zx n ti.tr).isSome) with hb29 | hb29
    ·
     refine gcl A M (ef rfl rfl) (ihs (h0.trans (M.bel.mono h0.size)) (hIt.rd _ mti) (hIt.sh _ mti) (by have := hIt.lt _ mti; omega) hb29) fun w31 hb30 M a A => ?_
     refine sdo (v := bV false) A (ql rfl qp) λa A↦?_
     refine qa (hK24 _ _ (cf A ?_))
     refine wp_skip (hK23 _ _ (wrl (sdm A λa A↦?_)))
     refine sdo (v := iV (((i + 1 : Nat) : Int))) A (qh rfl rfl (ar_add ((in_i64 (by omega) (by omega)).trans (by omega)))) λa A↦?_
     refine sda A λa A↦?_
     refine qa ?_
     refine hK18 _ _ _ (by omega) ⟨i + 1, rfl, ⟨by omega, din (p := fun u : Dt => (zx n u.tr).isSome) hin9 hiti hb29⟩, A.keep _ (by repeat' constructor), M⟩
    ·
     refine gcl A M (ef rfl rfl) (ihs (h0.trans (M.bel.mono h0.size)) (hIt.rd _ mti) (hIt.sh _ mti) (by have := hIt.lt _ mti; omega) hb29) fun w33 hb32 M a A => ?_
     refine sdo (v := bV true) A (ql rfl qp) λa A↦?_
     refine qa (hK24 _ _ (ct A ?_))
     refine wsk fun K34 hK34 => wrl (sda A λa A↦?_)
     refine qa (hK34 _ _ (wr1 hret A ?_))
     have ha9 := hIt.as hb5
     have e9 : (jk (n + 1) t.tr).isSome = false := by
      rw [yh ha9 (qih (by omega)), Option.isSome_map, xt]; exact qth (s := 0) hi0 hiti hb29
     exact ⟨by rw [e9], M.bel⟩
   ·
    have hb22' := of_decide_eq_false hb22
    refine sdc A zh hb22 λa A↦?_
    refine qa (hK21 _ _ (cf A ?_))
    refine wp_exit (hK15 _ _ (wsk fun K35 hK35 => wrl (sda A λa A↦?_)))
    refine qa (hK35 _ _ (wr1 hret A ?_))
    have ha9 := hIt.as hb5
    have e9 : (jk (n + 1) t.tr).isSome = true := by
     rw [yh ha9 (qih (by omega)), Option.isSome_map, xt]; exact qtg (s := 0) hin9 (by omega)
    exact ⟨by rw [e9], M.bel⟩
  ·
   have hb14' := ne_of_beq_false hb14
   refine sdc A qt hb14 λa A↦?_
   iterate 2 refine sdm A λa A↦?_
   obtain ⟨th, hith⟩ : ∃ t, xs[0]? = some t := ⟨_, List.getElem?_eq_getElem (by omega)⟩
   have hlth := (List.getElem?_eq_some_iff.1 hith).1
   have mth := List.mem_of_getElem? hith
   obtain ⟨bk36, ok37, lk38, Hk39⟩ := vg (jr (M.has 0 rfl)).1 (fun x hx => Dt.keep (h0.trans (M.bel.mono h0.size)) _ (hIt.rd x hx)) hith
   refine sdo (v := pA bk36 (ok37 + 0 * 11)) A (ze (k := 0) Tryz.underlying28 (by kernel_rfl) rfl rfl (by first | rfl | omega) lk38 hlth) λa A↦?_
   refine sdo (v := pA bk36 (ok37 + 0 * 11)) A (qf vm rfl rfl) λa A↦?_
   refine sdo A (vl (j := 0) (Mg.start _) Hk39 o93 rfl rfl rfl) λa A↦?_
   rcases tf ((th.d.k != 6)) with hb40 | hb40
   ·
    have hb40' := bne_iff_ne.1 hb40
    refine sdc A jm hb40 λa A↦?_
    refine sdk (v := bV true) A λa A↦?_
    refine qa (hK13 _ _ (ct A ?_))
    refine wsk fun K41 hK41 => wsk fun K42 hK42 => wrl (sda A λa A↦?_)
    refine qa (hK42 _ _ (wp_block (jc (fun m_ a w1 => ∃ (i : Nat), m_ = 1 + (xs.length - i) ∧ (0 ≤ i ∧ ∀ (j : Nat) u, 0 ≤ j → j < i → xs[j]? = some u → (zx n u.tr).isSome = true) ∧ Sl a 69 [(0, .agg (t.d.cells t.ts.length).toArray), (1, pA g2 0), (3, .slice so6 xs.length ca7), (4, bV true), (5, iV (((i : Nat) : Int))), (8, .tuple #[.slice so6 xs.length ca7, bV true]), (9, .agg (t.d.cells t.ts.length).toArray), (10, .tuple #[.slice so6 xs.length ca7, bV true]), (11, .slice so6 xs.length ca7), (12, bV true), (13, bV true), (14, bV false), (15, .slice so6 xs.length ca7), (16, iV (((xs.length : Nat) : Int))), (17, bV false), (18, bV false), (19, .slice so6 xs.length ca7), (20, pA bk36 (ok37 + 0 * 11)), (21, pA bk36 (ok37 + 0 * 11)), (22, iV th.d.k), (23, bV true), (24, bV true)] ∧ Mg w w1 (.row 30 11 (.slice so6 xs.length ca7) xs.length (cellsOf xs) :: .obj g2 (.cells (t.d.cells t.ts.length).toArray 30) :: [])) _ ⟨0, rfl, ⟨Nat.le_refl _, fun j u h1 h2 => absurd h1 (by omega)⟩, A.keep _ (by repeat' constructor), M⟩ ?_)))
    clear M A
    rintro m_ a w43 ⟨i, rfl, hinv45, A, M⟩ K44 hK44
    obtain ⟨hi0, hin9⟩ := hinv45
    refine wsk fun K46 hK46 => wsk fun K47 hK47 => wrl ?_
    iterate 2 refine sdm A λa A↦?_
    refine sdo A (qy Tryz.underlying28 rfl) λa A↦?_
    rcases tf (decide (((i : Nat) : Int) < ((xs.length : Nat) : Int))) with hb48 | hb48
    ·
     have hb48' := of_decide_eq_true hb48
     refine sdc A zh hb48 λa A↦?_
     refine qa (hK47 _ _ (ct A ?_))
     refine wp_skip (hK46 _ _ (wsk fun K49 hK49 => wp_block (wsk fun K50 hK50 => wrl ?_)))
     iterate 2 refine sdm A λa A↦?_
     obtain ⟨ti, hiti⟩ : ∃ t, xs[i]? = some t := ⟨_, List.getElem?_eq_getElem (by omega)⟩
     have hlti := (List.getElem?_eq_some_iff.1 hiti).1
     have mti := List.mem_of_getElem? hiti
     obtain ⟨bk51, ok52, lk53, Hk54⟩ := vg (jr (M.has 0 rfl)).1 (fun x hx => Dt.keep (h0.trans (M.bel.mono h0.size)) _ (hIt.rd x hx)) hiti
     refine sdo (v := pA bk51 (ok52 + i * 11)) A (ze (k := i) Tryz.underlying28 (by kernel_rfl) rfl rfl (by first | rfl | omega) lk53 hlti) λa A↦?_
     refine sdo A (jh (Mg.start _) Hk54 xi rfl rfl) λa A↦?_
     rcases tf ((zx n ti.tr).isSome) with hb55 | hb55
     ·
      refine gcl A M (ef rfl rfl) (ihs (h0.trans (M.bel.mono h0.size)) (hIt.rd _ mti) (hIt.sh _ mti) (by have := hIt.lt _ mti; omega) hb55) fun w57 hb56 M a A => ?_
      refine sdo (v := bV false) A (ql rfl qp) λa A↦?_
      refine qa (hK50 _ _ (cf A ?_))
      refine wp_skip (hK49 _ _ (wrl (sdm A λa A↦?_)))
      refine sdo (v := iV (((i + 1 : Nat) : Int))) A (qh rfl rfl (ar_add ((in_i64 (by omega) (by omega)).trans (by omega)))) λa A↦?_
      refine sda A λa A↦?_
      refine qa ?_
      refine hK44 _ _ _ (by omega) ⟨i + 1, rfl, ⟨by omega, din (p := fun u : Dt => (zx n u.tr).isSome) hin9 hiti hb55⟩, A.keep _ (by repeat' constructor), M⟩
     ·
      refine gcl A M (ef rfl rfl) (ihs (h0.trans (M.bel.mono h0.size)) (hIt.rd _ mti) (hIt.sh _ mti) (by have := hIt.lt _ mti; omega) hb55) fun w59 hb58 M a A => ?_
      refine sdo (v := bV true) A (ql rfl qp) λa A↦?_
      refine qa (hK50 _ _ (ct A ?_))
      refine wsk fun K60 hK60 => wrl (sda A λa A↦?_)
      refine qa (hK60 _ _ (wr1 hret A ?_))
      have ha9 := hIt.as hb5
      have e9 : (jk (n + 1) t.tr).isSome = false := by
       rw [yh ha9 (qig hith (by have h9 := hb40'; omega)), Option.isSome_map, xt]; exact qth (s := 0) hi0 hiti hb55
      exact ⟨by rw [e9], M.bel⟩
    ·
     have hb48' := of_decide_eq_false hb48
     refine sdc A zh hb48 λa A↦?_
     refine qa (hK47 _ _ (cf A ?_))
     refine wp_exit (hK41 _ _ (wsk fun K61 hK61 => wrl (sda A λa A↦?_)))
     refine qa (hK61 _ _ (wr1 hret A ?_))
     have ha9 := hIt.as hb5
     have e9 : (jk (n + 1) t.tr).isSome = true := by
      rw [yh ha9 (qig hith (by have h9 := hb40'; omega)), Option.isSome_map, xt]; exact qtg (s := 0) hin9 (by omega)
     exact ⟨by rw [e9], M.bel⟩
   ·
    have hb40' := bne_eq_false_iff_eq.1 hb40
    refine sdc A jm hb40 λa A↦?_
    refine sdk (v := bV false) A λa A↦?_
    refine qa (hK13 _ _ (cf A ?_))
    refine wp_skip (hK12 _ _ (wsk fun K62 hK62 => wrl (sdm A λa A↦?_)))
    obtain ⟨bk63, ok64, lk65, Hk66⟩ := vg (jr (M.has 0 rfl)).1 (fun x hx => Dt.keep (h0.trans (M.bel.mono h0.size)) _ (hIt.rd x hx)) hith
    refine sdo (v := pA bk63 (ok64 + 0 * 11)) A (ze (k := 0) Tryz.underlying28 (by kernel_rfl) rfl rfl (by first | rfl | omega) lk65 hlth) λa A↦?_
    refine sdo (v := pA bk63 (ok64 + 0 * 11 + 8)) A (qf ki rfl rfl) λa A↦?_
    refine sdo A (vl (j := 8) (Mg.start _) Hk66 o99 rfl rfl rfl) λa A↦?_
    refine sda A λa A↦?_
    refine qa (hK62 _ _ (wsk fun K67 hK67 => wsk fun K68 hK68 => wrl (sdm A λa A↦?_)))
    rcases tf (decide (th.d.s = ⟨#[97, 110, 100]⟩)) with hb69 | hb69
    ·
     have hb69' := of_decide_eq_true hb69
     refine sdo (v := bV false) A (qh rfl rfl (fun w => (uk Tryz.underlying9 w).trans (by rw [hb69] <;> rfl))) λa A↦?_
     refine sdm A λa A↦?_
     iterate 2 refine qm A rfl rfl rfl λa A↦?_
     refine sdk (v := bV false) A λa A↦?_
     refine sdm A λa A↦?_
     iterate 3 refine qm A rfl rfl rfl λa A↦?_
     iterate 3 refine kz A rfl rfl rfl λa A↦?_
     iterate 2 refine qm A rfl rfl rfl λa A↦?_
     refine sdk (v := bV false) A λa A↦?_
     refine qa (hK68 _ _ (cf A ?_))
     refine wp_skip (hK67 _ _ (wsk fun K70 hK70 => wsk fun K71 hK71 => wrl (sda A λa A↦?_)))
     refine qa (hK71 _ _ (wp_block (jc (fun m_ a w1 => ∃ (i : Nat), m_ = 1 + (xs.length - i) ∧ (1 ≤ i ∧ ∀ (j : Nat) u, 1 ≤ j → j < i → xs[j]? = some u → (jk n u.tr).isSome = true) ∧ Sl a 69 [(0, .agg (t.d.cells t.ts.length).toArray), (1, pA g2 0), (3, .slice so6 xs.length ca7), (4, bV true), (6, .string th.d.s), (7, iV (((i : Nat) : Int))), (8, .tuple #[.slice so6 xs.length ca7, bV true]), (9, .agg (t.d.cells t.ts.length).toArray), (10, .tuple #[.slice so6 xs.length ca7, bV true]), (11, .slice so6 xs.length ca7), (12, bV true), (13, bV true), (14, bV false), (15, .slice so6 xs.length ca7), (16, iV (((xs.length : Nat) : Int))), (17, bV false), (18, bV false), (19, .slice so6 xs.length ca7), (20, pA bk36 (ok37 + 0 * 11)), (21, pA bk36 (ok37 + 0 * 11)), (22, iV th.d.k), (23, bV false), (24, bV false), (37, .slice so6 xs.length ca7), (38, pA bk63 (ok64 + 0 * 11)), (39, pA bk63 (ok64 + 0 * 11 + 8)), (40, .string th.d.s), (41, .string th.d.s), (42, bV false), (43, bV false), (46, bV false), (47, bV false), (56, bV false)] ∧ Mg w w1 (.row 30 11 (.slice so6 xs.length ca7) xs.length (cellsOf xs) :: .obj g2 (.cells (t.d.cells t.ts.length).toArray 30) :: [])) _ ⟨1, rfl, ⟨Nat.le_refl _, fun j u h1 h2 => absurd h1 (by omega)⟩, A.keep _ (by repeat' constructor), M⟩ ?_)))
     clear M A
     rintro m_ a w72 ⟨i, rfl, hinv74, A, M⟩ K73 hK73
     obtain ⟨hi0, hin9⟩ := hinv74
     refine wsk fun K75 hK75 => wsk fun K76 hK76 => wrl ?_
     iterate 2 refine sdm A λa A↦?_
     refine sdo A (qy Tryz.underlying28 rfl) λa A↦?_
     rcases tf (decide (((i : Nat) : Int) < ((xs.length : Nat) : Int))) with hb77 | hb77
     ·
      have hb77' := of_decide_eq_true hb77
      refine sdc A zh hb77 λa A↦?_
      refine qa (hK76 _ _ (ct A ?_))
      refine wp_skip (hK75 _ _ (wsk fun K78 hK78 => wp_block (wsk fun K79 hK79 => wrl ?_)))
      iterate 2 refine sdm A λa A↦?_
      obtain ⟨ti, hiti⟩ : ∃ t, xs[i]? = some t := ⟨_, List.getElem?_eq_getElem (by omega)⟩
      have hlti := (List.getElem?_eq_some_iff.1 hiti).1
      have mti := List.mem_of_getElem? hiti
      obtain ⟨bk80, ok81, lk82, Hk83⟩ := vg (jr (M.has 0 rfl)).1 (fun x hx => Dt.keep (h0.trans (M.bel.mono h0.size)) _ (hIt.rd x hx)) hiti
      refine sdo (v := pA bk80 (ok81 + i * 11)) A (ze (k := i) Tryz.underlying28 (by kernel_rfl) rfl rfl (by first | rfl | omega) lk82 hlti) λa A↦?_
      refine sdo A (jh (Mg.start _) Hk83 xi rfl rfl) λa A↦?_
      rcases tf ((jk n ti.tr).isSome) with hb84 | hb84
      ·
       refine gcl A M (ef rfl rfl) (ih (h0.trans (M.bel.mono h0.size)) (hIt.rd _ mti) (hIt.sh _ mti) (by have := hIt.lt _ mti; omega) hb84) fun w86 hb85 M a A => ?_
       refine sdo (v := bV false) A (ql rfl qp) λa A↦?_
       refine qa (hK79 _ _ (cf A ?_))
       refine wp_skip (hK78 _ _ (wrl (sdm A λa A↦?_)))
       refine sdo (v := iV (((i + 1 : Nat) : Int))) A (qh rfl rfl (ar_add ((in_i64 (by omega) (by omega)).trans (by omega)))) λa A↦?_
       refine sda A λa A↦?_
       refine qa ?_
       refine hK73 _ _ _ (by omega) ⟨i + 1, rfl, ⟨by omega, din (p := fun u : Dt => (jk n u.tr).isSome) hin9 hiti hb84⟩, A.keep _ (by repeat' constructor), M⟩
      ·
       refine gcl A M (ef rfl rfl) (ih (h0.trans (M.bel.mono h0.size)) (hIt.rd _ mti) (hIt.sh _ mti) (by have := hIt.lt _ mti; omega) hb84) fun w88 hb87 M a A => ?_
       refine sdo (v := bV true) A (ql rfl qp) λa A↦?_
       refine qa (hK79 _ _ (ct A ?_))
       refine wsk fun K89 hK89 => wrl (sda A λa A↦?_)
       refine qa (hK89 _ _ (wr1 hret A ?_))
       have ha9 := hIt.as hb5
       have hw9 := xu hith (by have h9 := hb40'; omega)
       have ewAnd : zg xs = vv := (zb hith).trans (of_decide_eq_true hb69)
       have e9 : (jk (n + 1) t.tr).isSome = false := by
        rw [js ha9 hw9, ewAnd, qfe, xt]; exact qth hi0 hiti hb84
       exact ⟨by rw [e9], M.bel⟩
     ·
      have hb77' := of_decide_eq_false hb77
      refine sdc A zh hb77 λa A↦?_
      refine qa (hK76 _ _ (cf A ?_))
      refine wp_exit (hK70 _ _ (wsk fun K90 hK90 => wrl (sda A λa A↦?_)))
      refine qa (hK90 _ _ (wr1 hret A ?_))
      have ha9 := hIt.as hb5
      have hw9 := xu hith (by have h9 := hb40'; omega)
      have ewAnd : zg xs = vv := (zb hith).trans (of_decide_eq_true hb69)
      have e9 : (jk (n + 1) t.tr).isSome = true := by
       rw [js ha9 hw9, ewAnd, qfe, xt]; exact qtg hin9 (by omega)
      exact ⟨by rw [e9], M.bel⟩
    ·
     have hb69' := of_decide_eq_false hb69
     refine sdo (v := bV true) A (qh rfl rfl (fun w => (uk Tryz.underlying9 w).trans (by rw [hb69] <;> rfl))) λa A↦?_
     iterate 2 refine sdm A λa A↦?_
     rcases tf (decide (th.d.s = ⟨#[111, 114]⟩)) with hb91 | hb91
     ·
      have hb91' := of_decide_eq_true hb91
      refine sdo (v := bV false) A (qh rfl rfl (fun w => (uk Tryz.underlying9 w).trans (by rw [hb91] <;> rfl))) λa A↦?_
      refine sdk (v := bV false) A λa A↦?_
      refine sdm A λa A↦?_
      iterate 3 refine qm A rfl rfl rfl λa A↦?_
      iterate 3 refine kz A rfl rfl rfl λa A↦?_
      iterate 2 refine qm A rfl rfl rfl λa A↦?_
      refine sdk (v := bV false) A λa A↦?_
      refine qa (hK68 _ _ (cf A ?_))
      refine wp_skip (hK67 _ _ (wsk fun K92 hK92 => wsk fun K93 hK93 => wrl (sda A λa A↦?_)))
      refine qa (hK93 _ _ (wp_block (jc (fun m_ a w1 => ∃ (i : Nat), m_ = 1 + (xs.length - i) ∧ (1 ≤ i ∧ ∀ (j : Nat) u, 1 ≤ j → j < i → xs[j]? = some u → (jk n u.tr).isSome = true) ∧ Sl a 69 [(0, .agg (t.d.cells t.ts.length).toArray), (1, pA g2 0), (3, .slice so6 xs.length ca7), (4, bV true), (6, .string th.d.s), (7, iV (((i : Nat) : Int))), (8, .tuple #[.slice so6 xs.length ca7, bV true]), (9, .agg (t.d.cells t.ts.length).toArray), (10, .tuple #[.slice so6 xs.length ca7, bV true]), (11, .slice so6 xs.length ca7), (12, bV true), (13, bV true), (14, bV false), (15, .slice so6 xs.length ca7), (16, iV (((xs.length : Nat) : Int))), (17, bV false), (18, bV false), (19, .slice so6 xs.length ca7), (20, pA bk36 (ok37 + 0 * 11)), (21, pA bk36 (ok37 + 0 * 11)), (22, iV th.d.k), (23, bV false), (24, bV false), (37, .slice so6 xs.length ca7), (38, pA bk63 (ok64 + 0 * 11)), (39, pA bk63 (ok64 + 0 * 11 + 8)), (40, .string th.d.s), (41, .string th.d.s), (42, bV true), (43, bV true), (44, .string th.d.s), (45, bV false), (46, bV false), (47, bV false), (56, bV false)] ∧ Mg w w1 (.row 30 11 (.slice so6 xs.length ca7) xs.length (cellsOf xs) :: .obj g2 (.cells (t.d.cells t.ts.length).toArray 30) :: [])) _ ⟨1, rfl, ⟨Nat.le_refl _, fun j u h1 h2 => absurd h1 (by omega)⟩, A.keep _ (by repeat' constructor), M⟩ ?_)))
      clear M A
      rintro m_ a w94 ⟨i, rfl, hinv96, A, M⟩ K95 hK95
      obtain ⟨hi0, hin9⟩ := hinv96
      refine wsk fun K97 hK97 => wsk fun K98 hK98 => wrl ?_
      iterate 2 refine sdm A λa A↦?_
      refine sdo A (qy Tryz.underlying28 rfl) λa A↦?_
      rcases tf (decide (((i : Nat) : Int) < ((xs.length : Nat) : Int))) with hb99 | hb99
      ·
       have hb99' := of_decide_eq_true hb99
       refine sdc A zh hb99 λa A↦?_
       refine qa (hK98 _ _ (ct A ?_))
       refine wp_skip (hK97 _ _ (wsk fun K100 hK100 => wp_block (wsk fun K101 hK101 => wrl ?_)))
       iterate 2 refine sdm A λa A↦?_
       obtain ⟨ti, hiti⟩ : ∃ t, xs[i]? = some t := ⟨_, List.getElem?_eq_getElem (by omega)⟩
       have hlti := (List.getElem?_eq_some_iff.1 hiti).1
       have mti := List.mem_of_getElem? hiti
       obtain ⟨bk102, ok103, lk104, Hk105⟩ := vg (jr (M.has 0 rfl)).1 (fun x hx => Dt.keep (h0.trans (M.bel.mono h0.size)) _ (hIt.rd x hx)) hiti
       refine sdo (v := pA bk102 (ok103 + i * 11)) A (ze (k := i) Tryz.underlying28 (by kernel_rfl) rfl rfl (by first | rfl | omega) lk104 hlti) λa A↦?_
       refine sdo A (jh (Mg.start _) Hk105 xi rfl rfl) λa A↦?_
       rcases tf ((jk n ti.tr).isSome) with hb106 | hb106
       ·
        refine gcl A M (ef rfl rfl) (ih (h0.trans (M.bel.mono h0.size)) (hIt.rd _ mti) (hIt.sh _ mti) (by have := hIt.lt _ mti; omega) hb106) fun w108 hb107 M a A => ?_
        refine sdo (v := bV false) A (ql rfl qp) λa A↦?_
        refine qa (hK101 _ _ (cf A ?_))
        refine wp_skip (hK100 _ _ (wrl (sdm A λa A↦?_)))
        refine sdo (v := iV (((i + 1 : Nat) : Int))) A (qh rfl rfl (ar_add ((in_i64 (by omega) (by omega)).trans (by omega)))) λa A↦?_
        refine sda A λa A↦?_
        refine qa ?_
        refine hK95 _ _ _ (by omega) ⟨i + 1, rfl, ⟨by omega, din (p := fun u : Dt => (jk n u.tr).isSome) hin9 hiti hb106⟩, A.keep _ (by repeat' constructor), M⟩
       ·
        refine gcl A M (ef rfl rfl) (ih (h0.trans (M.bel.mono h0.size)) (hIt.rd _ mti) (hIt.sh _ mti) (by have := hIt.lt _ mti; omega) hb106) fun w110 hb109 M a A => ?_
        refine sdo (v := bV true) A (ql rfl qp) λa A↦?_
        refine qa (hK101 _ _ (ct A ?_))
        refine wsk fun K111 hK111 => wrl (sda A λa A↦?_)
        refine qa (hK111 _ _ (wr1 hret A ?_))
        have ha9 := hIt.as hb5
        have hw9 := xu hith (by have h9 := hb40'; omega)
        have ewAnd : zg xs ≠ vv := fun h9 => of_decide_eq_false hb69 ((zb hith).symm.trans h9)
        have ewOr : zg xs = wOr := (zb hith).trans (of_decide_eq_true hb91)
        have e9 : (jk (n + 1) t.tr).isSome = false := by
         rw [js ha9 hw9, ewOr, qie, xt]; exact qth hi0 hiti hb106
        exact ⟨by rw [e9], M.bel⟩
      ·
       have hb99' := of_decide_eq_false hb99
       refine sdc A zh hb99 λa A↦?_
       refine qa (hK98 _ _ (cf A ?_))
       refine wp_exit (hK92 _ _ (wsk fun K112 hK112 => wrl (sda A λa A↦?_)))
       refine qa (hK112 _ _ (wr1 hret A ?_))
       have ha9 := hIt.as hb5
       have hw9 := xu hith (by have h9 := hb40'; omega)
       have ewAnd : zg xs ≠ vv := fun h9 => of_decide_eq_false hb69 ((zb hith).symm.trans h9)
       have ewOr : zg xs = wOr := (zb hith).trans (of_decide_eq_true hb91)
       have e9 : (jk (n + 1) t.tr).isSome = true := by
        rw [js ha9 hw9, ewOr, qie, xt]; exact qtg hin9 (by omega)
       exact ⟨by rw [e9], M.bel⟩
     ·
      have hb91' := of_decide_eq_false hb91
      refine sdo (v := bV true) A (qh rfl rfl (fun w => (uk Tryz.underlying9 w).trans (by rw [hb91] <;> rfl))) λa A↦?_
      refine sdk (v := bV true) A λa A↦?_
      iterate 2 refine sdm A λa A↦?_
      rcases tf (decide (th.d.s = ⟨#[110, 111, 116]⟩)) with hb113 | hb113
      ·
       have hb113' := of_decide_eq_true hb113
       refine sdo (v := bV true) A (qh rfl rfl (fun w => (zn Tryz.underlying9 w).trans (by rw [hb113] <;> rfl))) λa A↦?_
       iterate 2 refine sdm A λa A↦?_
       refine sdo A (qy Tryz.underlying28 rfl) λa A↦?_
       rcases tf ((((xs.length : Nat) : Int) == 2)) with hb114 | hb114
       ·
        have hb114' := eq_of_beq hb114
        refine sdc A qt hb114 λa A↦?_
        refine sdk (v := bV true) A λa A↦?_
        refine sdo (v := bV false) A (ql rfl qp) λa A↦?_
        refine sdk (v := bV false) A λa A↦?_
        refine qa (hK68 _ _ (cf A ?_))
        refine wp_skip (hK67 _ _ (wsk fun K115 hK115 => wsk fun K116 hK116 => wrl (sda A λa A↦?_)))
        refine qa (hK116 _ _ (wp_block (jc (fun m_ a w1 => ∃ (i : Nat), m_ = 1 + (xs.length - i) ∧ (1 ≤ i ∧ ∀ (j : Nat) u, 1 ≤ j → j < i → xs[j]? = some u → (jk n u.tr).isSome = true) ∧ Sl a 69 [(0, .agg (t.d.cells t.ts.length).toArray), (1, pA g2 0), (3, .slice so6 xs.length ca7), (4, bV true), (6, .string th.d.s), (7, iV (((i : Nat) : Int))), (8, .tuple #[.slice so6 xs.length ca7, bV true]), (9, .agg (t.d.cells t.ts.length).toArray), (10, .tuple #[.slice so6 xs.length ca7, bV true]), (11, .slice so6 xs.length ca7), (12, bV true), (13, bV true), (14, bV false), (15, .slice so6 xs.length ca7), (16, iV (((xs.length : Nat) : Int))), (17, bV false), (18, bV false), (19, .slice so6 xs.length ca7), (20, pA bk36 (ok37 + 0 * 11)), (21, pA bk36 (ok37 + 0 * 11)), (22, iV th.d.k), (23, bV false), (24, bV false), (37, .slice so6 xs.length ca7), (38, pA bk63 (ok64 + 0 * 11)), (39, pA bk63 (ok64 + 0 * 11 + 8)), (40, .string th.d.s), (41, .string th.d.s), (42, bV true), (43, bV true), (44, .string th.d.s), (45, bV true), (46, bV true), (47, bV true), (48, .string th.d.s), (49, bV true), (50, bV true), (51, .slice so6 xs.length ca7), (52, iV (((xs.length : Nat) : Int))), (53, bV true), (54, bV true), (55, bV false), (56, bV false)] ∧ Mg w w1 (.row 30 11 (.slice so6 xs.length ca7) xs.length (cellsOf xs) :: .obj g2 (.cells (t.d.cells t.ts.length).toArray 30) :: [])) _ ⟨1, rfl, ⟨Nat.le_refl _, fun j u h1 h2 => absurd h1 (by omega)⟩, A.keep _ (by repeat' constructor), M⟩ ?_)))
        clear M A
        rintro m_ a w117 ⟨i, rfl, hinv119, A, M⟩ K118 hK118
        obtain ⟨hi0, hin9⟩ := hinv119
        refine wsk fun K120 hK120 => wsk fun K121 hK121 => wrl ?_
        iterate 2 refine sdm A λa A↦?_
        refine sdo A (qy Tryz.underlying28 rfl) λa A↦?_
        rcases tf (decide (((i : Nat) : Int) < ((xs.length : Nat) : Int))) with hb122 | hb122
        ·
         have hb122' := of_decide_eq_true hb122
         refine sdc A zh hb122 λa A↦?_
         refine qa (hK121 _ _ (ct A ?_))
         refine wp_skip (hK120 _ _ (wsk fun K123 hK123 => wp_block (wsk fun K124 hK124 => wrl ?_)))
         iterate 2 refine sdm A λa A↦?_
         obtain ⟨ti, hiti⟩ : ∃ t, xs[i]? = some t := ⟨_, List.getElem?_eq_getElem (by omega)⟩
         have hlti := (List.getElem?_eq_some_iff.1 hiti).1
         have mti := List.mem_of_getElem? hiti
         obtain ⟨bk125, ok126, lk127, Hk128⟩ := vg (jr (M.has 0 rfl)).1 (fun x hx => Dt.keep (h0.trans (M.bel.mono h0.size)) _ (hIt.rd x hx)) hiti
         refine sdo (v := pA bk125 (ok126 + i * 11)) A (ze (k := i) Tryz.underlying28 (by kernel_rfl) rfl rfl (by first | rfl | omega) lk127 hlti) λa A↦?_
         refine sdo A (jh (Mg.start _) Hk128 xi rfl rfl) λa A↦?_
         rcases tf ((jk n ti.tr).isSome) with hb129 | hb129
         ·
          refine gcl A M (ef rfl rfl) (ih (h0.trans (M.bel.mono h0.size)) (hIt.rd _ mti) (hIt.sh _ mti) (by have := hIt.lt _ mti; omega) hb129) fun w131 hb130 M a A => ?_
          refine sdo (v := bV false) A (ql rfl qp) λa A↦?_
          refine qa (hK124 _ _ (cf A ?_))
          refine wp_skip (hK123 _ _ (wrl (sdm A λa A↦?_)))
          refine sdo (v := iV (((i + 1 : Nat) : Int))) A (qh rfl rfl (ar_add ((in_i64 (by omega) (by omega)).trans (by omega)))) λa A↦?_
          refine sda A λa A↦?_
          refine qa ?_
          refine hK118 _ _ _ (by omega) ⟨i + 1, rfl, ⟨by omega, din (p := fun u : Dt => (jk n u.tr).isSome) hin9 hiti hb129⟩, A.keep _ (by repeat' constructor), M⟩
         ·
          refine gcl A M (ef rfl rfl) (ih (h0.trans (M.bel.mono h0.size)) (hIt.rd _ mti) (hIt.sh _ mti) (by have := hIt.lt _ mti; omega) hb129) fun w133 hb132 M a A => ?_
          refine sdo (v := bV true) A (ql rfl qp) λa A↦?_
          refine qa (hK124 _ _ (ct A ?_))
          refine wsk fun K134 hK134 => wrl (sda A λa A↦?_)
          refine qa (hK134 _ _ (wr1 hret A ?_))
          have ha9 := hIt.as hb5
          have hw9 := xu hith (by have h9 := hb40'; omega)
          have ewAnd : zg xs ≠ vv := fun h9 => of_decide_eq_false hb69 ((zb hith).symm.trans h9)
          have ewOr : zg xs ≠ wOr := fun h9 => of_decide_eq_false hb91 ((zb hith).symm.trans h9)
          have ewNot : zg xs = kk := (zb hith).trans (of_decide_eq_true hb113)
          have e9 : (jk (n + 1) t.tr).isSome = false := by
           rw [js ha9 hw9, ewNot, qqg (by rw [List.length_map, List.length_drop]; omega), xt]; exact qth hi0 hiti hb129
          exact ⟨by rw [e9], M.bel⟩
        ·
         have hb122' := of_decide_eq_false hb122
         refine sdc A zh hb122 λa A↦?_
         refine qa (hK121 _ _ (cf A ?_))
         refine wp_exit (hK115 _ _ (wsk fun K135 hK135 => wrl (sda A λa A↦?_)))
         refine qa (hK135 _ _ (wr1 hret A ?_))
         have ha9 := hIt.as hb5
         have hw9 := xu hith (by have h9 := hb40'; omega)
         have ewAnd : zg xs ≠ vv := fun h9 => of_decide_eq_false hb69 ((zb hith).symm.trans h9)
         have ewOr : zg xs ≠ wOr := fun h9 => of_decide_eq_false hb91 ((zb hith).symm.trans h9)
         have ewNot : zg xs = kk := (zb hith).trans (of_decide_eq_true hb113)
         have e9 : (jk (n + 1) t.tr).isSome = true := by
          rw [js ha9 hw9, ewNot, qqg (by rw [List.length_map, List.length_drop]; omega), xt]; exact qtg hin9 (by omega)
         exact ⟨by rw [e9], M.bel⟩
       ·
        have hb114' := ne_of_beq_false hb114
        refine sdc A qt hb114 λa A↦?_
        refine sdk (v := bV false) A λa A↦?_
        refine sdo (v := bV true) A (ql rfl qp) λa A↦?_
        refine sdk (v := bV true) A λa A↦?_
        refine qa (hK68 _ _ (ct A ?_))
        refine wsk fun K136 hK136 => wrl (sda A λa A↦?_)
        refine qa (hK136 _ _ (wr1 hret A ?_))
        have ha9 := hIt.as hb5
        have hw9 := xu hith (by have h9 := hb40'; omega)
        have ewAnd : zg xs ≠ vv := fun h9 => of_decide_eq_false hb69 ((zb hith).symm.trans h9)
        have ewOr : zg xs ≠ wOr := fun h9 => of_decide_eq_false hb91 ((zb hith).symm.trans h9)
        have ewNot : zg xs = kk := (zb hith).trans (of_decide_eq_true hb113)
        have e9 : (jk (n + 1) t.tr).isSome = false := by
         rw [js ha9 hw9, ewNot, qbb (by rw [List.length_map, List.length_drop]; omega)]; rfl
        exact ⟨by rw [e9], M.bel⟩
      ·
       have hb113' := of_decide_eq_false hb113
       refine sdo (v := bV false) A (qh rfl rfl (fun w => (zn Tryz.underlying9 w).trans (by rw [hb113] <;> rfl))) λa A↦?_
       refine sdm A λa A↦?_
       iterate 3 refine qm A rfl rfl rfl λa A↦?_
       refine sdk (v := bV false) A λa A↦?_
       refine sdo (v := bV true) A (ql rfl qp) λa A↦?_
       refine sdk (v := bV true) A λa A↦?_
       refine qa (hK68 _ _ (ct A ?_))
       refine wsk fun K137 hK137 => wrl (sda A λa A↦?_)
       refine qa (hK137 _ _ (wr1 hret A ?_))
       have ha9 := hIt.as hb5
       have hw9 := xu hith (by have h9 := hb40'; omega)
       have ewAnd : zg xs ≠ vv := fun h9 => of_decide_eq_false hb69 ((zb hith).symm.trans h9)
       have ewOr : zg xs ≠ wOr := fun h9 => of_decide_eq_false hb91 ((zb hith).symm.trans h9)
       have ewNot : zg xs ≠ kk := fun h9 => of_decide_eq_false hb113 ((zb hith).symm.trans h9)
       have e9 : (jk (n + 1) t.tr).isSome = false := by
        rw [js ha9 hw9, ut ewAnd ewOr ewNot]; rfl
       exact ⟨by rw [e9], M.bel⟩
 ·
  refine sct A (ef rfl rfl) ((hb5 ▸ kd (h0.trans (M.bel.mono h0.size)) ht hs (by omega))) ?_
  rintro _ w141 ⟨so138, ca139, xs, rfl, hIt, hM140⟩
  have hle9 := hIt.le
  replace M : Mg w w141 (.row 30 11 (.slice so138 xs.length ca139) xs.length (cellsOf xs) :: .obj g2 (.cells (t.d.cells t.ts.length).toArray 30) :: []) := (M.both hM140 (qr (by simp) (qw za)) (qr (by simp) (qw za)))
  refine ⟨_, rfl, ?_⟩
  intro a A
  refine sdm A λa A↦?_
  iterate 2 refine sdo A (qi (vs := [.slice so138 xs.length ca139, bV false]) rfl rfl) λa A↦?_
  iterate 2 refine sda A λa A↦?_
  refine qa (hK4 _ _ (wsk fun K142 hK142 => wsk fun K143 hK143 => wrl (sdm A λa A↦?_)))
  refine sdo (v := bV true) A (ql rfl qp) λa A↦?_
  refine qa (hK143 _ _ (ct A ?_))
  refine wsk fun K144 hK144 => wrl (sda A λa A↦?_)
  refine qa (hK144 _ _ (wr1 hret A ?_))
  have e9 : (jk (n + 1) t.tr).isSome = false := by
   rw [qkh (vn hb5)]; rfl
  exact ⟨by rw [e9], M.bel⟩
theorem qzd : ∀ n : Nat, n ≤ 4000000 → RSub n
 | 0, _ => by intro h0 ht hs hb; exact absurd (Nat.le_trans (yp _) hb) (Nat.not_succ_le_zero _)
 | n + 1, hn => by intro h0 ht hs hb b he; exact he ▸ zmc h0 ht hs hb hn (qzd n (by omega))
theorem qme : ∀ n : Nat, n ≤ 4000000 → RRef n
 | 0, _ => by intro h0 ht hs hb; exact absurd (Nat.le_trans (yp _) hb) (Nat.not_succ_le_zero _)
 | n + 1, hn => by intro h0 ht hs hb b he; exact he ▸ zmd h0 ht hs hb hn (qme n (by omega)) (qzd n (by omega))
theorem zme {w0 w : World} {n : Nat} {t : Dt} (h0 : Below w0.heap.size w0 w) (ht : t.rd w0) (hs : xl zl t.tr = true) (hb : t.tr.bulk ≤ n + 1) (hn : n + 1 ≤ 4000000) {z : Int} (hp : (zx (n + 1) t.tr).isSome = true) (ih : RFit n) : Calls Tryz.prog 71 #[iV z, .agg (t.d.cells t.ts.length).toArray] w fun e w' => e = .returned (bV (vF (zx (n + 1) t.tr) z)) ∧ Below w.heap.size w w' := by
 have M : Mg w w ([]) := Mg.start w
 refine qx (l := [(0, iV z), (1, .agg (t.d.cells t.ts.length).toArray)]) Tryz.func71 rfl Tryz.ntmps71 rfl rfl ?_
 intro Q hret hnorm hP a A
 refine wsk fun K1 hK1 => wrl (jl (vs := (t.d.cells t.ts.length)) (t := 30) A M rfl rfl rfl pg (zd rfl rfl) (by decide) ?_)
 intro g2 w3 M a A
 refine sda A λa A↦?_
 refine qa (hK1 _ _ (wsk fun K4 hK4 => wsk fun K5 hK5 => wrl (sdo A (zy M xi rfl 0 rfl (cs := (t.d.cells t.ts.length)) rfl rfl) λa A↦?_)))
 refine gcl A M (ef rfl rfl) (kb (Dt.keep (h0.trans (M.bel.mono h0.size)) _ ht) hs) fun w7 hb6 M a A => ?_
 rcases tf (decide (0 ≤ (nN (jb t.tr)))) with hb8 | hb8
 ·
  have hb8' := of_decide_eq_true hb8
  refine sdc A ju hb8 λa A↦?_
  refine qa (hK5 _ _ (ct A ?_))
  refine wsk fun K9 hK9 => wrl (sdm A λa A↦?_)
  refine sdo A (zy M xi rfl 0 rfl (cs := (t.d.cells t.ts.length)) rfl rfl) λa A↦?_
  refine gcl A M (ef rfl rfl) (kb (Dt.keep (h0.trans (M.bel.mono h0.size)) _ ht) hs) fun w11 hb10 M a A => ?_
  rcases tf ((z == (nN (jb t.tr)))) with hb12 | hb12
  ·
   have hb12' := eq_of_beq hb12
   refine sdc A qt hb12 λa A↦?_
   refine sda A λa A↦?_
   refine qa (hK9 _ _ (wr1 hret A ?_))
   have hd9 : decide (0 ≤ nN (jb t.tr)) = true := hb8
   obtain ⟨b9, hb9, hb8⟩ := qtf hd9
   have h6 : (z == nN (jb t.tr)) = true := hb12
   rw [hb8] at h6
   have e9 : vF (zx (n + 1) t.tr) z = true := by
    rw [qic hb9]; exact h6
   exact ⟨by rw [e9], M.bel⟩
  ·
   have hb12' := ne_of_beq_false hb12
   refine sdc A qt hb12 λa A↦?_
   refine sda A λa A↦?_
   refine qa (hK9 _ _ (wr1 hret A ?_))
   have hd9 : decide (0 ≤ nN (jb t.tr)) = true := hb8
   obtain ⟨b9, hb9, hb8⟩ := qtf hd9
   have h6 : (z == nN (jb t.tr)) = false := hb12
   rw [hb8] at h6
   have e9 : vF (zx (n + 1) t.tr) z = false := by
    rw [qic hb9]; exact h6
   exact ⟨by rw [e9], M.bel⟩
 ·
  have hb8' := of_decide_eq_false hb8
  refine sdc A ju hb8 λa A↦?_
  refine qa (hK5 _ _ (cf A ?_))
  refine wp_skip (hK4 _ _ (wsk fun K13 hK13 => wrl (sdo A (zy M xi rfl 0 rfl (cs := (t.d.cells t.ts.length)) rfl rfl) λa A↦?_)))
  refine sct A (ef rfl rfl) (kd (h0.trans (M.bel.mono h0.size)) ht hs (by omega)) ?_
  rintro _ w17 ⟨so14, ca15, xs, rfl, hIt, hM16⟩
  have hle9 := hIt.le
  have hd9 : decide (0 ≤ nN (jb t.tr)) = false := hb8
  have hn9 := xv hd9
  obtain ⟨ha9, hw9⟩ := zle hIt hn9 hp
  have hx9 := zph hw9
  replace M : Mg w w17 (.row 30 11 (.slice so14 xs.length ca15) xs.length (cellsOf xs) :: .obj g2 (.cells (t.d.cells t.ts.length).toArray 30) :: []) := (M.both hM16 (qr (by simp) (qw za)) (qr (by simp) (qw za)))
  refine ⟨_, rfl, ?_⟩
  intro a A
  refine sdm A λa A↦?_
  iterate 2 refine sdo A (qi (vs := [.slice so14 xs.length ca15, bV ((zw t.tr).isSome)]) rfl rfl) λa A↦?_
  iterate 2 refine sda A λa A↦?_
  refine qa (hK13 _ _ (wsk fun K18 hK18 => wsk fun K19 hK19 => wrl (sdm A λa A↦?_)))
  obtain ⟨th, hith⟩ : ∃ t, xs[0]? = some t := ⟨_, List.getElem?_eq_getElem (by omega)⟩
  have hlth := (List.getElem?_eq_some_iff.1 hith).1
  have mth := List.mem_of_getElem? hith
  obtain ⟨bk20, ok21, lk22, Hk23⟩ := vg (jr (M.has 0 rfl)).1 (fun x hx => Dt.keep (h0.trans (M.bel.mono h0.size)) _ (hIt.rd x hx)) hith
  refine sdo (v := pA bk20 (ok21 + 0 * 11)) A (ze (k := 0) Tryz.underlying28 (by kernel_rfl) rfl rfl (by first | rfl | omega) lk22 hlth) λa A↦?_
  refine sdo (v := pA bk20 (ok21 + 0 * 11 + 8)) A (qf ki rfl rfl) λa A↦?_
  refine sdo A (vl (j := 8) (Mg.start _) Hk23 o99 rfl rfl rfl) λa A↦?_
  refine qa (hK19 _ _ (wp_block (wsk fun K24 hK24 => wrl ?_)))
  rcases tf (decide (th.d.s = ⟨#[62, 61]⟩)) with hb25 | hb25
  ·
   have hb25' := of_decide_eq_true hb25
   refine sdo (v := bV true) A (qh rfl rfl (fun w => (zn Tryz.underlying9 w).trans (by rw [hb25] <;> rfl))) λa A↦?_
   refine sda A λa A↦?_
   refine qa (hK24 _ _ (ct A ?_))
   refine wsk fun K26 hK26 => wrl ?_
   iterate 2 refine sdm A λa A↦?_
   have ewGe : zg xs = wGe := (zb hith).trans (of_decide_eq_true hb25)
   have h8 := hp
   rw [qqa hn9 ha9 hw9 ewGe] at h8
   have h7 := qqc h8
   rw [List.length_map, List.length_drop] at h7
   have hl2 : xs.length = 2 := by omega
   obtain ⟨ta, hita⟩ : ∃ t, xs[1]? = some t := ⟨_, List.getElem?_eq_getElem (by omega)⟩
   have hlta := (List.getElem?_eq_some_iff.1 hita).1
   have mta := List.mem_of_getElem? hita
   obtain ⟨bk27, ok28, lk29, Hk30⟩ := vg (jr (M.has 0 rfl)).1 (fun x hx => Dt.keep (h0.trans (M.bel.mono h0.size)) _ (hIt.rd x hx)) hita
   refine sdo (v := pA bk27 (ok28 + 1 * 11)) A (ze (k := 1) Tryz.underlying28 (by kernel_rfl) rfl rfl (by first | rfl | omega) lk29 hlta) λa A↦?_
   refine sdo A (jh (Mg.start _) Hk30 xi rfl rfl) λa A↦?_
   refine gcl A M (ef rfl rfl) (kb (Dt.keep (h0.trans (M.bel.mono h0.size)) _ (hIt.rd _ mta)) (hIt.sh _ mta)) fun w32 hb31 M a A => ?_
   rcases tf (decide ((nN (jb ta.tr)) ≤ z)) with hb33 | hb33
   ·
    have hb33' := of_decide_eq_true hb33
    refine sdc A ju hb33 λa A↦?_
    refine sda A λa A↦?_
    refine qa (hK26 _ _ (wr1 hret A ?_))
    rw [xd hl2 hita, List.map_singleton, xx, Option.isSome_map] at h8
    obtain ⟨b9, hb9⟩ := Option.isSome_iff_exists.1 h8
    have h6 := hb33
    rw [hb9] at h6
    have e9 : vF (zx (n + 1) t.tr) z = true := by
     rw [qqa hn9 ha9 hw9 ewGe, xd hl2 hita, List.map_singleton, xx, hb9]; exact h6
    exact ⟨by rw [e9], M.bel⟩
   ·
    have hb33' := of_decide_eq_false hb33
    refine sdc A ju hb33 λa A↦?_
    refine sda A λa A↦?_
    refine qa (hK26 _ _ (wr1 hret A ?_))
    rw [xd hl2 hita, List.map_singleton, xx, Option.isSome_map] at h8
    obtain ⟨b9, hb9⟩ := Option.isSome_iff_exists.1 h8
    have h6 := hb33
    rw [hb9] at h6
    have e9 : vF (zx (n + 1) t.tr) z = false := by
     rw [qqa hn9 ha9 hw9 ewGe, xd hl2 hita, List.map_singleton, xx, hb9]; exact h6
    exact ⟨by rw [e9], M.bel⟩
  ·
   have hb25' := of_decide_eq_false hb25
   refine sdo (v := bV false) A (qh rfl rfl (fun w => (zn Tryz.underlying9 w).trans (by rw [hb25] <;> rfl))) λa A↦?_
   refine sda A λa A↦?_
   refine qa (hK24 _ _ (cf A ?_))
   refine wsk fun K34 hK34 => wrl ?_
   rcases tf (decide (th.d.s = ⟨#[60, 61]⟩)) with hb35 | hb35
   ·
    have hb35' := of_decide_eq_true hb35
    refine sdo (v := bV true) A (qh rfl rfl (fun w => (zn Tryz.underlying9 w).trans (by rw [hb35] <;> rfl))) λa A↦?_
    refine sda A λa A↦?_
    refine qa (hK34 _ _ (ct A ?_))
    refine wsk fun K36 hK36 => wrl ?_
    iterate 2 refine sdm A λa A↦?_
    have ewGe : zg xs ≠ wGe := fun h9 => of_decide_eq_false hb25 ((zb hith).symm.trans h9)
    have ewLe : zg xs = wLe := (zb hith).trans (of_decide_eq_true hb35)
    have h8 := hp
    rw [qqb hn9 ha9 hw9 ewLe] at h8
    have h7 := qqc h8
    rw [List.length_map, List.length_drop] at h7
    have hl2 : xs.length = 2 := by omega
    obtain ⟨ta, hita⟩ : ∃ t, xs[1]? = some t := ⟨_, List.getElem?_eq_getElem (by omega)⟩
    have hlta := (List.getElem?_eq_some_iff.1 hita).1
    have mta := List.mem_of_getElem? hita
    obtain ⟨bk37, ok38, lk39, Hk40⟩ := vg (jr (M.has 0 rfl)).1 (fun x hx => Dt.keep (h0.trans (M.bel.mono h0.size)) _ (hIt.rd x hx)) hita
    refine sdo (v := pA bk37 (ok38 + 1 * 11)) A (ze (k := 1) Tryz.underlying28 (by kernel_rfl) rfl rfl (by first | rfl | omega) lk39 hlta) λa A↦?_
    refine sdo A (jh (Mg.start _) Hk40 xi rfl rfl) λa A↦?_
    refine gcl A M (ef rfl rfl) (kb (Dt.keep (h0.trans (M.bel.mono h0.size)) _ (hIt.rd _ mta)) (hIt.sh _ mta)) fun w42 hb41 M a A => ?_
    rcases tf (decide (z ≤ (nN (jb ta.tr)))) with hb43 | hb43
    ·
     have hb43' := of_decide_eq_true hb43
     refine sdc A vu hb43 λa A↦?_
     refine sda A λa A↦?_
     refine qa (hK36 _ _ (wr1 hret A ?_))
     rw [xd hl2 hita, List.map_singleton, xx, Option.isSome_map] at h8
     obtain ⟨b9, hb9⟩ := Option.isSome_iff_exists.1 h8
     have h6 := hb43
     rw [hb9] at h6
     have e9 : vF (zx (n + 1) t.tr) z = true := by
      rw [qqb hn9 ha9 hw9 ewLe, xd hl2 hita, List.map_singleton, xx, hb9]; exact h6
     exact ⟨by rw [e9], M.bel⟩
    ·
     have hb43' := of_decide_eq_false hb43
     refine sdc A vu hb43 λa A↦?_
     refine sda A λa A↦?_
     refine qa (hK36 _ _ (wr1 hret A ?_))
     rw [xd hl2 hita, List.map_singleton, xx, Option.isSome_map] at h8
     obtain ⟨b9, hb9⟩ := Option.isSome_iff_exists.1 h8
     have h6 := hb43
     rw [hb9] at h6
     have e9 : vF (zx (n + 1) t.tr) z = false := by
      rw [qqb hn9 ha9 hw9 ewLe, xd hl2 hita, List.map_singleton, xx, hb9]; exact h6
     exact ⟨by rw [e9], M.bel⟩
   ·
    have hb35' := of_decide_eq_false hb35
    refine sdo (v := bV false) A (qh rfl rfl (fun w => (zn Tryz.underlying9 w).trans (by rw [hb35] <;> rfl))) λa A↦?_
    refine sda A λa A↦?_
    refine qa (hK34 _ _ (cf A ?_))
    refine wsk fun K44 hK44 => wrl ?_
    rcases tf (decide (th.d.s = ⟨#[110, 111, 116]⟩)) with hb45 | hb45
    ·
     have hb45' := of_decide_eq_true hb45
     refine sdo (v := bV true) A (qh rfl rfl (fun w => (zn Tryz.underlying9 w).trans (by rw [hb45] <;> rfl))) λa A↦?_
     refine sda A λa A↦?_
     refine qa (hK44 _ _ (ct A ?_))
     refine wsk fun K46 hK46 => wrl ?_
     iterate 2 refine sdm A λa A↦?_
     have ewGe : zg xs ≠ wGe := fun h9 => of_decide_eq_false hb25 ((zb hith).symm.trans h9)
     have ewLe : zg xs ≠ wLe := fun h9 => of_decide_eq_false hb35 ((zb hith).symm.trans h9)
     have ewNot : zg xs = kk := (zb hith).trans (of_decide_eq_true hb45)
     have h8 := hp
     rw [xe hn9 ha9 hw9 ewGe ewLe, ewNot] at h8
     have h7 := zei h8
     rw [List.length_map, List.length_drop] at h7
     have hl2 : xs.length = 2 := by omega
     obtain ⟨ta, hita⟩ : ∃ t, xs[1]? = some t := ⟨_, List.getElem?_eq_getElem (by omega)⟩
     have hlta := (List.getElem?_eq_some_iff.1 hita).1
     have mta := List.mem_of_getElem? hita
     obtain ⟨bk47, ok48, lk49, Hk50⟩ := vg (jr (M.has 0 rfl)).1 (fun x hx => Dt.keep (h0.trans (M.bel.mono h0.size)) _ (hIt.rd x hx)) hita
     refine sdo (v := pA bk47 (ok48 + 1 * 11)) A (ze (k := 1) Tryz.underlying28 (by kernel_rfl) rfl rfl (by first | rfl | omega) lk49 hlta) λa A↦?_
     refine sdo A (jh (Mg.start _) Hk50 xi rfl rfl) λa A↦?_
     have hj9 := hp
     rw [xe hn9 ha9 hw9 ewGe ewLe, ewNot, xd hl2 hita, List.map_singleton, uq] at hj9
     rcases tf (vF (zx n ta.tr) z) with hb51 | hb51
     ·
      refine gcl A M (ef rfl rfl) (ih (h0.trans (M.bel.mono h0.size)) (hIt.rd _ mta) (hIt.sh _ mta) (by have := hIt.lt _ mta; omega) hj9 hb51) fun w53 hb52 M a A => ?_
      refine sdo (v := bV false) A (ql rfl qp) λa A↦?_
      refine sda A λa A↦?_
      refine qa (hK46 _ _ (wr1 hret A ?_))
      have e9 : vF (zx (n + 1) t.tr) z = false := by
       rw [xe hn9 ha9 hw9 ewGe ewLe, ewNot, xd hl2 hita, List.map_singleton, qif hj9, hb51]; rfl
      exact ⟨by rw [e9], M.bel⟩
     ·
      refine gcl A M (ef rfl rfl) (ih (h0.trans (M.bel.mono h0.size)) (hIt.rd _ mta) (hIt.sh _ mta) (by have := hIt.lt _ mta; omega) hj9 hb51) fun w55 hb54 M a A => ?_
      refine sdo (v := bV true) A (ql rfl qp) λa A↦?_
      refine sda A λa A↦?_
      refine qa (hK46 _ _ (wr1 hret A ?_))
      have e9 : vF (zx (n + 1) t.tr) z = true := by
       rw [xe hn9 ha9 hw9 ewGe ewLe, ewNot, xd hl2 hita, List.map_singleton, qif hj9, hb51]; rfl
      exact ⟨by rw [e9], M.bel⟩
    ·
     have hb45' := of_decide_eq_false hb45
     refine sdo (v := bV false) A (qh rfl rfl (fun w => (zn Tryz.underlying9 w).trans (by rw [hb45] <;> rfl))) λa A↦?_
     refine sda A λa A↦?_
     refine qa (hK44 _ _ (cf A ?_))
     refine wsk fun K56 hK56 => wrl ?_
     rcases tf (decide (th.d.s = ⟨#[97, 110, 100]⟩)) with hb57 | hb57
     ·
      have hb57' := of_decide_eq_true hb57
      refine sdo (v := bV true) A (qh rfl rfl (fun w => (zn Tryz.underlying9 w).trans (by rw [hb57] <;> rfl))) λa A↦?_
      refine sda A λa A↦?_
      refine qa (hK56 _ _ (ct A ?_))
      refine wsk fun K58 hK58 => wsk fun K59 hK59 => wrl (sda A λa A↦?_)
      refine qa (hK59 _ _ (wp_block (jc (fun m_ a w1 => ∃ (i : Nat), m_ = 1 + (xs.length - i) ∧ (1 ≤ i ∧ ∀ (j : Nat) u, 1 ≤ j → j < i → xs[j]? = some u → vF (zx n u.tr) z = true) ∧ Sl a 76 [(0, iV z), (1, .agg (t.d.cells t.ts.length).toArray), (3, pA g2 0), (5, .slice so14 xs.length ca15), (6, bV ((zw t.tr).isSome)), (7, iV (((i : Nat) : Int))), (9, .agg (t.d.cells t.ts.length).toArray), (10, iV ((nN (jb t.tr)))), (11, bV false), (16, .tuple #[.slice so14 xs.length ca15, bV ((zw t.tr).isSome)]), (17, .agg (t.d.cells t.ts.length).toArray), (18, .tuple #[.slice so14 xs.length ca15, bV ((zw t.tr).isSome)]), (19, .slice so14 xs.length ca15), (20, bV ((zw t.tr).isSome)), (21, .slice so14 xs.length ca15), (22, pA bk20 (ok21 + 0 * 11)), (23, pA bk20 (ok21 + 0 * 11 + 8)), (24, .string th.d.s), (25, bV false), (26, bV false), (33, bV false), (34, bV false), (41, bV false), (42, bV false), (49, bV true), (50, bV true)] ∧ Mg w w1 (.row 30 11 (.slice so14 xs.length ca15) xs.length (cellsOf xs) :: .obj g2 (.cells (t.d.cells t.ts.length).toArray 30) :: [])) _ ⟨1, rfl, ⟨Nat.le_refl _, fun j u h1 h2 => absurd h1 (by omega)⟩, A.keep _ (by repeat' constructor), M⟩ ?_)))
      clear M A
      rintro m_ a w60 ⟨i, rfl, hinv62, A, M⟩ K61 hK61
      obtain ⟨hi0, hin9⟩ := hinv62
      refine wsk fun K63 hK63 => wsk fun K64 hK64 => wrl ?_
      iterate 2 refine sdm A λa A↦?_
      refine sdo A (qy Tryz.underlying28 rfl) λa A↦?_
      rcases tf (decide (((i : Nat) : Int) < ((xs.length : Nat) : Int))) with hb65 | hb65
      ·
       have hb65' := of_decide_eq_true hb65
       refine sdc A zh hb65 λa A↦?_
       refine qa (hK64 _ _ (ct A ?_))
       refine wp_skip (hK63 _ _ (wsk fun K66 hK66 => wp_block (wsk fun K67 hK67 => wrl ?_)))
       iterate 3 refine sdm A λa A↦?_
       obtain ⟨ti, hiti⟩ : ∃ t, xs[i]? = some t := ⟨_, List.getElem?_eq_getElem (by omega)⟩
       have hlti := (List.getElem?_eq_some_iff.1 hiti).1
       have mti := List.mem_of_getElem? hiti
       obtain ⟨bk68, ok69, lk70, Hk71⟩ := vg (jr (M.has 0 rfl)).1 (fun x hx => Dt.keep (h0.trans (M.bel.mono h0.size)) _ (hIt.rd x hx)) hiti
       refine sdo (v := pA bk68 (ok69 + i * 11)) A (ze (k := i) Tryz.underlying28 (by kernel_rfl) rfl rfl (by first | rfl | omega) lk70 hlti) λa A↦?_
       refine sdo A (jh (Mg.start _) Hk71 xi rfl rfl) λa A↦?_
       have ewGe : zg xs ≠ wGe := fun h9 => of_decide_eq_false hb25 ((zb hith).symm.trans h9)
       have ewLe : zg xs ≠ wLe := fun h9 => of_decide_eq_false hb35 ((zb hith).symm.trans h9)
       have ewNot : zg xs ≠ kk := fun h9 => of_decide_eq_false hb45 ((zb hith).symm.trans h9)
       have ewAnd : zg xs = vv := (zb hith).trans (of_decide_eq_true hb57)
       have hj9 : (zx n ti.tr).isSome = true := qcc (g := fun x : Dt => zx n x.tr) (s := 1) (yz (by rw [← xe hn9 ha9 hw9 ewGe ewLe]; exact hp)) hi0 hiti
       rcases tf (vF (zx n ti.tr) z) with hb72 | hb72
       ·
        refine gcl A M (ef rfl rfl) (ih (h0.trans (M.bel.mono h0.size)) (hIt.rd _ mti) (hIt.sh _ mti) (by have := hIt.lt _ mti; omega) hj9 hb72) fun w74 hb73 M a A => ?_
        refine sdo (v := bV false) A (ql rfl qp) λa A↦?_
        refine qa (hK67 _ _ (cf A ?_))
        refine wp_skip (hK66 _ _ (wrl (sdm A λa A↦?_)))
        refine sdo (v := iV (((i + 1 : Nat) : Int))) A (qh rfl rfl (ar_add ((in_i64 (by omega) (by omega)).trans (by omega)))) λa A↦?_
        refine sda A λa A↦?_
        refine qa ?_
        refine hK61 _ _ _ (by omega) ⟨i + 1, rfl, ⟨by omega, din (p := fun u : Dt => vF (zx n u.tr) z) hin9 hiti hb72⟩, A.keep _ (by repeat' constructor), M⟩
       ·
        refine gcl A M (ef rfl rfl) (ih (h0.trans (M.bel.mono h0.size)) (hIt.rd _ mti) (hIt.sh _ mti) (by have := hIt.lt _ mti; omega) hj9 hb72) fun w76 hb75 M a A => ?_
        refine sdo (v := bV true) A (ql rfl qp) λa A↦?_
        refine qa (hK67 _ _ (ct A ?_))
        refine wsk fun K77 hK77 => wrl (sda A λa A↦?_)
        refine qa (hK77 _ _ (wr1 hret A ?_))
        have hjo := hp
        rw [xe hn9 ha9 hw9 ewGe ewLe, ewAnd] at hjo
        have e9 : vF (zx (n + 1) t.tr) z = false := by
         rw [xe hn9 ha9 hw9 ewGe ewLe, ewAnd, qua hjo]; exact qth hi0 hiti hb72
        exact ⟨by rw [e9], M.bel⟩
      ·
       have hb65' := of_decide_eq_false hb65
       refine sdc A zh hb65 λa A↦?_
       refine qa (hK64 _ _ (cf A ?_))
       refine wp_exit (hK58 _ _ (wsk fun K78 hK78 => wrl (sda A λa A↦?_)))
       refine qa (hK78 _ _ (wr1 hret A ?_))
       have ewGe : zg xs ≠ wGe := fun h9 => of_decide_eq_false hb25 ((zb hith).symm.trans h9)
       have ewLe : zg xs ≠ wLe := fun h9 => of_decide_eq_false hb35 ((zb hith).symm.trans h9)
       have ewNot : zg xs ≠ kk := fun h9 => of_decide_eq_false hb45 ((zb hith).symm.trans h9)
       have ewAnd : zg xs = vv := (zb hith).trans (of_decide_eq_true hb57)
       have hjo := hp
       rw [xe hn9 ha9 hw9 ewGe ewLe, ewAnd] at hjo
       have e9 : vF (zx (n + 1) t.tr) z = true := by
        rw [xe hn9 ha9 hw9 ewGe ewLe, ewAnd, qua hjo]; exact qtg hin9 (by omega)
       exact ⟨by rw [e9], M.bel⟩
     ·
      have hb57' := of_decide_eq_false hb57
      refine sdo (v := bV false) A (qh rfl rfl (fun w => (zn Tryz.underlying9 w).trans (by rw [hb57] <;> rfl))) λa A↦?_
      refine sda A λa A↦?_
      refine qa (hK56 _ _ (cf A ?_))
      refine wp_skip (hK18 _ _ (wsk fun K79 hK79 => wsk fun K80 hK80 => wrl (sda A λa A↦?_)))
      refine qa (hK80 _ _ (wp_block (jc (fun m_ a w1 => ∃ (i : Nat), m_ = 1 + (xs.length - i) ∧ (1 ≤ i ∧ ∀ (j : Nat) u, 1 ≤ j → j < i → xs[j]? = some u → vF (zx n u.tr) z = false) ∧ Sl a 76 [(0, iV z), (1, .agg (t.d.cells t.ts.length).toArray), (3, pA g2 0), (5, .slice so14 xs.length ca15), (6, bV ((zw t.tr).isSome)), (8, iV (((i : Nat) : Int))), (9, .agg (t.d.cells t.ts.length).toArray), (10, iV ((nN (jb t.tr)))), (11, bV false), (16, .tuple #[.slice so14 xs.length ca15, bV ((zw t.tr).isSome)]), (17, .agg (t.d.cells t.ts.length).toArray), (18, .tuple #[.slice so14 xs.length ca15, bV ((zw t.tr).isSome)]), (19, .slice so14 xs.length ca15), (20, bV ((zw t.tr).isSome)), (21, .slice so14 xs.length ca15), (22, pA bk20 (ok21 + 0 * 11)), (23, pA bk20 (ok21 + 0 * 11 + 8)), (24, .string th.d.s), (25, bV false), (26, bV false), (33, bV false), (34, bV false), (41, bV false), (42, bV false), (49, bV false), (50, bV false)] ∧ Mg w w1 (.row 30 11 (.slice so14 xs.length ca15) xs.length (cellsOf xs) :: .obj g2 (.cells (t.d.cells t.ts.length).toArray 30) :: [])) _ ⟨1, rfl, ⟨Nat.le_refl _, fun j u h1 h2 => absurd h1 (by omega)⟩, A.keep _ (by repeat' constructor), M⟩ ?_)))
      clear M A
      rintro m_ a w81 ⟨i, rfl, hinv83, A, M⟩ K82 hK82
      obtain ⟨hi0, hin9⟩ := hinv83
      refine wsk fun K84 hK84 => wsk fun K85 hK85 => wrl ?_
      iterate 2 refine sdm A λa A↦?_
      refine sdo A (qy Tryz.underlying28 rfl) λa A↦?_
      rcases tf (decide (((i : Nat) : Int) < ((xs.length : Nat) : Int))) with hb86 | hb86
      ·
       have hb86' := of_decide_eq_true hb86
       refine sdc A zh hb86 λa A↦?_
       refine qa (hK85 _ _ (ct A ?_))
       refine wp_skip (hK84 _ _ (wsk fun K87 hK87 => wp_block (wsk fun K88 hK88 => wrl ?_)))
       iterate 3 refine sdm A λa A↦?_
       obtain ⟨ti, hiti⟩ : ∃ t, xs[i]? = some t := ⟨_, List.getElem?_eq_getElem (by omega)⟩
       have hlti := (List.getElem?_eq_some_iff.1 hiti).1
       have mti := List.mem_of_getElem? hiti
       obtain ⟨bk89, ok90, lk91, Hk92⟩ := vg (jr (M.has 0 rfl)).1 (fun x hx => Dt.keep (h0.trans (M.bel.mono h0.size)) _ (hIt.rd x hx)) hiti
       refine sdo (v := pA bk89 (ok90 + i * 11)) A (ze (k := i) Tryz.underlying28 (by kernel_rfl) rfl rfl (by first | rfl | omega) lk91 hlti) λa A↦?_
       refine sdo A (jh (Mg.start _) Hk92 xi rfl rfl) λa A↦?_
       have ewGe : zg xs ≠ wGe := fun h9 => of_decide_eq_false hb25 ((zb hith).symm.trans h9)
       have ewLe : zg xs ≠ wLe := fun h9 => of_decide_eq_false hb35 ((zb hith).symm.trans h9)
       have ewNot : zg xs ≠ kk := fun h9 => of_decide_eq_false hb45 ((zb hith).symm.trans h9)
       have ewAnd : zg xs ≠ vv := fun h9 => of_decide_eq_false hb57 ((zb hith).symm.trans h9)
       have hj9 : (zx n ti.tr).isSome = true := qcc (g := fun x : Dt => zx n x.tr) (s := 1) (yz (by rw [← xe hn9 ha9 hw9 ewGe ewLe]; exact hp)) hi0 hiti
       rcases tf (vF (zx n ti.tr) z) with hb93 | hb93
       ·
        refine gcl A M (ef rfl rfl) (ih (h0.trans (M.bel.mono h0.size)) (hIt.rd _ mti) (hIt.sh _ mti) (by have := hIt.lt _ mti; omega) hj9 hb93) fun w95 hb94 M a A => ?_
        refine qa (hK88 _ _ (ct A ?_))
        refine wsk fun K96 hK96 => wrl (sda A λa A↦?_)
        refine qa (hK96 _ _ (wr1 hret A ?_))
        have ewOr : zg xs = wOr := Classical.byContradiction fun h7 => by
         have h8 := hp
         rw [xe hn9 ha9 hw9 ewGe ewLe, ut ewAnd h7 ewNot] at h8
         cases h8
        have hjo := hp
        rw [xe hn9 ha9 hw9 ewGe ewLe, ewOr] at hjo
        have e9 : vF (zx (n + 1) t.tr) z = true := by
         rw [xe hn9 ha9 hw9 ewGe ewLe, ewOr, zfc hjo]; exact zti hi0 hiti hb93
        exact ⟨by rw [e9], M.bel⟩
       ·
        refine gcl A M (ef rfl rfl) (ih (h0.trans (M.bel.mono h0.size)) (hIt.rd _ mti) (hIt.sh _ mti) (by have := hIt.lt _ mti; omega) hj9 hb93) fun w98 hb97 M a A => ?_
        refine qa (hK88 _ _ (cf A ?_))
        refine wp_skip (hK87 _ _ (wrl (sdm A λa A↦?_)))
        refine sdo (v := iV (((i + 1 : Nat) : Int))) A (qh rfl rfl (ar_add ((in_i64 (by omega) (by omega)).trans (by omega)))) λa A↦?_
        refine sda A λa A↦?_
        refine qa ?_
        refine hK82 _ _ _ (by omega) ⟨i + 1, rfl, ⟨by omega, din (p := fun u : Dt => vF (zx n u.tr) z) hin9 hiti hb93⟩, A.keep _ (by repeat' constructor), M⟩
      ·
       have hb86' := of_decide_eq_false hb86
       refine sdc A zh hb86 λa A↦?_
       refine qa (hK85 _ _ (cf A ?_))
       refine wp_exit (hK79 _ _ (wsk fun K99 hK99 => wrl (sda A λa A↦?_)))
       refine qa (hK99 _ _ (wr1 hret A ?_))
       have ewGe : zg xs ≠ wGe := fun h9 => of_decide_eq_false hb25 ((zb hith).symm.trans h9)
       have ewLe : zg xs ≠ wLe := fun h9 => of_decide_eq_false hb35 ((zb hith).symm.trans h9)
       have ewNot : zg xs ≠ kk := fun h9 => of_decide_eq_false hb45 ((zb hith).symm.trans h9)
       have ewAnd : zg xs ≠ vv := fun h9 => of_decide_eq_false hb57 ((zb hith).symm.trans h9)
       have ewOr : zg xs = wOr := Classical.byContradiction fun h7 => by
        have h8 := hp
        rw [xe hn9 ha9 hw9 ewGe ewLe, ut ewAnd h7 ewNot] at h8
        cases h8
       have hjo := hp
       rw [xe hn9 ha9 hw9 ewGe ewLe, ewOr] at hjo
       have e9 : vF (zx (n + 1) t.tr) z = false := by
        rw [xe hn9 ha9 hw9 ewGe ewLe, ewOr, zfc hjo]; exact zrd hin9 (by omega)
       exact ⟨by rw [e9], M.bel⟩
theorem qze : ∀ n : Nat, n ≤ 4000000 → RFit n
 | 0, _ => by intro h0 ht hs hb; exact absurd (Nat.le_trans (yp _) hb) (Nat.not_succ_le_zero _)
 | n + 1, hn => by intro h0 ht hs hb hp b he; exact he ▸ zme h0 ht hs hb hn hp (qze n (by omega))
theorem zhc {w0 w : World} {n : Nat} {t : Dt} (h0 : Below w0.heap.size w0 w) (ht : t.rd w0) (hs : xl zl t.tr = true) (hb : t.tr.bulk ≤ n + 1) (hn : n + 1 ≤ 4000000) {l : List Int} {sv : Option Addr} {cv : Nat} (h0v : Rc w0 sv (izC l)) (hll : l.length ≤ 2000000) (hp : (jk (n + 1) t.tr).isSome = true) (ih : RFits n) (ihs : RFit n) : Calls Tryz.prog 41 #[.slice sv l.length cv, .agg (t.d.cells t.ts.length).toArray] w fun e w' => e = .returned (bV (vF (jk (n + 1) t.tr) l)) ∧ Below w.heap.size w w' := by
 have hv : Rc w sv (izC l) := h0v.below h0
 have M : Mg w w ([]) := Mg.start w
 refine qx (l := [(0, .slice sv l.length cv), (1, .agg (t.d.cells t.ts.length).toArray)]) Tryz.func41 rfl Tryz.ntmps41 rfl rfl ?_
 intro Q hret hnorm hP a A
 refine wsk fun K1 hK1 => wrl (jl (vs := (t.d.cells t.ts.length)) (t := 30) A M rfl rfl rfl pg (zd rfl rfl) (by decide) ?_)
 intro g2 w3 M a A
 refine sda A λa A↦?_
 refine qa (hK1 _ _ (wsk fun K4 hK4 => wrl (sdo A (zy M xi rfl 0 rfl (cs := (t.d.cells t.ts.length)) rfl rfl) λa A↦?_)))
 refine sct A (ef rfl rfl) (kd (h0.trans (M.bel.mono h0.size)) ht hs (by omega)) ?_
 rintro _ w8 ⟨so5, ca6, xs, rfl, hIt, hM7⟩
 have hle9 := hIt.le
 have ha9 := zlf hIt hp
 replace M : Mg w w8 (.row 30 11 (.slice so5 xs.length ca6) xs.length (cellsOf xs) :: .obj g2 (.cells (t.d.cells t.ts.length).toArray 30) :: []) := (M.both hM7 (qr (by simp) (qw za)) (qr (by simp) (qw za)))
 refine ⟨_, rfl, ?_⟩
 intro a A
 refine sdm A λa A↦?_
 iterate 2 refine sdo A (qi (vs := [.slice so5 xs.length ca6, bV ((zw t.tr).isSome)]) rfl rfl) λa A↦?_
 iterate 2 refine sda A λa A↦?_
 refine qa (hK4 _ _ (wsk fun K9 hK9 => wsk fun K10 hK10 => wrl (sdo A (zy M xi rfl 1 rfl (cs := (t.d.cells t.ts.length)) rfl rfl) λa A↦?_)))
 refine gcl A M (ef rfl rfl) (rword_any (h0.trans (M.bel.mono h0.size)) ht hs (by omega)) fun w12 hb11 M a A => ?_
 refine qa (hK10 _ _ (wp_block (wsk fun K13 hK13 => wrl ?_)))
 rcases tf (decide (ky t.tr = ⟨#[110, 111, 116]⟩)) with hb14 | hb14
 ·
  have hb14' := of_decide_eq_true hb14
  refine sdo (v := bV true) A (qh rfl rfl (fun w => (zn Tryz.underlying9 w).trans (by rw [hb14] <;> rfl))) λa A↦?_
  refine sda A λa A↦?_
  refine qa (hK13 _ _ (ct A ?_))
  refine wsk fun K15 hK15 => wrl ?_
  iterate 2 refine sdm A λa A↦?_
  obtain ⟨hw9, ewNot⟩ := qff (w := kk) ha9 (of_decide_eq_true hb14) (by decide)
  have h8 := hp
  rw [js ha9 hw9, ewNot] at h8
  have h7 := zei h8
  rw [List.length_map, List.length_drop] at h7
  have hl2 : xs.length = 2 := by omega
  obtain ⟨ta, hita⟩ : ∃ t, xs[1]? = some t := ⟨_, List.getElem?_eq_getElem (by omega)⟩
  have hlta := (List.getElem?_eq_some_iff.1 hita).1
  have mta := List.mem_of_getElem? hita
  obtain ⟨bk16, ok17, lk18, Hk19⟩ := vg (jr (M.has 0 rfl)).1 (fun x hx => Dt.keep (h0.trans (M.bel.mono h0.size)) _ (hIt.rd x hx)) hita
  refine sdo (v := pA bk16 (ok17 + 1 * 11)) A (ze (k := 1) Tryz.underlying28 (by kernel_rfl) rfl rfl (by first | rfl | omega) lk18 hlta) λa A↦?_
  refine sdo A (jh (Mg.start _) Hk19 xi rfl rfl) λa A↦?_
  have hj9 := hp
  rw [js ha9 hw9, ewNot, xd hl2 hita, List.map_singleton, uq] at hj9
  rcases tf (vF (jk n ta.tr) l) with hb20 | hb20
  ·
   refine gcl A M (ef rfl rfl) (ih (h0.trans (M.bel.mono h0.size)) (hIt.rd _ mta) (hIt.sh _ mta) (by have := hIt.lt _ mta; omega) h0v hll hj9 hb20) fun w22 hb21 M a A => ?_
   refine sdo (v := bV false) A (ql rfl qp) λa A↦?_
   refine sda A λa A↦?_
   refine qa (hK15 _ _ (wr1 hret A ?_))
   have e9 : vF (jk (n + 1) t.tr) l = false := by
    rw [js ha9 hw9, ewNot, xd hl2 hita, List.map_singleton, qif hj9, hb20]; rfl
   exact ⟨by rw [e9], M.bel⟩
  ·
   refine gcl A M (ef rfl rfl) (ih (h0.trans (M.bel.mono h0.size)) (hIt.rd _ mta) (hIt.sh _ mta) (by have := hIt.lt _ mta; omega) h0v hll hj9 hb20) fun w24 hb23 M a A => ?_
   refine sdo (v := bV true) A (ql rfl qp) λa A↦?_
   refine sda A λa A↦?_
   refine qa (hK15 _ _ (wr1 hret A ?_))
   have e9 : vF (jk (n + 1) t.tr) l = true := by
    rw [js ha9 hw9, ewNot, xd hl2 hita, List.map_singleton, qif hj9, hb20]; rfl
   exact ⟨by rw [e9], M.bel⟩
 ·
  have hb14' := of_decide_eq_false hb14
  refine sdo (v := bV false) A (qh rfl rfl (fun w => (zn Tryz.underlying9 w).trans (by rw [hb14] <;> rfl))) λa A↦?_
  refine sda A λa A↦?_
  refine qa (hK13 _ _ (cf A ?_))
  refine wsk fun K25 hK25 => wrl ?_
  rcases tf (decide (ky t.tr = ⟨#[97, 110, 100]⟩)) with hb26 | hb26
  ·
   have hb26' := of_decide_eq_true hb26
   refine sdo (v := bV true) A (qh rfl rfl (fun w => (zn Tryz.underlying9 w).trans (by rw [hb26] <;> rfl))) λa A↦?_
   refine sda A λa A↦?_
   refine qa (hK25 _ _ (ct A ?_))
   refine wsk fun K27 hK27 => wsk fun K28 hK28 => wrl (sda A λa A↦?_)
   refine qa (hK28 _ _ (wp_block (jc (fun m_ a w1 => ∃ (i : Nat), m_ = 1 + (xs.length - i) ∧ (1 ≤ i ∧ ∀ (j : Nat) u, 1 ≤ j → j < i → xs[j]? = some u → vF (jk n u.tr) l = true) ∧ Sl a 75 [(0, .slice sv l.length cv), (1, .agg (t.d.cells t.ts.length).toArray), (3, pA g2 0), (5, .slice so5 xs.length ca6), (6, bV ((zw t.tr).isSome)), (7, iV (((i : Nat) : Int))), (10, .tuple #[.slice so5 xs.length ca6, bV ((zw t.tr).isSome)]), (11, .agg (t.d.cells t.ts.length).toArray), (12, .tuple #[.slice so5 xs.length ca6, bV ((zw t.tr).isSome)]), (13, .slice so5 xs.length ca6), (14, bV ((zw t.tr).isSome)), (15, .agg (t.d.cells t.ts.length).toArray), (16, .string (ky t.tr)), (17, bV false), (18, bV false), (25, bV true), (26, bV true)] ∧ Mg w w1 (.row 30 11 (.slice so5 xs.length ca6) xs.length (cellsOf xs) :: .obj g2 (.cells (t.d.cells t.ts.length).toArray 30) :: [])) _ ⟨1, rfl, ⟨Nat.le_refl _, fun j u h1 h2 => absurd h1 (by omega)⟩, A.keep _ (by repeat' constructor), M⟩ ?_)))
   clear M A
   rintro m_ a w29 ⟨i, rfl, hinv31, A, M⟩ K30 hK30
   obtain ⟨hi0, hin9⟩ := hinv31
   refine wsk fun K32 hK32 => wsk fun K33 hK33 => wrl ?_
   iterate 2 refine sdm A λa A↦?_
   refine sdo A (qy Tryz.underlying28 rfl) λa A↦?_
   rcases tf (decide (((i : Nat) : Int) < ((xs.length : Nat) : Int))) with hb34 | hb34
   ·
    have hb34' := of_decide_eq_true hb34
    refine sdc A zh hb34 λa A↦?_
    refine qa (hK33 _ _ (ct A ?_))
    refine wp_skip (hK32 _ _ (wsk fun K35 hK35 => wp_block (wsk fun K36 hK36 => wrl ?_)))
    iterate 3 refine sdm A λa A↦?_
    obtain ⟨ti, hiti⟩ : ∃ t, xs[i]? = some t := ⟨_, List.getElem?_eq_getElem (by omega)⟩
    have hlti := (List.getElem?_eq_some_iff.1 hiti).1
    have mti := List.mem_of_getElem? hiti
    obtain ⟨bk37, ok38, lk39, Hk40⟩ := vg (jr (M.has 0 rfl)).1 (fun x hx => Dt.keep (h0.trans (M.bel.mono h0.size)) _ (hIt.rd x hx)) hiti
    refine sdo (v := pA bk37 (ok38 + i * 11)) A (ze (k := i) Tryz.underlying28 (by kernel_rfl) rfl rfl (by first | rfl | omega) lk39 hlti) λa A↦?_
    refine sdo A (jh (Mg.start _) Hk40 xi rfl rfl) λa A↦?_
    obtain ⟨hw9, ewAnd⟩ := qff (w := vv) ha9 (of_decide_eq_true hb26) (by decide)
    have hj9 : (jk n ti.tr).isSome = true := qcc (g := fun x : Dt => jk n x.tr) (s := 1) (yz (by rw [← js ha9 hw9]; exact hp)) hi0 hiti
    rcases tf (vF (jk n ti.tr) l) with hb41 | hb41
    ·
     refine gcl A M (ef rfl rfl) (ih (h0.trans (M.bel.mono h0.size)) (hIt.rd _ mti) (hIt.sh _ mti) (by have := hIt.lt _ mti; omega) h0v hll hj9 hb41) fun w43 hb42 M a A => ?_
     refine sdo (v := bV false) A (ql rfl qp) λa A↦?_
     refine qa (hK36 _ _ (cf A ?_))
     refine wp_skip (hK35 _ _ (wrl (sdm A λa A↦?_)))
     refine sdo (v := iV (((i + 1 : Nat) : Int))) A (qh rfl rfl (ar_add ((in_i64 (by omega) (by omega)).trans (by omega)))) λa A↦?_
     refine sda A λa A↦?_
     refine qa ?_
     refine hK30 _ _ _ (by omega) ⟨i + 1, rfl, ⟨by omega, din (p := fun u : Dt => vF (jk n u.tr) l) hin9 hiti hb41⟩, A.keep _ (by repeat' constructor), M⟩
    ·
     refine gcl A M (ef rfl rfl) (ih (h0.trans (M.bel.mono h0.size)) (hIt.rd _ mti) (hIt.sh _ mti) (by have := hIt.lt _ mti; omega) h0v hll hj9 hb41) fun w45 hb44 M a A => ?_
     refine sdo (v := bV true) A (ql rfl qp) λa A↦?_
     refine qa (hK36 _ _ (ct A ?_))
     refine wsk fun K46 hK46 => wrl (sda A λa A↦?_)
     refine qa (hK46 _ _ (wr1 hret A ?_))
     have hjo := hp
     rw [js ha9 hw9, ewAnd] at hjo
     have e9 : vF (jk (n + 1) t.tr) l = false := by
      rw [js ha9 hw9, ewAnd, qua hjo]; exact qth hi0 hiti hb41
     exact ⟨by rw [e9], M.bel⟩
   ·
    have hb34' := of_decide_eq_false hb34
    refine sdc A zh hb34 λa A↦?_
    refine qa (hK33 _ _ (cf A ?_))
    refine wp_exit (hK27 _ _ (wsk fun K47 hK47 => wrl (sda A λa A↦?_)))
    refine qa (hK47 _ _ (wr1 hret A ?_))
    obtain ⟨hw9, ewAnd⟩ := qff (w := vv) ha9 (of_decide_eq_true hb26) (by decide)
    have hjo := hp
    rw [js ha9 hw9, ewAnd] at hjo
    have e9 : vF (jk (n + 1) t.tr) l = true := by
     rw [js ha9 hw9, ewAnd, qua hjo]; exact qtg hin9 (by omega)
    exact ⟨by rw [e9], M.bel⟩
  ·
   have hb26' := of_decide_eq_false hb26
   refine sdo (v := bV false) A (qh rfl rfl (fun w => (zn Tryz.underlying9 w).trans (by rw [hb26] <;> rfl))) λa A↦?_
   refine sda A λa A↦?_
   refine qa (hK25 _ _ (cf A ?_))
   refine wsk fun K48 hK48 => wrl ?_
   rcases tf (decide (ky t.tr = ⟨#[111, 114]⟩)) with hb49 | hb49
   ·
    have hb49' := of_decide_eq_true hb49
    refine sdo (v := bV true) A (qh rfl rfl (fun w => (zn Tryz.underlying9 w).trans (by rw [hb49] <;> rfl))) λa A↦?_
    refine sda A λa A↦?_
    refine qa (hK48 _ _ (ct A ?_))
    refine wsk fun K50 hK50 => wsk fun K51 hK51 => wrl (sda A λa A↦?_)
    refine qa (hK51 _ _ (wp_block (jc (fun m_ a w1 => ∃ (i : Nat), m_ = 1 + (xs.length - i) ∧ (1 ≤ i ∧ ∀ (j : Nat) u, 1 ≤ j → j < i → xs[j]? = some u → vF (jk n u.tr) l = false) ∧ Sl a 75 [(0, .slice sv l.length cv), (1, .agg (t.d.cells t.ts.length).toArray), (3, pA g2 0), (5, .slice so5 xs.length ca6), (6, bV ((zw t.tr).isSome)), (8, iV (((i : Nat) : Int))), (10, .tuple #[.slice so5 xs.length ca6, bV ((zw t.tr).isSome)]), (11, .agg (t.d.cells t.ts.length).toArray), (12, .tuple #[.slice so5 xs.length ca6, bV ((zw t.tr).isSome)]), (13, .slice so5 xs.length ca6), (14, bV ((zw t.tr).isSome)), (15, .agg (t.d.cells t.ts.length).toArray), (16, .string (ky t.tr)), (17, bV false), (18, bV false), (25, bV false), (26, bV false), (40, bV true), (41, bV true)] ∧ Mg w w1 (.row 30 11 (.slice so5 xs.length ca6) xs.length (cellsOf xs) :: .obj g2 (.cells (t.d.cells t.ts.length).toArray 30) :: [])) _ ⟨1, rfl, ⟨Nat.le_refl _, fun j u h1 h2 => absurd h1 (by omega)⟩, A.keep _ (by repeat' constructor), M⟩ ?_)))
    clear M A
    rintro m_ a w52 ⟨i, rfl, hinv54, A, M⟩ K53 hK53
    obtain ⟨hi0, hin9⟩ := hinv54
    refine wsk fun K55 hK55 => wsk fun K56 hK56 => wrl ?_
    iterate 2 refine sdm A λa A↦?_
    refine sdo A (qy Tryz.underlying28 rfl) λa A↦?_
    rcases tf (decide (((i : Nat) : Int) < ((xs.length : Nat) : Int))) with hb57 | hb57
    ·
     have hb57' := of_decide_eq_true hb57
     refine sdc A zh hb57 λa A↦?_
     refine qa (hK56 _ _ (ct A ?_))
     refine wp_skip (hK55 _ _ (wsk fun K58 hK58 => wp_block (wsk fun K59 hK59 => wrl ?_)))
     iterate 3 refine sdm A λa A↦?_
     obtain ⟨ti, hiti⟩ : ∃ t, xs[i]? = some t := ⟨_, List.getElem?_eq_getElem (by omega)⟩
     have hlti := (List.getElem?_eq_some_iff.1 hiti).1
     have mti := List.mem_of_getElem? hiti
     obtain ⟨bk60, ok61, lk62, Hk63⟩ := vg (jr (M.has 0 rfl)).1 (fun x hx => Dt.keep (h0.trans (M.bel.mono h0.size)) _ (hIt.rd x hx)) hiti
     refine sdo (v := pA bk60 (ok61 + i * 11)) A (ze (k := i) Tryz.underlying28 (by kernel_rfl) rfl rfl (by first | rfl | omega) lk62 hlti) λa A↦?_
     refine sdo A (jh (Mg.start _) Hk63 xi rfl rfl) λa A↦?_
     obtain ⟨hw9, ewOr⟩ := qff (w := wOr) ha9 (of_decide_eq_true hb49) (by decide)
     have hj9 : (jk n ti.tr).isSome = true := qcc (g := fun x : Dt => jk n x.tr) (s := 1) (yz (by rw [← js ha9 hw9]; exact hp)) hi0 hiti
     rcases tf (vF (jk n ti.tr) l) with hb64 | hb64
     ·
      refine gcl A M (ef rfl rfl) (ih (h0.trans (M.bel.mono h0.size)) (hIt.rd _ mti) (hIt.sh _ mti) (by have := hIt.lt _ mti; omega) h0v hll hj9 hb64) fun w66 hb65 M a A => ?_
      refine qa (hK59 _ _ (ct A ?_))
      refine wsk fun K67 hK67 => wrl (sda A λa A↦?_)
      refine qa (hK67 _ _ (wr1 hret A ?_))
      have hjo := hp
      rw [js ha9 hw9, ewOr] at hjo
      have e9 : vF (jk (n + 1) t.tr) l = true := by
       rw [js ha9 hw9, ewOr, zfc hjo]; exact zti hi0 hiti hb64
      exact ⟨by rw [e9], M.bel⟩
     ·
      refine gcl A M (ef rfl rfl) (ih (h0.trans (M.bel.mono h0.size)) (hIt.rd _ mti) (hIt.sh _ mti) (by have := hIt.lt _ mti; omega) h0v hll hj9 hb64) fun w69 hb68 M a A => ?_
      refine qa (hK59 _ _ (cf A ?_))
      refine wp_skip (hK58 _ _ (wrl (sdm A λa A↦?_)))
      refine sdo (v := iV (((i + 1 : Nat) : Int))) A (qh rfl rfl (ar_add ((in_i64 (by omega) (by omega)).trans (by omega)))) λa A↦?_
      refine sda A λa A↦?_
      refine qa ?_
      refine hK53 _ _ _ (by omega) ⟨i + 1, rfl, ⟨by omega, din (p := fun u : Dt => vF (jk n u.tr) l) hin9 hiti hb64⟩, A.keep _ (by repeat' constructor), M⟩
    ·
     have hb57' := of_decide_eq_false hb57
     refine sdc A zh hb57 λa A↦?_
     refine qa (hK56 _ _ (cf A ?_))
     refine wp_exit (hK50 _ _ (wsk fun K70 hK70 => wrl (sda A λa A↦?_)))
     refine qa (hK70 _ _ (wr1 hret A ?_))
     obtain ⟨hw9, ewOr⟩ := qff (w := wOr) ha9 (of_decide_eq_true hb49) (by decide)
     have hjo := hp
     rw [js ha9 hw9, ewOr] at hjo
     have e9 : vF (jk (n + 1) t.tr) l = false := by
      rw [js ha9 hw9, ewOr, zfc hjo]; exact zrd hin9 (by omega)
     exact ⟨by rw [e9], M.bel⟩
   ·
    have hb49' := of_decide_eq_false hb49
    refine sdo (v := bV false) A (qh rfl rfl (fun w => (zn Tryz.underlying9 w).trans (by rw [hb49] <;> rfl))) λa A↦?_
    refine sda A λa A↦?_
    refine qa (hK48 _ _ (cf A ?_))
    refine wp_skip (hK9 _ _ (wsk fun K71 hK71 => wsk fun K72 hK72 => wrl (sdm A λa A↦?_)))
    refine sdo A (qy Tryz.underlying38 rfl) λa A↦?_
    refine sdm A λa A↦?_
    refine sdo A (qy Tryz.underlying28 rfl) λa A↦?_
    rcases tf (decide (((l.length : Nat) : Int) < ((xs.length : Nat) : Int))) with hb73 | hb73
    ·
     have hb73' := of_decide_eq_true hb73
     refine sdc A zh hb73 λa A↦?_
     refine qa (hK72 _ _ (ct A ?_))
     refine wsk fun K74 hK74 => wrl (sda A λa A↦?_)
     refine qa (hK74 _ _ (wr1 hret A ?_))
     have hw9 : isW xs = false := by
      cases k9 : isW xs with
      | false => rfl
      | true =>
       have h8 := hp
       rw [js ha9 k9, ut (fun h9 => of_decide_eq_false hb26 ((yq ha9 k9).trans h9)) (fun h9 => of_decide_eq_false hb49 ((yq ha9 k9).trans h9)) (fun h9 => of_decide_eq_false hb14 ((yq ha9 k9).trans h9))] at h8
       cases h8
     have h8 := hp
     rw [yh ha9 hw9, Option.isSome_map] at h8
     obtain ⟨ps9, hps9⟩ := Option.isSome_iff_exists.1 h8
     have e9 : vF (jk (n + 1) t.tr) l = false := by
      rw [yh ha9 hw9, hps9]; exact qdh (by rw [ka hps9, List.length_map]; omega)
     exact ⟨by rw [e9], M.bel⟩
    ·
     have hb73' := of_decide_eq_false hb73
     refine sdc A zh hb73 λa A↦?_
     refine qa (hK72 _ _ (cf A ?_))
     refine wp_skip (hK71 _ _ (wsk fun K75 hK75 => wsk fun K76 hK76 => wrl (sda A λa A↦?_)))
     refine qa (hK76 _ _ (wp_block ?_))
     have hw9 : isW xs = false := by
      cases k9 : isW xs with
      | false => rfl
      | true =>
       have h8 := hp
       rw [js ha9 k9, ut (fun h9 => of_decide_eq_false hb26 ((yq ha9 k9).trans h9)) (fun h9 => of_decide_eq_false hb49 ((yq ha9 k9).trans h9)) (fun h9 => of_decide_eq_false hb14 ((yq ha9 k9).trans h9))] at h8
       cases h8
     have h8 := hp
     rw [yh ha9 hw9, Option.isSome_map] at h8
     obtain ⟨ps9, hps9⟩ := Option.isSome_iff_exists.1 h8
     refine jc (fun m_ a w1 => ∃ (i : Nat), m_ = 1 + (xs.length - i) ∧ (∀ (j : Nat) u z, j < i → xs[j]? = some u → l[j]? = some z → vF (zx n u.tr) z = true) ∧ Sl a 75 [(0, .slice sv l.length cv), (1, .agg (t.d.cells t.ts.length).toArray), (3, pA g2 0), (5, .slice so5 xs.length ca6), (6, bV ((zw t.tr).isSome)), (9, iV (((i : Nat) : Int))), (10, .tuple #[.slice so5 xs.length ca6, bV ((zw t.tr).isSome)]), (11, .agg (t.d.cells t.ts.length).toArray), (12, .tuple #[.slice so5 xs.length ca6, bV ((zw t.tr).isSome)]), (13, .slice so5 xs.length ca6), (14, bV ((zw t.tr).isSome)), (15, .agg (t.d.cells t.ts.length).toArray), (16, .string (ky t.tr)), (17, bV false), (18, bV false), (25, bV false), (26, bV false), (40, bV false), (41, bV false), (54, .slice sv l.length cv), (55, iV (((l.length : Nat) : Int))), (56, .slice so5 xs.length ca6), (57, iV (((xs.length : Nat) : Int))), (58, bV false)] ∧ Mg w w1 (.row 30 11 (.slice so5 xs.length ca6) xs.length (cellsOf xs) :: .obj g2 (.cells (t.d.cells t.ts.length).toArray 30) :: [])) _ ⟨0, rfl, fun j u z h => absurd h (Nat.not_lt_zero _), A.keep _ (by repeat' constructor), M⟩ ?_
     clear M A
     rintro m_ a w77 ⟨i, rfl, hinv79, A, M⟩ K78 hK78
     have hin9 := hinv79
     refine wsk fun K80 hK80 => wsk fun K81 hK81 => wrl ?_
     iterate 2 refine sdm A λa A↦?_
     refine sdo A (qy Tryz.underlying28 rfl) λa A↦?_
     rcases tf (decide (((i : Nat) : Int) < ((xs.length : Nat) : Int))) with hb82 | hb82
     ·
      have hb82' := of_decide_eq_true hb82
      refine sdc A zh hb82 λa A↦?_
      refine qa (hK81 _ _ (ct A ?_))
      refine wp_skip (hK80 _ _ (wsk fun K83 hK83 => wp_block (wsk fun K84 hK84 => vd (S := fun w1 => Mg w w1 (.row 30 11 (.slice so5 xs.length ca6) xs.length (cellsOf xs) :: [])) (by kernel_rfl) ?_)))
      replace M := M.drew
      refine atk A 0 rfl hP (M.sub (cC (cN ns))) (λ_ M↦qg rfl) λa A↦?_
      refine atk A 1 rfl hP (M.sub (cC (cN ns))) (λ_ M↦qg rfl) λa A↦?_
      obtain ⟨bx85, ox86, ux87, hs88, hc89, hi90⟩ := hv.at1 (i := i) (by (try rw [uz]); omega)
      obtain ⟨z9, hz9, rfl⟩ := qse hi90
      refine atk (v := pA bx85 (ox86 + i)) A 2 rfl hP (M.sub (cC (cN ns))) (λ_ M↦zf (k := i) Tryz.underlying38 (by kernel_rfl) rfl rfl (by first | rfl | omega) hs88 (by omega)) λa A↦?_
      refine atk A 3 rfl hP (M.sub (cC (cN ns))) (λ_ M↦jt M hc89 o93 rfl) λa A↦?_
      refine atk A 4 rfl hP (M.sub (cC (cN ns))) (λ_ M↦qg rfl) λa A↦?_
      refine atk A 5 rfl hP (M.sub (cC (cN ns))) (λ_ M↦qg rfl) λa A↦?_
      obtain ⟨ti, hiti⟩ : ∃ t, xs[i]? = some t := ⟨_, List.getElem?_eq_getElem (by omega)⟩
      have hlti := (List.getElem?_eq_some_iff.1 hiti).1
      have mti := List.mem_of_getElem? hiti
      obtain ⟨bk91, ok92, lk93, Hk94⟩ := vg (jr (M.has 0 rfl)).1 (fun x hx => Dt.keep (h0.trans (M.bel.mono h0.size)) _ (hIt.rd x hx)) hiti
      refine atk (v := pA bk91 (ok92 + i * 11)) A 6 rfl hP (M.sub (cC (cN ns))) (λ_ M↦ze (k := i) Tryz.underlying28 (by kernel_rfl) rfl rfl (by first | rfl | omega) lk93 hlti) λa A↦?_
      refine atk A 7 rfl hP (M.sub (cC (cN ns))) (λ_ M↦jh (Mg.start _) (zpg (jr (M.has 0 rfl)).1 (fun x hx => Dt.keep (h0.trans (M.bel.mono h0.size)) _ (hIt.rd x hx)) hiti lk93) xi rfl rfl) λa A↦?_
      rcases tf (vF (zx n ti.tr) z9) with hb95 | hb95
      ·
       refine xn (by kernel_rfl) (vb A 8 rfl rfl rfl rfl (ef rfl rfl) (ihs (h0.trans (M.bel.mono h0.size)) (hIt.rd _ mti) (hIt.sh _ mti) (by have := hIt.lt _ mti; omega) (qcc (g := fun x : Dt => zx n x.tr) (s := 0) h8 (Nat.zero_le _) hiti) hb95) ?_)
       rintro _ w97 ⟨rfl, hb96⟩
       replace M := M.call hb96
       refine ⟨_, rfl, (M.sub (cC (cN ns))), ?_⟩
       intro a A
       refine atk (v := bV false) A 9 rfl hP (M.sub (cC (cN ns))) (λ_ M↦ql rfl qp) λa A↦?_
       refine xp (by kernel_rfl) ?_
       refine hK84 _ _ (cf A ?_)
       refine wp_skip (hK83 _ _ (wrl (sdm A λa A↦?_)))
       refine sdo (v := iV (((i + 1 : Nat) : Int))) A (qh rfl rfl (ar_add ((in_i64 (by omega) (by omega)).trans (by omega)))) λa A↦?_
       refine sda A λa A↦?_
       refine qa ?_
       refine hK78 _ _ _ (by omega) ⟨i + 1, rfl, fun j u z hj hu hz => if h9 : j < i then hin9 j u z h9 hu hz else by have h8 : j = i := (by omega); subst h8; rw [hiti] at hu; rw [hz9] at hz; rw [← Option.some.inj hu, ← Option.some.inj hz]; exact hb95, A.keep _ (by repeat' constructor), M⟩
      ·
       refine xn (by kernel_rfl) (vb A 8 rfl rfl rfl rfl (ef rfl rfl) (ihs (h0.trans (M.bel.mono h0.size)) (hIt.rd _ mti) (hIt.sh _ mti) (by have := hIt.lt _ mti; omega) (qcc (g := fun x : Dt => zx n x.tr) (s := 0) h8 (Nat.zero_le _) hiti) hb95) ?_)
       rintro _ w99 ⟨rfl, hb98⟩
       replace M := M.call hb98
       refine ⟨_, rfl, (M.sub (cC (cN ns))), ?_⟩
       intro a A
       refine atk (v := bV true) A 9 rfl hP (M.sub (cC (cN ns))) (λ_ M↦ql rfl qp) λa A↦?_
       refine xp (by kernel_rfl) ?_
       refine hK84 _ _ (ct A ?_)
       refine wsk fun K100 hK100 => wrl (sda A λa A↦?_)
       refine qa (hK100 _ _ (wr1 hret A ?_))
       have e9 : vF (jk (n + 1) t.tr) l = false := by
        rw [yh ha9 hw9, hps9]; exact zlg hps9 hiti hz9 hb95
       exact ⟨by rw [e9], M.bel⟩
     ·
      have hb82' := of_decide_eq_false hb82
      refine sdc A zh hb82 λa A↦?_
      refine qa (hK81 _ _ (cf A ?_))
      refine wp_exit (hK75 _ _ (wsk fun K101 hK101 => wrl (sda A λa A↦?_)))
      refine qa (hK101 _ _ (wr1 hret A ?_))
      have e9 : vF (jk (n + 1) t.tr) l = true := by
       rw [yh ha9 hw9, hps9]; exact zej hps9 (by omega) (fun j u z hu hz => hin9 j u z (by have := (List.getElem?_eq_some_iff.1 hu).1; omega) hu hz)
      exact ⟨by rw [e9], M.bel⟩
theorem qqh : ∀ n : Nat, n ≤ 4000000 → RFits n
 | 0, _ => by intro h0 ht hs hb; exact absurd (Nat.le_trans (yp _) hb) (Nat.not_succ_le_zero _)
 | n + 1, hn => by intro h0 ht hs hb hv hll hp b he; exact he ▸ zhc h0 ht hs hb hn hv hll hp (qqh n (by omega)) (qze n (by omega))
open Go.RowKit Go.MapKept
open Go.ChangeMaps (setBlock)
structure Em where
  k : ByteArray
  v : Value
  b : Nat
def Em.e (x : Em) : MapEntry := ⟨.string x.k, x.v, x.b⟩
def qfg (es : List Em) (ck : Nat) : Obj := .map (es.map Em.e).toArray ck
theorem qmf (es : List Em) (ck : Nat) : qce (qfg es ck) := fun c fz e => by cases e
def atS (x : ByteArray) : List Em → Option Em
  | [] => none
  | e :: es => if e.k = x then some e else atS x es
def qub (x : ByteArray) : List Em → Nat
  | [] => 0
  | e :: es => if e.k = x then 0 else qub x es + 1
theorem zre (x : ByteArray) : ∀ (es : List Em) (i : Nat), Instr.findNow .string (.string x) (es.map Em.e) i = some ((atS x es).map fun e => (i + qub x es, e.v))
  | [], _ => rfl
  | e :: es, i => by
    simp only [List.map_cons, Instr.findNow, Em.e, Instr.sameNow, atS, qub]
    by_cases h : e.k = x
    · rw [if_pos h, if_pos h, h, show (x == x) = true from (bytes_beq _ _).2 rfl]; simp
    · rw [if_neg h, if_neg h]
      have : (x == e.k) = false := by
        rw [Bool.eq_false_iff]
        intro k
        exact h ((bytes_beq _ _).1 k).symm
      rw [this]
      have ih := zre x es (i + 1)
      simp only [Em.e] at ih ⊢
      rw [ih]
      cases atS x es <;> simp <;> omega
section
variable {P : Program} {w0 w : World} {L : List Ck} {l : List (Nat × Value)} {dst : Option Tmp} {ty : TypeId} {pos : String} {after : Array Edge} {guard : Option (Nat × Bool)} {v : Value} {t kt et : TypeId}
theorem zhd (hk : P.underlying kt = some .string) (x : ByteArray) (es : List Em) : (Instr.findKey kt (.string x) (es.map Em.e)).run P w = .ok ((atS x es).map fun e => (qub x es, e.v)) w := by
  have := MapKept.run_findKey (w := w) hk (zre x es 0)
  simpa using this
theorem Mg.setObjS (h : Mg w0 w L) (k : Nat) {g : Nat} {o o' : Obj} (hk : L[k]? = some (.obj g o)) (hq : qce o') : Mg w0 (setBlock w g o') (L.set k (.obj g o')) := by
  have ho := h.obj k hk
  refine h.turn k hk (by simp) ⟨rfl, rfl, rfl, by simp [setBlock], fun j hj hne => (heap_set ho).2 j (fun e => hne (by rw [e]; rfl))⟩ ⟨(h.has k hk).1, (heap_set ho).1⟩ (fun c _ ha => ?_)
  cases c with
  | obj g' o' => exact ha
  | row e' sz' v' n' xs' => exact ha
  | bld b' bs' => exact ⟨ha.1, hq⟩
theorem zhe {x : Operand} {g ck : Nat} {es : List Em} (hh : w.heap[g]? = some (qfg es ck)) (ht : P.underlying t = some (.map kt et)) (hx : ev l x = some (.map (some g))) : Does P l ⟨dst, .call ⟨.builtin .len, #[x], #[t]⟩, ty, pos, after, guard⟩ w (.int .i64 ((es.length : Nat) : Int)) w := fun ρ h => by
  have h1 := MapKept.run_getObj_map (P := P) hh
  simp [execOp, resolve, invoke, builtin, h x _ hx, Builtin.len_, run_underlying ht, h1, goInt]
theorem zhf (hM : Mg w0 w L) (ht : P.underlying t = some (.map kt et)) (hkt : P.underlying kt = some .string) {x y u : Operand} {g ck : Nat} {z : ByteArray} {es : List Em} (hx : ev l x = some (.map (some g))) (hy : ev l y = some (.string z)) (hu : ev l u = some v) (k : Nat) (hk : L[k]? = some (.obj g (qfg es ck))) (he : atS z es = none) :
    Sets P l ⟨dst, .mapUpdate t x y u, ty, pos, after, guard⟩ w (setBlock w g (qfg (es ++ [⟨z, v, ck⟩]) (ck + 1))) := fun ρ h => by
  have ho := hM.obj k hk
  have h1 := MapKept.run_getObj_map (P := P) ho
  have h2 : ∀ b : Bool, (Instr.checkKey b 10000 kt (.string z)).run P w = .ok () w := fun b => MapKept.run_checkKey hkt (by simp [IsKey]) b 9999
  have h3 := zhd (P := P) (w := w) hkt z es
  rw [he] at h3
  have h4 := fun o' => MapKept.run_setObj_map (P := P) o' ho
  have e1 : (es.map Em.e).toArray.push ⟨.string z, v, ck⟩ = ((es ++ [(⟨z, v, ck⟩ : Em)]).map Em.e).toArray := by simp [Em.e]
  simp only [execOp, h x _ hx, h y _ hy, h u _ hu, Instr.mapUpdate, Sem.run_bind, run_underlying ht, Result.andThen_ok, h1, h2, h3, Option.map_none, Sem.run_pure, h4, e1]
  rfl
section
variable {ops : List Oper} {Q : Exit → Act → World → Prop} {a : Act} {n : Nat} {o : Oper} {rest : List Oper} {d : Nat}
theorem qoc : Does P l ⟨dst, .makeMap t none, ty, pos, after, guard⟩ w (.map (some w.heap.size)) (w.alloc (qfg [] 0)) := fun ρ h => by
  simp [execOp, Instr.makeMap, qfg]
theorem zcj (hA : Sl a n l) (hM : Mg w0 w L) (ho : o = ⟨dst, .makeMap t none, ty, pos, after, guard⟩) (hg : jd l ops o = true) (hdst : o.dst = some d) (hd : Nat.blt d n = true)
    (hk : ∀ g w', Mg w0 w' (.obj g (qfg [] 0) :: L) → ∀ a', Sl a' n ((d, .map (some g)) :: l) → wpList P ops.toArray Q rest a' w') : wpList P ops.toArray Q (o :: rest) a w := by
  subst ho
  exact qb hA hg hdst hd qoc (hk _ _ (hM.addObj _ (qmf _ _)))
theorem zhg (hA : Sl a n l) (hM : Mg w0 w L) (hg : jd l ops o = true) (hdst : o.dst = none) {g : Nat} {o1 o2 : Obj} (he : Sets P l o w (setBlock w g o2)) (k : Nat) (hk0 : L[k]? = some (.obj g o1)) (hq : qce o2) {L' : List Ck} (hL : L.set k (.obj g o2) = L')
    (hk : ∀ w', Mg w0 w' L' → wpList P ops.toArray Q rest a w') : wpList P ops.toArray Q (o :: rest) a w :=
  qrc hA hg hdst he (hk _ (hL ▸ hM.setObjS k hk0 hq))
end
end
end Go.Proofs.YtoopkbedjbnhhaaGreatDoor.G
namespace Go.Proofs
open Go.Shelf
def Tryz.laysM316_ren : Go.Shelf.Ren := ⟨fun | 316 => 146 | n => n, fun | 9 => 9 | 3 => 3 | 4 => 4 | 37 => 27 | 0 => 0 | 127 => 227 | 5 => 5 | n => n, fun | n => n⟩
theorem Tryz.laysM316 : Go.Proofs.LaysM.n316 Tryz.prog Tryz.laysM316_ren := {
  mixed := by kernel_rfl
  f316 := Tryz.func146.trans (congrArg some (by kernel_rfl))
  t0 := Tryz.underlying0
  a0 := Tryz.isAgg0
  z0 := Tryz.sizeOf0
  v0 := Tryz.zeroValue0
  t3 := Tryz.underlying3
  a3 := Tryz.isAgg3
  z3 := Tryz.sizeOf3
  v3 := Tryz.zeroValue3
  t4 := Tryz.underlying4
  a4 := Tryz.isAgg4
  z4 := Tryz.sizeOf4
  v4 := Tryz.zeroValue4
  t9 := Tryz.underlying9
  a9 := Tryz.isAgg9
  z9 := Tryz.sizeOf9
  v9 := Tryz.zeroValue9
  t37 := Tryz.underlying27
  a37 := Tryz.isAgg27
  z37 := Tryz.sizeOf27
  v37 := Tryz.zeroValue27
  t127 := Tryz.underlying227
  a127 := Tryz.isAgg227
  z127 := Tryz.sizeOf227
  v127 := Tryz.zeroValue227
  t5 := Tryz.underlying5
  a5 := Tryz.isAgg5
  z5 := Tryz.sizeOf5
  v5 := Tryz.zeroValue5
  i0 := by kernel_rfl
  i3 := by kernel_rfl
  i4 := by kernel_rfl
  i5 := by kernel_rfl
  i9 := by kernel_rfl
  i37 := by kernel_rfl
  i127 := by kernel_rfl }
open Go.RowKit in
theorem Tryz.stringslite_Clone (s : ByteArray) (w : World) (hlim : s.size ≤ 281474976710656) :
    Calls Tryz.prog 146 #[.string s] w fun e w' => e = .returned (.string s) ∧ Below w.heap.size w w' := Any.stringslite_Clone Tryz.laysM316 s w hlim
end Go.Proofs
namespace Go.Proofs.YtoopkbedjbnhhaaGreatDoor.G
open Go.RowKit
set_option maxRecDepth 100000
def jn (k : Int) (ofs nms : Value) : List Value := [.int .i64 k, .slice none 0 0, .int .i64 0, .int .i64 0, .bool false, .slice none 0 0, .slice none 0 0, .bool false, .slice none 0 0, .slice none 0 0, .string ⟨#[]⟩, .slice none 0 0, .slice none 0 0, ofs, nms]
theorem qhe {α : Type} : ∀ (L : List α) (k : Nat) (c : α), L[k]? = some c → L.Perm (c :: L.eraseIdx k)
  | [], _, _, h => by simp at h
  | a :: t, 0, c, h => by cases h; exact .refl _
  | a :: t, k + 1, c, h => ((qhe t k c (by simpa using h)).cons a).trans (.swap c a _)
theorem Mg.bringJ {w0 w : World} {L L' : List Ck} (h : Mg w0 w L) (k : Nat) {c : Ck} (hk : L[k]? = some c) (hL : c :: L.eraseIdx k = L') : Mg w0 w L' := by
  subst hL
  exact h.perm (qhe L k c hk)
theorem zfd {w : World} {so : Option Addr} {cs : List Value} (h : Rc w so cs) (hne : cs ≠ []) : ∃ b o, so = some ⟨b, o, none⟩ ∧ Here w b o cs := by
  obtain ⟨b, o, e, h2⟩ := h hne
  refine ⟨b, o, e, ?_, fun j v hj => h2 j v hj⟩
  cases cs with
  | nil => exact absurd rfl hne
  | cons c l => exact vz (h2 0 c rfl)
theorem qzf {w : World} {sf sn : Option Addr} {cf cn : Nat} (hF : Rc w sf (jn 0 (.slice none 0 0) (.slice none 0 0))) : Calls Tryz.prog 62 #[.agg (jn 3 (.slice sf 1 cf) (.slice sn 1 cn)).toArray] w fun e w' => ∃ g' ca', e = .returned (.tuple #[.slice (some ⟨g', 0, none⟩) 1 ca', .agg (jn 0 (.slice none 0 0) (.slice none 0 0)).toArray, .bool true]) ∧ Mg w w' [.row 34 15 (.slice (some ⟨g', 0, none⟩) 1 ca') 1 (jn 3 (.slice sf 1 cf) (.slice sn 1 cn))] := by
 obtain ⟨bf, of, hsf, hHf⟩ := zfd hF (by unfold jn; simp)
 have hM : Mg w w ([]) := Mg.start w
 refine qx (l := [(0, .agg (jn 3 (.slice sf 1 cf) (.slice sn 1 cn)).toArray)]) Tryz.func62 rfl Tryz.ntmps62 rfl rfl ?_
 intro Q hret hnorm hP a hA
 refine wp_seq_k (fun K1 hK1 => ?_)
 refine wp_region_lit ?_
 refine jl (vs := (jn 3 (.slice sf 1 cf) (.slice sn 1 cn))) (t := 34) hA hM rfl rfl rfl (fun g => .pointer (some ⟨g, 0, none⟩)) (zd rfl rfl) (by decide) ?_
 intro g2 w3 hM a hA
 refine qb hA rfl rfl rfl (qe rfl) ?_
 intro a hA
 refine jl (vs := (jn 0 (.slice none 0 0) (.slice none 0 0))) (t := 34) hA hM rfl rfl rfl (fun g => .pointer (some ⟨g, 0, none⟩)) (zv (z := .agg (jn 0 (.slice none 0 0) (.slice none 0 0)).toArray) (by kernel_rfl) rfl) (by decide) ?_
 intro g4 w5 hM a hA
 refine qb hA rfl rfl rfl (qe rfl) ?_
 intro a hA
 refine qa ?_
 refine hK1 _ _ ?_
 refine wp_seq_k (fun K6 hK6 => ?_)
 refine wp_block ?_
 refine wp_loop_rounds 3 ?_
 refine zt ?_
 intro K7 hK7
 refine wp_seq_k (fun K8 hK8 => ?_)
 refine wp_seq_k (fun K9 hK9 => ?_)
 refine wp_region_lit ?_
 refine qb (v := .pointer (some ⟨g2, 0, none⟩)) hA rfl rfl rfl (qf qlc rfl rfl) ?_
 intro a hA
 refine qb hA rfl rfl rfl (zi hM o93 rfl 1 rfl rfl) ?_
 intro a hA
 refine qb (v := .bool true) hA rfl rfl rfl (qh rfl rfl (fun w => by kernel_rfl)) ?_
 intro a hA
 refine qb hA rfl rfl rfl (qg rfl) ?_
 intro a hA
 refine qb (v := .pointer (some ⟨g2, 13, none⟩)) hA rfl rfl rfl (qf zcb rfl rfl) ?_
 intro a hA
 refine qb hA rfl rfl rfl (zi hM zsa rfl 1 rfl rfl) ?_
 intro a hA
 refine qb (v := .int .i64 1) hA rfl rfl rfl (qy Tryz.underlying32 rfl) ?_
 intro a hA
 refine qb (v := .bool true) hA rfl rfl rfl (qh rfl rfl (fun w => by kernel_rfl)) ?_
 intro a hA
 refine qb (v := .bool true) hA rfl rfl rfl (zm rfl rfl rfl rfl) ?_
 intro a hA
 refine qb hA rfl rfl rfl (qg rfl) ?_
 intro a hA
 refine qb hA rfl rfl rfl (qg rfl) ?_
 intro a hA
 refine qb (v := .int .i64 0) hA rfl rfl rfl (qy Tryz.underlying32 rfl) ?_
 intro a hA
 refine qb (v := .bool true) hA rfl rfl rfl (qh rfl rfl (fun w => by kernel_rfl)) ?_
 intro a hA
 refine qb (v := .bool true) hA rfl rfl rfl (zm rfl rfl rfl rfl) ?_
 intro a hA
 refine qa ?_
 refine hK9 _ _ ?_
 refine wp_cond_true (hA.ev rfl) ?_
 refine wp_skip ?_
 refine hK8 _ _ ?_
 refine wp_block ?_
 refine wp_seq_k (fun K10 hK10 => ?_)
 refine wp_region_lit ?_
 refine qb hA rfl rfl rfl (qg rfl) ?_
 intro a hA
 refine qb hA rfl rfl rfl (zy hM zkh rfl 1 rfl (cs := (jn 3 (.slice sf 1 cf) (.slice sn 1 cn))) rfl rfl) ?_
 intro a hA
 refine kx (e := 34) (sz := 15) (m := 1) (vs := (jn 3 (.slice sf 1 cf) (.slice sn 1 cn))) hA hM rfl rfl rfl (zp rfl (by kernel_rfl)) rfl rfl (.inl (by decide)) ?_
 intro g11 w12 hM a hA
 replace hM := hM.nilRow (qr (by simp) (qr (by simp) (qr (by simp) (qw za)))) 34 15
 refine kf (e := 34) (sz := 15) (k := 0) (q := 0) (m := 1) (xs := []) (news := (jn 3 (.slice sf 1 cf) (.slice sn 1 cn))) (L' := fun v13 => (.row 34 15 (v13) (0 + 1) ([] ++ (jn 3 (.slice sf 1 cf) (.slice sn 1 cn))) :: .row 34 15 (.slice (some ⟨g11, 0, none⟩) 1 1) 1 ((jn 3 (.slice sf 1 cf) (.slice sn 1 cn))) :: .obj g4 (.cells (jn 0 (.slice none 0 0) (.slice none 0 0)).toArray 34) :: .obj g2 (.cells (jn 3 (.slice sf 1 cf) (.slice sn 1 cn)).toArray 34) :: [])) hA rfl rfl rfl (qdd (z := .agg (jn 0 (.slice none 0 0) (.slice none 0 0)).toArray) (sz := 15) (by_ := 272) Tryz.underlying32 (by kernel_rfl) rfl rfl rfl hM 0 rfl rfl rfl rfl (yb (hM.has 1 rfl)) (by intro u hu; simp only [jn, List.mem_cons, List.not_mem_nil, or_false] at hu; rcases hu with rfl | rfl | rfl | rfl | rfl | rfl | rfl | rfl | rfl | rfl | rfl | rfl | rfl | rfl | rfl <;> rfl) (by decide)) (fun _ => rfl) ?_
 intro v13 w14 hM a hA
 obtain ⟨g15, ca16, rfl⟩ := qvg (hM.has 0 rfl) (by decide)
 replace hM : Mg w w14 (.row 34 15 (.slice (some ⟨g15, 0, none⟩) 1 ca16) 1 ((jn 3 (.slice sf 1 cf) (.slice sn 1 cn))) :: .row 34 15 (.slice (some ⟨g11, 0, none⟩) 1 1) 1 ((jn 3 (.slice sf 1 cf) (.slice sn 1 cn))) :: .obj g4 (.cells (jn 0 (.slice none 0 0) (.slice none 0 0)).toArray 34) :: .obj g2 (.cells (jn 3 (.slice sf 1 cf) (.slice sn 1 cn)).toArray 34) :: []) := hM
 refine qb hA rfl rfl rfl (qe rfl) ?_
 intro a hA
 refine qa ?_
 refine hK10 _ _ ?_
 refine wp_region_lit ?_
 refine qb (v := .pointer (some ⟨g2, 13, none⟩)) hA rfl rfl rfl (qf zcb rfl rfl) ?_
 intro a hA
 refine qb hA rfl rfl rfl (zi hM zsa rfl 3 rfl rfl) ?_
 intro a hA
 refine qb (v := .pointer (some ⟨bf, of + 0 * 15, none⟩)) hA rfl rfl rfl (ze (k := 0) Tryz.underlying32 (by kernel_rfl) rfl rfl rfl hsf (by omega)) ?_
 intro a hA
 refine qb hA rfl rfl rfl (jh hM hHf zkh rfl rfl) ?_
 intro a hA
 refine ja (us := (jn 0 (.slice none 0 0) (.slice none 0 0))) (L' := (.row 34 15 (.slice (some ⟨g15, 0, none⟩) 1 ca16) 1 ((jn 3 (.slice sf 1 cf) (.slice sn 1 cn))) :: .row 34 15 (.slice (some ⟨g11, 0, none⟩) 1 1) 1 ((jn 3 (.slice sf 1 cf) (.slice sn 1 cn))) :: .obj g4 (.cells (jn 0 (.slice none 0 0) (.slice none 0 0)).toArray 34) :: .obj g2 (.cells (jn 0 (.slice none 0 0) (.slice none 0 0)).toArray 34) :: [])) hA hM rfl rfl (zq rfl rfl rfl (by kernel_rfl) hM 3 rfl rfl rfl) 3 rfl rfl rfl ?_
 intro w17 hM
 refine qa ?_
 refine hK7 _ _ ?_
 refine zt ?_
 intro K18 hK18
 refine wp_seq_k (fun K19 hK19 => ?_)
 refine wp_seq_k (fun K20 hK20 => ?_)
 refine wp_region_lit ?_
 refine qb (v := .pointer (some ⟨g2, 0, none⟩)) hA rfl rfl rfl (qf qlc rfl rfl) ?_
 intro a hA
 refine qb hA rfl rfl rfl (zi hM o93 rfl 3 rfl rfl) ?_
 intro a hA
 refine qb (v := .bool false) hA rfl rfl rfl (qh rfl rfl (fun w => by kernel_rfl)) ?_
 intro a hA
 refine qb hA rfl rfl rfl (qg rfl) ?_
 intro a hA
 refine qm hA rfl rfl rfl ?_
 intro a hA
 refine qm hA rfl rfl rfl ?_
 intro a hA
 refine qm hA rfl rfl rfl ?_
 intro a hA
 refine qm hA rfl rfl rfl ?_
 intro a hA
 refine qb (v := .bool false) hA rfl rfl rfl (zm rfl rfl rfl rfl) ?_
 intro a hA
 refine qb hA rfl rfl rfl (qg rfl) ?_
 intro a hA
 refine qm hA rfl rfl rfl ?_
 intro a hA
 refine qm hA rfl rfl rfl ?_
 intro a hA
 refine qm hA rfl rfl rfl ?_
 intro a hA
 refine qb (v := .bool false) hA rfl rfl rfl (zm rfl rfl rfl rfl) ?_
 intro a hA
 refine qa ?_
 refine hK20 _ _ ?_
 refine wp_cond_false (hA.ev rfl) ?_
 refine wp_exit ?_
 refine hK6 _ _ ?_
 refine wp_seq_k (fun K21 hK21 => ?_)
 refine vd (S := fun w1 => Mg w w1 (.obj g2 (.cells (jn 0 (.slice none 0 0) (.slice none 0 0)).toArray 34) :: [])) (by kernel_rfl) ?_
 replace hM := hM.drew
 refine zr hA 0 rfl rfl rfl rfl hP (hM.sub (cN (cN (cN (cC (List.nil_sublist _)))))) (fun w1 hM => qg rfl) ?_
 intro a hA
 refine zr hA 1 rfl rfl rfl rfl hP (hM.sub (cN (cN (cN (cC (List.nil_sublist _)))))) (fun w1 hM => zy hM zkh rfl 0 rfl (cs := (jn 0 (.slice none 0 0) (.slice none 0 0))) rfl rfl) ?_
 intro a hA
 refine zr (v := .pointer (some ⟨g2, 0, none⟩)) hA 2 rfl rfl rfl rfl hP (hM.sub (cN (cN (cN (cC (List.nil_sublist _)))))) (fun w1 hM => qf qlc rfl rfl) ?_
 intro a hA
 refine zr hA 3 rfl rfl rfl rfl hP (hM.sub (cN (cN (cN (cC (List.nil_sublist _)))))) (fun w1 hM => zi hM o93 rfl 0 rfl rfl) ?_
 intro a hA
 refine zr (v := .bool true) hA 4 rfl rfl rfl rfl hP (hM.sub (cN (cN (cN (cC (List.nil_sublist _)))))) (fun w1 hM => qh rfl rfl (fun w => by kernel_rfl)) ?_
 intro a hA
 refine zr hA 5 rfl rfl rfl rfl hP (hM.sub (cN (cN (cN (cC (List.nil_sublist _)))))) (fun w1 hM => qg rfl) ?_
 intro a hA
 refine zr (v := .pointer (some ⟨g2, 13, none⟩)) hA 6 rfl rfl rfl rfl hP (hM.sub (cN (cN (cN (cC (List.nil_sublist _)))))) (fun w1 hM => qf zcb rfl rfl) ?_
 intro a hA
 refine zr hA 7 rfl rfl rfl rfl hP (hM.sub (cN (cN (cN (cC (List.nil_sublist _)))))) (fun w1 hM => zi hM zsa rfl 0 rfl rfl) ?_
 intro a hA
 refine zr (v := .int .i64 0) hA 8 rfl rfl rfl rfl hP (hM.sub (cN (cN (cN (cC (List.nil_sublist _)))))) (fun w1 hM => qy Tryz.underlying32 rfl) ?_
 intro a hA
 refine zr (v := .bool true) hA 9 rfl rfl rfl rfl hP (hM.sub (cN (cN (cN (cC (List.nil_sublist _)))))) (fun w1 hM => qh rfl rfl (fun w => by kernel_rfl)) ?_
 intro a hA
 refine zr (v := .bool true) hA 10 rfl rfl rfl rfl hP (hM.sub (cN (cN (cN (cC (List.nil_sublist _)))))) (fun w1 hM => zm rfl rfl rfl rfl) ?_
 intro a hA
 refine zr hA 11 rfl rfl rfl rfl hP (hM.sub (cN (cN (cN (cC (List.nil_sublist _)))))) (fun w1 hM => qe rfl) ?_
 intro a hA
 refine xn (by kernel_rfl) (zea (us := (jn 0 (.slice none 0 0) (.slice none 0 0))) (L' := (.row 34 15 (.slice (some ⟨g15, 0, none⟩) 1 ca16) 1 ((jn 3 (.slice sf 1 cf) (.slice sn 1 cn))) :: .row 34 15 (.slice (some ⟨g11, 0, none⟩) 1 1) 1 ((jn 3 (.slice sf 1 cf) (.slice sn 1 cn))) :: .obj g4 (.cells (jn 0 (.slice none 0 0) (.slice none 0 0)).toArray 34) :: .obj g2 (.cells (jn 0 (.slice none 0 0) (.slice none 0 0)).toArray 34) :: [])) hA hM 12 rfl rfl rfl (zq rfl rfl rfl (by kernel_rfl) hM 2 rfl rfl rfl) 2 rfl rfl rfl ?_)
 intro w22 hM
 refine ⟨(hM.sub (cN (cN (cN (cC (List.nil_sublist _)))))), ?_⟩
 refine zr hA 13 rfl rfl rfl rfl hP (hM.sub (cN (cN (cN (cC (List.nil_sublist _)))))) (fun w1 hM => qe rfl) ?_
 intro a hA
 refine xp (by kernel_rfl) ?_
 refine hK21 _ _ ?_
 refine wp_ret ?_
 refine hret _ _ ?_
 refine je (v := .tuple #[.slice (some ⟨g15, 0, none⟩) 1 ca16, .agg (jn 0 (.slice none 0 0) (.slice none 0 0)).toArray, .bool true]) hA rfl (.cons (qj rfl) (.cons (qbd hM zkh rfl 2 rfl (cs := [.int .i64 0, .slice none 0 0, .int .i64 0, .int .i64 0, .bool false, .slice none 0 0, .slice none 0 0, .bool false, .slice none 0 0, .slice none 0 0, .string (⟨#[]⟩), .slice none 0 0, .slice none 0 0, .slice none 0 0, .slice none 0 0]) rfl rfl) (.cons (qj rfl) .nil))) rfl ?_
 replace hM := hM.sub (cC (cN (cN (cN (.refl _)))))
 exact ⟨_, _, rfl, hM⟩
theorem zda {w : World} {sf sn : Option Addr} {cf cn : Nat} : Calls Tryz.prog 83 #[.agg (jn 3 (.slice sf 1 cf) (.slice sn 1 cn)).toArray] w fun e w' => e = .returned (.bool true) ∧ Below w.heap.size w w' := by
 have hM : Mg w w ([]) := Mg.start w
 refine qx (l := [(0, .agg (jn 3 (.slice sf 1 cf) (.slice sn 1 cn)).toArray)]) Tryz.func83 rfl Tryz.ntmps83 rfl rfl ?_
 intro Q hret hnorm hP a hA
 refine wp_seq_k (fun K1 hK1 => ?_)
 refine wp_region_lit ?_
 refine jl (vs := (jn 3 (.slice sf 1 cf) (.slice sn 1 cn))) (t := 34) hA hM rfl rfl rfl (fun g => .pointer (some ⟨g, 0, none⟩)) (zd rfl rfl) (by decide) ?_
 intro g2 w3 hM a hA
 refine qb hA rfl rfl rfl (qe rfl) ?_
 intro a hA
 refine qa ?_
 refine hK1 _ _ ?_
 refine wp_seq_k (fun K4 hK4 => ?_)
 refine wp_seq_k (fun K5 hK5 => ?_)
 refine wp_region_lit ?_
 refine qb (v := .pointer (some ⟨g2, 0, none⟩)) hA rfl rfl rfl (qf qlc rfl rfl) ?_
 intro a hA
 refine qb hA rfl rfl rfl (zi hM o93 rfl 0 rfl rfl) ?_
 intro a hA
 refine qa ?_
 refine hK5 _ _ ?_
 refine wp_block ?_
 refine wp_seq_k (fun K6 hK6 => ?_)
 refine wp_seq_k (fun K7 hK7 => ?_)
 refine wp_region_lit ?_
 refine qb (v := .bool false) hA rfl rfl rfl (qh rfl rfl (fun w => by kernel_rfl)) ?_
 intro a hA
 refine qb hA rfl rfl rfl (qe rfl) ?_
 intro a hA
 refine qa ?_
 refine hK7 _ _ ?_
 refine wp_cond_false (hA.ev rfl) ?_
 refine wp_region_lit ?_
 refine qb (v := .bool false) hA rfl rfl rfl (qh rfl rfl (fun w => by kernel_rfl)) ?_
 intro a hA
 refine qb hA rfl rfl rfl (qe rfl) ?_
 intro a hA
 refine qa ?_
 refine hK6 _ _ ?_
 refine wp_cond_false (hA.ev rfl) ?_
 refine wp_seq_k (fun K8 hK8 => ?_)
 refine wp_region_lit ?_
 refine qb (v := .bool true) hA rfl rfl rfl (qh rfl rfl (fun w => by kernel_rfl)) ?_
 intro a hA
 refine qb hA rfl rfl rfl (qe rfl) ?_
 intro a hA
 refine qa ?_
 refine hK8 _ _ ?_
 refine wp_cond_true (hA.ev rfl) ?_
 refine wp_seq_k (fun K9 hK9 => ?_)
 refine wp_region_lit ?_
 refine qb (v := .pointer (some ⟨g2, 14, none⟩)) hA rfl rfl rfl (qf zkg rfl rfl) ?_
 intro a hA
 refine qb hA rfl rfl rfl (zi hM zth rfl 0 rfl rfl) ?_
 intro a hA
 refine qb (v := .int .i64 1) hA rfl rfl rfl (qy Tryz.underlying31 rfl) ?_
 intro a hA
 refine qb (v := .bool true) hA rfl rfl rfl (qh rfl rfl (fun w => by kernel_rfl)) ?_
 intro a hA
 refine qb hA rfl rfl rfl (qe rfl) ?_
 intro a hA
 refine qa ?_
 refine hK9 _ _ ?_
 refine wp_ret ?_
 refine hret _ _ ?_
 refine je (v := .bool true) hA rfl (.cons (qj rfl) .nil) rfl ?_
 exact ⟨rfl, hM.bel⟩
theorem qci {w : World} {so : Option Addr} {ca : Nat} {x y : ByteArray} (hR : Rc w so [.string x, .string y]) : Calls Tryz.prog 23 #[.slice so 1 ca] w fun e w' => ∃ g, e = .returned (.tuple #[.agg #[.slice so 1 ca, .map (some g)], .int .i64 0]) ∧ Mg w w' [.obj g (qfg [⟨x, .int .i64 0, 0⟩] 1)] := by
 obtain ⟨br, or_, hsr, hHr⟩ := zfd hR (by simp)
 have hM : Mg w w ([]) := Mg.start w
 refine qx (l := [(0, .slice so 1 ca)]) Tryz.func23 rfl Tryz.ntmps23 rfl rfl ?_
 intro Q hret hnorm hP a hA
 refine wp_seq_k (fun K1 hK1 => ?_)
 refine wp_region_lit ?_
 refine jl (vs := [.slice none 0 0, .map none]) (t := 66) hA hM rfl rfl rfl (fun g => .pointer (some ⟨g, 0, none⟩)) (zv (z := .agg #[.slice none 0 0, .map none]) (by kernel_rfl) rfl) (by decide) ?_
 intro g2 w3 hM a hA
 refine qb hA rfl rfl rfl (qe rfl) ?_
 intro a hA
 refine qa ?_
 refine hK1 _ _ ?_
 refine wp_seq_k (fun K4 hK4 => ?_)
 refine wp_region_lit ?_
 refine zcj hA hM rfl rfl rfl rfl ?_
 intro g5 w6 hM a hA
 refine qb hA rfl rfl rfl (qe rfl) ?_
 intro a hA
 refine qa ?_
 refine hK4 _ _ ?_
 refine wp_seq_k (fun K7 hK7 => ?_)
 refine wp_seq_k (fun K8 hK8 => ?_)
 refine wp_region_lit ?_
 refine qb hA rfl rfl rfl (qg rfl) ?_
 intro a hA
 refine qb (v := .int .i64 1) hA rfl rfl rfl (qy Tryz.underlying39 rfl) ?_
 intro a hA
 refine qb hA rfl rfl rfl (qg rfl) ?_
 intro a hA
 refine qa ?_
 refine hK8 _ _ ?_
 refine wp_block ?_
 refine wp_loop_rounds 3 ?_
 refine zt ?_
 intro K9 hK9
 refine wp_seq_k (fun K10 hK10 => ?_)
 refine wp_region_lit ?_
 refine qb (v := .bool true) hA rfl rfl rfl (qh rfl rfl (fun w => by kernel_rfl)) ?_
 intro a hA
 refine qa ?_
 refine hK10 _ _ ?_
 refine wp_seq_k (fun K11 hK11 => ?_)
 refine wp_cond_true (hA.ev rfl) ?_
 refine wp_skip ?_
 refine hK11 _ _ ?_
 refine wp_seq_k (fun K12 hK12 => ?_)
 refine wp_block ?_
 refine wp_seq_k (fun K13 hK13 => ?_)
 refine wp_region_lit ?_
 refine qb hA rfl rfl rfl (qg rfl) ?_
 intro a hA
 refine qb (v := .pointer (some ⟨br, or_ + 0 * 2, none⟩)) hA rfl rfl rfl (ze (k := 0) Tryz.underlying39 (by kernel_rfl) rfl rfl rfl hsr (by omega)) ?_
 intro a hA
 refine qb hA rfl rfl rfl (jh hM hHr zse rfl rfl) ?_
 intro a hA
 refine jl (vs := [.string (⟨#[]⟩), .string (⟨#[]⟩)]) (t := 81) hA hM rfl rfl rfl (fun g => .pointer (some ⟨g, 0, none⟩)) (zv (z := .agg #[.string (⟨#[]⟩), .string (⟨#[]⟩)]) (by kernel_rfl) rfl) (by decide) ?_
 intro g14 w15 hM a hA
 refine qb hA rfl rfl rfl (qe rfl) ?_
 intro a hA
 refine ja (us := [.string x, .string y]) (L' := (.obj g14 (.cells #[.string x, .string y] 81) :: .obj g5 (qfg ([]) 0) :: .obj g2 (.cells #[.slice none 0 0, .map none] 66) :: [])) hA hM rfl rfl (zq rfl rfl rfl (by kernel_rfl) hM 0 rfl rfl rfl) 0 rfl rfl rfl ?_
 intro w16 hM
 refine qa ?_
 refine hK13 _ _ ?_
 refine wp_region_lit ?_
 refine qb hA rfl rfl rfl (qg rfl) ?_
 intro a hA
 refine qb (v := .pointer (some ⟨g14, 0, none⟩)) hA rfl rfl rfl (qf qtb rfl rfl) ?_
 intro a hA
 refine qb hA rfl rfl rfl (zi hM o99 rfl 0 rfl rfl) ?_
 intro a hA
 refine qb hA rfl rfl rfl (qg rfl) ?_
 intro a hA
 refine zhg (L' := (.obj g14 (.cells #[.string x, .string y] 81) :: .obj g5 (qfg ([⟨x, .int .i64 0, 0⟩]) 1) :: .obj g2 (.cells #[.slice none 0 0, .map none] 66) :: [])) hA hM rfl rfl (zhf hM Tryz.underlying64 Tryz.underlying9 rfl rfl rfl 1 rfl rfl) 1 rfl (qmf _ _) rfl ?_
 intro w17 hM
 refine qa ?_
 refine hK12 _ _ ?_
 refine wp_region_lit ?_
 refine qb (v := .int .i64 1) hA rfl rfl rfl (qh rfl rfl (fun w => by kernel_rfl)) ?_
 intro a hA
 refine qb hA rfl rfl rfl (qg rfl) ?_
 intro a hA
 refine qa ?_
 refine hK9 _ _ ?_
 refine zt ?_
 intro K18 hK18
 refine wp_seq_k (fun K19 hK19 => ?_)
 refine wp_region_lit ?_
 refine qb (v := .bool false) hA rfl rfl rfl (qh rfl rfl (fun w => by kernel_rfl)) ?_
 intro a hA
 refine qa ?_
 refine hK19 _ _ ?_
 refine wp_seq_k (fun K20 hK20 => ?_)
 refine wp_cond_false (hA.ev rfl) ?_
 refine wp_exit ?_
 refine hK7 _ _ ?_
 refine wp_seq_k (fun K21 hK21 => ?_)
 refine wp_seq_k (fun K22 hK22 => ?_)
 refine wp_region_lit ?_
 refine qb hA rfl rfl rfl (qg rfl) ?_
 intro a hA
 refine qb (v := .int .i64 1) hA rfl rfl rfl (zhe (hM.obj 1 rfl) Tryz.underlying64 rfl) ?_
 intro a hA
 refine qb hA rfl rfl rfl (qg rfl) ?_
 intro a hA
 refine qb (v := .int .i64 1) hA rfl rfl rfl (qy Tryz.underlying39 rfl) ?_
 intro a hA
 refine qb (v := .bool false) hA rfl rfl rfl (qh rfl rfl (fun w => by kernel_rfl)) ?_
 intro a hA
 refine qa ?_
 refine hK22 _ _ ?_
 refine wp_cond_false (hA.ev rfl) ?_
 refine wp_skip ?_
 refine hK21 _ _ ?_
 refine wp_seq_k (fun K23 hK23 => ?_)
 refine wp_region_lit ?_
 refine qb hA rfl rfl rfl (qg rfl) ?_
 intro a hA
 refine qb hA rfl rfl rfl (qg rfl) ?_
 intro a hA
 refine qb (v := .agg #[.slice so 1 ca, .map (some g5)]) hA rfl rfl rfl (xr rfl (fun w => by kernel_rfl)) ?_
 intro a hA
 refine ja (us := [.slice so 1 ca, .map (some g5)]) (L' := (.obj g14 (.cells #[.string x, .string y] 81) :: .obj g5 (qfg ([⟨x, .int .i64 0, 0⟩]) 1) :: .obj g2 (.cells #[.slice so 1 ca, .map (some g5)] 66) :: [])) hA hM rfl rfl (zq rfl rfl rfl (by kernel_rfl) hM 2 rfl rfl rfl) 2 rfl rfl rfl ?_
 intro w24 hM
 refine qb hA rfl rfl rfl (qe rfl) ?_
 intro a hA
 refine qa ?_
 refine hK23 _ _ ?_
 refine wp_ret ?_
 refine hret _ _ ?_
 refine je (v := .tuple #[.agg #[.slice so 1 ca, .map (some g5)], .int .i64 0]) hA rfl (.cons (qbd hM zsd rfl 2 rfl (cs := [.slice so 1 ca, .map (some g5)]) rfl rfl) (.cons (qj rfl) .nil)) rfl ?_
 replace hM := hM.sub (cN (cC (cN (.refl _))))
 exact ⟨_, rfl, hM⟩
theorem zfe {w : World} {so : Option Addr} {ca : Nat} {x y : ByteArray} (hR : Rc w so [.string x, .string y]) : Calls Tryz.prog 108 #[.slice so 1 ca] w fun e w' => ∃ g ca', e = .returned (.slice (some ⟨g, 0, none⟩) 1 ca') ∧ Mg w w' [.row 81 2 (.slice (some ⟨g, 0, none⟩) 1 ca') 1 [Value.string x, .string y]] := by
 have hM : Mg w w ([]) := Mg.start w
 refine qx (l := [(0, .slice so 1 ca)]) Tryz.func108 rfl Tryz.ntmps108 rfl rfl ?_
 intro Q hret hnorm hP a hA
 refine wp_seq_k (fun K1 hK1 => ?_)
 refine wp_region_lit ?_
 refine qb hA rfl rfl rfl (qe rfl) ?_
 intro a hA
 refine qa ?_
 refine hK1 _ _ ?_
 refine wp_seq_k (fun K2 hK2 => ?_)
 refine wp_region_lit ?_
 refine qb hA rfl rfl rfl (qg rfl) ?_
 intro a hA
 replace hM := hM.nilRow (qw za) 81 2
 refine kf (e := 81) (sz := 2) (k := 0) (q := 0) (m := 1) (xs := []) (news := [Value.string x, .string y]) (L' := fun v3 => (.row 81 2 (v3) (0 + 1) ([] ++ [Value.string x, .string y]) :: [])) hA rfl rfl rfl (qdd (z := .agg #[.string ⟨#[]⟩, .string ⟨#[]⟩]) (sz := 2) (by_ := 32) Tryz.underlying39 (by kernel_rfl) rfl rfl rfl hM 0 rfl rfl rfl rfl (hR.below hM.bel) (by intro u hu; simp only [jn, List.mem_cons, List.not_mem_nil, or_false] at hu; rcases hu with rfl | rfl <;> rfl) (by decide)) (fun _ => rfl) ?_
 intro v3 w4 hM a hA
 obtain ⟨g5, ca6, rfl⟩ := qvg (hM.has 0 rfl) (by decide)
 replace hM : Mg w w4 (.row 81 2 (.slice (some ⟨g5, 0, none⟩) 1 ca6) 1 ([Value.string x, .string y]) :: []) := hM
 refine qb hA rfl rfl rfl (qe rfl) ?_
 intro a hA
 refine qa ?_
 refine hK2 _ _ ?_
 refine wp_ret ?_
 refine hret _ _ ?_
 refine je (v := .slice (some ⟨g5, 0, none⟩) 1 ca6) hA rfl (.cons (qj rfl) .nil) rfl ?_
 exact ⟨_, _, rfl, hM⟩
theorem qod {w : World} {so : Option Addr} {ca : Nat} {x y : ByteArray} (hR : Rc w so [.string x, .string y]) {p : ByteArray} {gm : Nat} (hp : p.size + x.size ≤ 140737488355327) : Calls Tryz.prog 106 #[.agg #[.slice so 1 ca, .map (some gm)], .string p] w fun e w' => ∃ g ca', e = .returned (.slice (some ⟨g, 0, none⟩) 1 ca') ∧ Mg w w' [.row 81 2 (.slice (some ⟨g, 0, none⟩) 1 ca') 1 [Value.string ((p ++ x)), .string y]] := by
 have hM : Mg w w ([]) := Mg.start w
 refine qx (l := [(0, .agg #[.slice so 1 ca, .map (some gm)]), (1, .string p)]) Tryz.func106 rfl Tryz.ntmps106 rfl rfl ?_
 intro Q hret hnorm hP a hA
 refine wp_seq_k (fun K1 hK1 => ?_)
 refine wp_region_lit ?_
 refine jl (vs := [.slice so 1 ca, .map (some gm)]) (t := 66) hA hM rfl rfl rfl (fun g => .pointer (some ⟨g, 0, none⟩)) (zd rfl rfl) (by decide) ?_
 intro g2 w3 hM a hA
 refine qb hA rfl rfl rfl (qe rfl) ?_
 intro a hA
 refine qa ?_
 refine hK1 _ _ ?_
 refine wp_seq_k (fun K4 hK4 => ?_)
 refine wp_region_lit ?_
 refine qb (v := .pointer (some ⟨g2, 0, none⟩)) hA rfl rfl rfl (qf zsb rfl rfl) ?_
 intro a hA
 refine qb hA rfl rfl rfl (zi hM zui rfl 0 rfl rfl) ?_
 intro a hA
 refine qz hA rfl rfl rfl (qk rfl rfl (fun w => by kernel_rfl)) (zfe (hR.below hM.bel)) ?_
 rintro _ w8 ⟨g5, ca6, rfl, hM7⟩
 replace hM : Mg w w8 (.row 81 2 (.slice (some ⟨g5, 0, none⟩) 1 ca6) 1 ([Value.string x, .string y]) :: .obj g2 (.cells #[.slice so 1 ca, .map (some gm)] 66) :: []) := (hM.both hM7 (qr (by simp) (qw za)) (qr (by simp) (qw za)))
 refine ⟨_, rfl, ?_⟩
 intro a hA
 refine qb hA rfl rfl rfl (qe rfl) ?_
 intro a hA
 refine qa ?_
 refine hK4 _ _ ?_
 refine wp_seq_k (fun K9 hK9 => ?_)
 refine wp_seq_k (fun K10 hK10 => ?_)
 refine wp_region_lit ?_
 refine qb hA rfl rfl rfl (qg rfl) ?_
 intro a hA
 refine qb (v := .int .i64 1) hA rfl rfl rfl (qy Tryz.underlying39 rfl) ?_
 intro a hA
 refine qb hA rfl rfl rfl (qg rfl) ?_
 intro a hA
 refine qa ?_
 refine hK10 _ _ ?_
 refine wp_block ?_
 refine wp_loop_rounds 3 ?_
 refine zt ?_
 intro K11 hK11
 refine wp_seq_k (fun K12 hK12 => ?_)
 refine wp_region_lit ?_
 refine qb (v := .bool true) hA rfl rfl rfl (qh rfl rfl (fun w => by kernel_rfl)) ?_
 intro a hA
 refine qa ?_
 refine hK12 _ _ ?_
 refine wp_seq_k (fun K13 hK13 => ?_)
 refine wp_cond_true (hA.ev rfl) ?_
 refine wp_skip ?_
 refine hK13 _ _ ?_
 refine wp_seq_k (fun K14 hK14 => ?_)
 refine wp_block ?_
 refine wp_seq_k (fun K15 hK15 => ?_)
 refine wp_region_lit ?_
 refine qb hA rfl rfl rfl (qg rfl) ?_
 intro a hA
 refine qb hA rfl rfl rfl (qe rfl) ?_
 intro a hA
 refine qa ?_
 refine hK15 _ _ ?_
 refine wp_region_lit ?_
 refine qb hA rfl rfl rfl (qg rfl) ?_
 intro a hA
 refine qb hA rfl rfl rfl (qg rfl) ?_
 intro a hA
 refine qb hA rfl rfl rfl (qg rfl) ?_
 intro a hA
 refine qb hA rfl rfl rfl (qg rfl) ?_
 intro a hA
 refine qb hA rfl rfl rfl (qg rfl) ?_
 intro a hA
 refine qb (v := .pointer (some ⟨g5, 0, none⟩)) hA rfl rfl rfl (vi (sz := 2) (k := 0) Tryz.underlying39 (by kernel_rfl) rfl rfl rfl Nat.zero_lt_one) ?_
 intro a hA
 refine qb (v := .pointer (some ⟨g5, 0, none⟩)) hA rfl rfl rfl (qf qtb rfl rfl) ?_
 intro a hA
 refine qb hA rfl rfl rfl (qre hM 0 rfl rfl o99 rfl) ?_
 intro a hA
 refine qb (v := .string (p ++ x)) hA rfl rfl rfl (qh rfl rfl (quj (by first | omega | assumption))) ?_
 intro a hA
 refine qb (v := .pointer (some ⟨g5, 0, none⟩)) hA rfl rfl rfl (vi (sz := 2) (k := 0) Tryz.underlying39 (by kernel_rfl) rfl rfl rfl Nat.zero_lt_one) ?_
 intro a hA
 refine qb (v := .pointer (some ⟨g5, 0, none⟩)) hA rfl rfl rfl (qf qtb rfl rfl) ?_
 intro a hA
 refine zig (us := []) (L' := (.row 81 2 (.slice (some ⟨g5, 0, none⟩) 1 ca6) 1 ([Value.string (p ++ x), .string y]) :: .obj g2 (.cells #[.slice so 1 ca, .map (some gm)] 66) :: [])) hA hM rfl rfl (qvc (cs := [.string (p ++ x)]) rfl rfl rfl (by kernel_rfl) hM 0 rfl (Nat.le_of_ble_eq_true rfl) rfl) 0 rfl rfl ?_
 intro w16 hM
 refine qa ?_
 refine hK14 _ _ ?_
 refine wp_region_lit ?_
 refine qb (v := .int .i64 1) hA rfl rfl rfl (qh rfl rfl (fun w => by kernel_rfl)) ?_
 intro a hA
 refine qb hA rfl rfl rfl (qg rfl) ?_
 intro a hA
 refine qa ?_
 refine hK11 _ _ ?_
 refine zt ?_
 intro K17 hK17
 refine wp_seq_k (fun K18 hK18 => ?_)
 refine wp_region_lit ?_
 refine qb (v := .bool false) hA rfl rfl rfl (qh rfl rfl (fun w => by kernel_rfl)) ?_
 intro a hA
 refine qa ?_
 refine hK18 _ _ ?_
 refine wp_seq_k (fun K19 hK19 => ?_)
 refine wp_cond_false (hA.ev rfl) ?_
 refine wp_exit ?_
 refine hK9 _ _ ?_
 refine wp_seq_k (fun K20 hK20 => ?_)
 refine wp_region_lit ?_
 refine qb hA rfl rfl rfl (qg rfl) ?_
 intro a hA
 refine qb hA rfl rfl rfl (qe rfl) ?_
 intro a hA
 refine qa ?_
 refine hK20 _ _ ?_
 refine wp_ret ?_
 refine hret _ _ ?_
 refine je (v := .slice (some ⟨g5, 0, none⟩) 1 ca6) hA rfl (.cons (qj rfl) .nil) rfl ?_
 replace hM := hM.sub (cC (cN (.refl _)))
 exact ⟨_, _, rfl, hM⟩
theorem quc {w : World} {so : Option Addr} {ca : Nat} {x y : ByteArray} (hR : Rc w so [.string x, .string y]) {p : ByteArray} {gm : Nat} {sf sn : Option Addr} {cf cn : Nat} (hN : Rc w sn [.string p]) (hp : p.size + x.size ≤ 140737488355327) : Calls Tryz.prog 64 #[.agg #[.slice so 1 ca, .map (some gm)], .agg (jn 3 (.slice sf 1 cf) (.slice sn 1 cn)).toArray] w fun e w' => ∃ g ca' g2, e = .returned (.tuple #[.agg #[.slice (some ⟨g, 0, none⟩) 1 ca', .map (some g2)], .int .i64 0]) ∧ Mg w w' [.row 81 2 (.slice (some ⟨g, 0, none⟩) 1 ca') 1 [Value.string ((p ++ x)), .string y]] := by
 have hM : Mg w w ([]) := Mg.start w
 refine qx (l := [(0, .agg #[.slice so 1 ca, .map (some gm)]), (1, .agg (jn 3 (.slice sf 1 cf) (.slice sn 1 cn)).toArray)]) Tryz.func64 rfl Tryz.ntmps64 rfl rfl ?_
 intro Q hret hnorm hP a hA
 refine wp_seq_k (fun K1 hK1 => ?_)
 refine wp_region_lit ?_
 refine jl (vs := [.slice so 1 ca, .map (some gm)]) (t := 66) hA hM rfl rfl rfl (fun g => .pointer (some ⟨g, 0, none⟩)) (zd rfl rfl) (by decide) ?_
 intro g2 w3 hM a hA
 refine jl (vs := (jn 3 (.slice sf 1 cf) (.slice sn 1 cn))) (t := 34) hA hM rfl rfl rfl (fun g => .pointer (some ⟨g, 0, none⟩)) (zd rfl rfl) (by decide) ?_
 intro g4 w5 hM a hA
 refine jl (vs := [.slice none 0 0, .map none]) (t := 66) hA hM rfl rfl rfl (fun g => .pointer (some ⟨g, 0, none⟩)) (zv (z := .agg #[.slice none 0 0, .map none]) (by kernel_rfl) rfl) (by decide) ?_
 intro g6 w7 hM a hA
 refine qb hA rfl rfl rfl (qe rfl) ?_
 intro a hA
 refine qa ?_
 refine hK1 _ _ ?_
 refine wp_seq_k (fun K8 hK8 => ?_)
 refine wp_seq_k (fun K9 hK9 => ?_)
 refine wp_region_lit ?_
 refine qb hA rfl rfl rfl (zy hM zkh rfl 1 rfl (cs := (jn 3 (.slice sf 1 cf) (.slice sn 1 cn))) rfl rfl) ?_
 intro a hA
 refine qz hA rfl rfl rfl (qk rfl rfl (fun w => by kernel_rfl)) (zda) ?_
 rintro _ w10 ⟨rfl, hb3⟩
 replace hM := hM.call hb3
 refine ⟨_, rfl, ?_⟩
 intro a hA
 refine qb (v := .bool false) hA rfl rfl rfl (ql rfl qp) ?_
 intro a hA
 refine qa ?_
 refine hK9 _ _ ?_
 refine wp_cond_false (hA.ev rfl) ?_
 refine wp_skip ?_
 refine hK8 _ _ ?_
 refine wp_seq_k (fun K11 hK11 => ?_)
 refine wp_region_lit ?_
 refine qb hA rfl rfl rfl (qe rfl) ?_
 intro a hA
 refine qa ?_
 refine hK11 _ _ ?_
 refine wp_seq_k (fun K12 hK12 => ?_)
 refine wp_region_lit ?_
 refine qb hA rfl rfl rfl (qe rfl) ?_
 intro a hA
 refine qa ?_
 refine hK12 _ _ ?_
 refine wp_seq_k (fun K13 hK13 => ?_)
 refine wp_seq_k (fun K14 hK14 => ?_)
 refine wp_region_lit ?_
 refine qb (v := .pointer (some ⟨g4, 0, none⟩)) hA rfl rfl rfl (qf qlc rfl rfl) ?_
 intro a hA
 refine qb hA rfl rfl rfl (zi hM o93 rfl 1 rfl rfl) ?_
 intro a hA
 refine qa ?_
 refine hK14 _ _ ?_
 refine wp_block ?_
 refine wp_seq_k (fun K15 hK15 => ?_)
 refine wp_region_lit ?_
 refine qb (v := .bool false) hA rfl rfl rfl (qh rfl rfl (fun w => by kernel_rfl)) ?_
 intro a hA
 refine qb hA rfl rfl rfl (qe rfl) ?_
 intro a hA
 refine qa ?_
 refine hK15 _ _ ?_
 refine wp_cond_false (hA.ev rfl) ?_
 refine wp_seq_k (fun K16 hK16 => ?_)
 refine wp_region_lit ?_
 refine qb (v := .bool false) hA rfl rfl rfl (qh rfl rfl (fun w => by kernel_rfl)) ?_
 intro a hA
 refine qb hA rfl rfl rfl (qe rfl) ?_
 intro a hA
 refine qa ?_
 refine hK16 _ _ ?_
 refine wp_cond_false (hA.ev rfl) ?_
 refine wp_seq_k (fun K17 hK17 => ?_)
 refine wp_region_lit ?_
 refine qb (v := .bool true) hA rfl rfl rfl (qh rfl rfl (fun w => by kernel_rfl)) ?_
 intro a hA
 refine qb hA rfl rfl rfl (qe rfl) ?_
 intro a hA
 refine qa ?_
 refine hK17 _ _ ?_
 refine wp_cond_true (hA.ev rfl) ?_
 refine vd (S := fun w1 => Mg w w1 (.obj g4 (.cells (jn 3 (.slice sf 1 cf) (.slice sn 1 cn)).toArray 34) :: .obj g2 (.cells #[.slice so 1 ca, .map (some gm)] 66) :: [])) (by kernel_rfl) ?_
 replace hM := hM.drew
 refine zr hA 0 rfl rfl rfl rfl hP (hM.sub (cN (cC (cC (List.nil_sublist _))))) (fun w1 hM => zy hM zsd rfl 1 rfl (cs := [.slice so 1 ca, .map (some gm)]) rfl rfl) ?_
 intro a hA
 refine zr (v := .pointer (some ⟨g4, 14, none⟩)) hA 1 rfl rfl rfl rfl hP (hM.sub (cN (cC (cC (List.nil_sublist _))))) (fun w1 hM => qf zkg rfl rfl) ?_
 intro a hA
 refine zr hA 2 rfl rfl rfl rfl hP (hM.sub (cN (cC (cC (List.nil_sublist _))))) (fun w1 hM => zi hM zth rfl 0 rfl rfl) ?_
 intro a hA
 obtain ⟨bx18, ox19, ux20, hs21, hc22, hi23⟩ := hN.at1 (i := 0) (by (show 0 < 1); omega)
 obtain rfl : .string p = ux20 := by simpa using hi23
 refine zr (v := .pointer (some ⟨bx18, ox19 + 0, none⟩)) hA 3 rfl rfl rfl rfl hP (hM.sub (cN (cC (cC (List.nil_sublist _))))) (fun w1 hM => zf (k := 0) Tryz.underlying31 (by kernel_rfl) rfl rfl (by first | rfl | omega) hs21 (by omega)) ?_
 intro a hA
 refine zr hA 4 rfl rfl rfl rfl hP (hM.sub (cN (cC (cC (List.nil_sublist _))))) (fun w1 hM => jt hM hc22 o99 rfl) ?_
 intro a hA
 refine xn (by kernel_rfl) (vb hA 5 rfl rfl rfl rfl (qk rfl rfl (fun w => by kernel_rfl)) (qod (hR.below hM.bel) hp) ?_)
 rintro _ w27 ⟨g24, ca25, rfl, hM26⟩
 replace hM : Mg w w27 (.row 81 2 (.slice (some ⟨g24, 0, none⟩) 1 ca25) 1 ([Value.string ((p ++ x)), .string y]) :: .obj g6 (.cells #[.slice none 0 0, .map none] 66) :: .obj g4 (.cells (jn 3 (.slice sf 1 cf) (.slice sn 1 cn)).toArray 34) :: .obj g2 (.cells #[.slice so 1 ca, .map (some gm)] 66) :: []) := (hM.both hM26 (qr (by simp) (qr (by simp) (qr (by simp) (qw za)))) (qr (by simp) (qw za)))
 refine ⟨_, rfl, (hM.sub (cN (cN (cC (cC (List.nil_sublist _)))))), ?_⟩
 intro a hA
 refine zr hA 6 rfl rfl rfl rfl hP (hM.sub (cN (cN (cC (cC (List.nil_sublist _)))))) (fun w1 hM => qe rfl) ?_
 intro a hA
 refine xp (by kernel_rfl) ?_
 refine hK13 _ _ ?_
 refine wp_seq_k (fun K28 hK28 => ?_)
 refine wp_seq_k (fun K29 hK29 => ?_)
 refine wp_region_lit ?_
 refine qb hA rfl rfl rfl (qg rfl) ?_
 intro a hA
 refine qb (v := .bool false) hA rfl rfl rfl (qh rfl rfl (fun w => by kernel_rfl)) ?_
 intro a hA
 refine qa ?_
 refine hK29 _ _ ?_
 refine wp_cond_false (hA.ev rfl) ?_
 refine wp_skip ?_
 refine hK28 _ _ ?_
 refine wp_seq_k (fun K30 hK30 => ?_)
 refine wp_region_lit ?_
 refine qb hA rfl rfl rfl (qg rfl) ?_
 intro a hA
 refine qz hA rfl rfl rfl (qk rfl rfl (fun w => by kernel_rfl)) (qci (yb (hM.has 0 rfl))) ?_
 rintro _ w33 ⟨g31, rfl, hM32⟩
 replace hM : Mg w w33 (.obj g31 (qfg ([⟨(p ++ x), .int .i64 0, 0⟩]) 1) :: .row 81 2 (.slice (some ⟨g24, 0, none⟩) 1 ca25) 1 ([Value.string ((p ++ x)), .string y]) :: .obj g6 (.cells #[.slice none 0 0, .map none] 66) :: .obj g4 (.cells (jn 3 (.slice sf 1 cf) (.slice sn 1 cn)).toArray 34) :: .obj g2 (.cells #[.slice so 1 ca, .map (some gm)] 66) :: []) := (hM.both hM32 (qr (by simp) (qr (by simp) (qr (by simp) (qr (by simp) (qw za))))) (qr (by simp) (qw za)))
 refine ⟨_, rfl, ?_⟩
 intro a hA
 refine qb (v := .agg #[.slice (some ⟨g24, 0, none⟩) 1 ca25, .map (some g31)]) hA rfl rfl rfl (qi (vs := [.agg #[.slice (some ⟨g24, 0, none⟩) 1 ca25, .map (some g31)], .int .i64 0]) rfl rfl) ?_
 intro a hA
 refine qb (v := .int .i64 0) hA rfl rfl rfl (qi (vs := [.agg #[.slice (some ⟨g24, 0, none⟩) 1 ca25, .map (some g31)], .int .i64 0]) rfl rfl) ?_
 intro a hA
 refine ja (us := [.slice (some ⟨g24, 0, none⟩) 1 ca25, .map (some g31)]) (L' := (.obj g31 (qfg ([⟨(p ++ x), .int .i64 0, 0⟩]) 1) :: .row 81 2 (.slice (some ⟨g24, 0, none⟩) 1 ca25) 1 ([Value.string ((p ++ x)), .string y]) :: .obj g6 (.cells #[.slice (some ⟨g24, 0, none⟩) 1 ca25, .map (some g31)] 66) :: .obj g4 (.cells (jn 3 (.slice sf 1 cf) (.slice sn 1 cn)).toArray 34) :: .obj g2 (.cells #[.slice so 1 ca, .map (some gm)] 66) :: [])) hA hM rfl rfl (zq rfl rfl rfl (by kernel_rfl) hM 2 rfl rfl rfl) 2 rfl rfl rfl ?_
 intro w34 hM
 refine qb hA rfl rfl rfl (qe rfl) ?_
 intro a hA
 refine qa ?_
 refine hK30 _ _ ?_
 refine wp_ret ?_
 refine hret _ _ ?_
 refine je (v := .tuple #[.agg #[.slice (some ⟨g24, 0, none⟩) 1 ca25, .map (some g31)], .int .i64 0]) hA rfl (.cons (qbd hM zsd rfl 2 rfl (cs := [.slice (some ⟨g24, 0, none⟩) 1 ca25, .map (some g31)]) rfl rfl) (.cons (qj rfl) .nil)) rfl ?_
 replace hM := hM.sub (cN (cC (cN (cN (cN (.refl _))))))
 exact ⟨_, _, _, rfl, hM⟩
theorem qmg {w : World} {s : ByteArray} (hs : s.size ≤ 281474976710656) : Calls Tryz.prog 109 #[.string s] w fun e w' => e = .returned (.string s) ∧ Below w.heap.size w w' := by
 have hM : Mg w w ([]) := Mg.start w
 refine qx (l := [(0, .string s)]) Tryz.func109 rfl Tryz.ntmps109 rfl rfl ?_
 intro Q hret hnorm hP a hA
 refine wp_seq_k (fun K1 hK1 => ?_)
 refine wp_region_lit ?_
 refine qb hA rfl rfl rfl (qe rfl) ?_
 intro a hA
 refine qa ?_
 refine hK1 _ _ ?_
 refine wp_seq_k (fun K2 hK2 => ?_)
 refine wp_region_lit ?_
 refine qb hA rfl rfl rfl (qg rfl) ?_
 intro a hA
 refine qz hA rfl rfl rfl (qk rfl rfl (fun w => by kernel_rfl)) (Tryz.stringslite_Clone s _ hs) ?_
 rintro _ w3 ⟨rfl, hb1⟩
 replace hM := hM.call hb1
 refine ⟨_, rfl, ?_⟩
 intro a hA
 refine qb hA rfl rfl rfl (qe rfl) ?_
 intro a hA
 refine qa ?_
 refine hK2 _ _ ?_
 refine wp_ret ?_
 refine hret _ _ ?_
 refine je (v := .string s) hA rfl (.cons (qj rfl) .nil) rfl ?_
 exact ⟨rfl, hM.bel⟩
theorem zdb {w : World} {so : Option Addr} {ca : Nat} {x y : ByteArray} (hR : Rc w so [.string x, .string y]) (hx : x.size ≤ 281474976710656) (hy : y.size ≤ 281474976710656) : Calls Tryz.prog 65 #[.slice so 1 ca] w fun e w' => ∃ g ca', e = .returned (.slice (some ⟨g, 0, none⟩) 1 ca') ∧ Mg w w' [.row 81 2 (.slice (some ⟨g, 0, none⟩) 1 ca') 1 [Value.string x, .string y]] := by
 have hM : Mg w w ([]) := Mg.start w
 refine qx (l := [(0, .slice so 1 ca)]) Tryz.func65 rfl Tryz.ntmps65 rfl rfl ?_
 intro Q hret hnorm hP a hA
 refine wp_seq_k (fun K1 hK1 => ?_)
 refine wp_region_lit ?_
 refine qb hA rfl rfl rfl (qe rfl) ?_
 intro a hA
 refine qa ?_
 refine hK1 _ _ ?_
 refine wp_seq_k (fun K2 hK2 => ?_)
 refine wp_region_lit ?_
 refine qb hA rfl rfl rfl (qg rfl) ?_
 intro a hA
 refine qz hA rfl rfl rfl (qk rfl rfl (fun w => by kernel_rfl)) (zfe (hR.below hM.bel)) ?_
 rintro _ w6 ⟨g3, ca4, rfl, hM5⟩
 replace hM : Mg w w6 (.row 81 2 (.slice (some ⟨g3, 0, none⟩) 1 ca4) 1 ([Value.string x, .string y]) :: []) := (hM.both hM5 (qw za) (qr (by simp) (qw za)))
 refine ⟨_, rfl, ?_⟩
 intro a hA
 refine qb hA rfl rfl rfl (qe rfl) ?_
 intro a hA
 refine qa ?_
 refine hK2 _ _ ?_
 refine wp_seq_k (fun K7 hK7 => ?_)
 refine wp_seq_k (fun K8 hK8 => ?_)
 refine wp_region_lit ?_
 refine qb hA rfl rfl rfl (qg rfl) ?_
 intro a hA
 refine qb (v := .int .i64 1) hA rfl rfl rfl (qy Tryz.underlying39 rfl) ?_
 intro a hA
 refine qb hA rfl rfl rfl (qg rfl) ?_
 intro a hA
 refine qa ?_
 refine hK8 _ _ ?_
 refine wp_block ?_
 refine wp_loop_rounds 3 ?_
 refine zt ?_
 intro K9 hK9
 refine wp_seq_k (fun K10 hK10 => ?_)
 refine wp_region_lit ?_
 refine qb (v := .bool true) hA rfl rfl rfl (qh rfl rfl (fun w => by kernel_rfl)) ?_
 intro a hA
 refine qa ?_
 refine hK10 _ _ ?_
 refine wp_seq_k (fun K11 hK11 => ?_)
 refine wp_cond_true (hA.ev rfl) ?_
 refine wp_skip ?_
 refine hK11 _ _ ?_
 refine wp_seq_k (fun K12 hK12 => ?_)
 refine wp_block ?_
 refine wp_seq_k (fun K13 hK13 => ?_)
 refine wp_region_lit ?_
 refine qb hA rfl rfl rfl (qg rfl) ?_
 intro a hA
 refine qb (v := .pointer (some ⟨g3, 0, none⟩)) hA rfl rfl rfl (vi (sz := 2) (k := 0) Tryz.underlying39 (by kernel_rfl) rfl rfl rfl Nat.zero_lt_one) ?_
 intro a hA
 refine qb hA rfl rfl rfl (qvb hM 0 rfl zse (cs := [.string x, .string y]) rfl rfl rfl) ?_
 intro a hA
 refine jl (vs := [.string (⟨#[]⟩), .string (⟨#[]⟩)]) (t := 81) hA hM rfl rfl rfl (fun g => .pointer (some ⟨g, 0, none⟩)) (zv (z := .agg #[.string (⟨#[]⟩), .string (⟨#[]⟩)]) (by kernel_rfl) rfl) (by decide) ?_
 intro g14 w15 hM a hA
 refine qb hA rfl rfl rfl (qe rfl) ?_
 intro a hA
 refine ja (us := [.string x, .string y]) (L' := (.obj g14 (.cells #[.string x, .string y] 81) :: .row 81 2 (.slice (some ⟨g3, 0, none⟩) 1 ca4) 1 ([Value.string x, .string y]) :: [])) hA hM rfl rfl (zq rfl rfl rfl (by kernel_rfl) hM 0 rfl rfl rfl) 0 rfl rfl rfl ?_
 intro w16 hM
 refine qa ?_
 refine hK13 _ _ ?_
 refine vd (S := fun w1 => Mg w w1 (.obj g14 (.cells #[.string x, .string y] 81) :: [])) (by kernel_rfl) ?_
 replace hM := hM.drew
 refine zr hA 0 rfl rfl rfl rfl hP (hM.sub (cC (cN (List.nil_sublist _)))) (fun w1 hM => qg rfl) ?_
 intro a hA
 refine zr hA 1 rfl rfl rfl rfl hP (hM.sub (cC (cN (List.nil_sublist _)))) (fun w1 hM => qg rfl) ?_
 intro a hA
 refine zr (v := .pointer (some ⟨g14, 0, none⟩)) hA 2 rfl rfl rfl rfl hP (hM.sub (cC (cN (List.nil_sublist _)))) (fun w1 hM => qf qtb rfl rfl) ?_
 intro a hA
 refine zr hA 3 rfl rfl rfl rfl hP (hM.sub (cC (cN (List.nil_sublist _)))) (fun w1 hM => zi hM o99 rfl 0 rfl rfl) ?_
 intro a hA
 refine zr (v := .pointer (some ⟨g14, 1, none⟩)) hA 5 rfl rfl rfl rfl hP (hM.sub (cC (cN (List.nil_sublist _)))) (fun w1 hM => qf zsc rfl rfl) ?_
 intro a hA
 refine zr hA 6 rfl rfl rfl rfl hP (hM.sub (cC (cN (List.nil_sublist _)))) (fun w1 hM => zi hM o99 rfl 0 rfl rfl) ?_
 intro a hA
 refine xn (by kernel_rfl) (vb hA 4 rfl rfl rfl rfl (qk rfl rfl (fun w => by kernel_rfl)) (qmg (by first | exact hx | exact hy)) ?_)
 rintro _ w18 ⟨rfl, hb17⟩
 replace hM := hM.call hb17
 refine ⟨_, rfl, (hM.sub (cC (cN (List.nil_sublist _)))), ?_⟩
 intro a hA
 refine xn (by kernel_rfl) (vb hA 7 rfl rfl rfl rfl (qk rfl rfl (fun w => by kernel_rfl)) (qmg (by first | exact hx | exact hy)) ?_)
 rintro _ w20 ⟨rfl, hb19⟩
 replace hM := hM.call hb19
 refine ⟨_, rfl, (hM.sub (cC (cN (List.nil_sublist _)))), ?_⟩
 intro a hA
 refine zr (v := .agg #[.string x, .string y]) hA 8 rfl rfl rfl rfl hP (hM.sub (cC (cN (List.nil_sublist _)))) (fun w1 hM => xr rfl (fun w => by kernel_rfl)) ?_
 intro a hA
 refine zr (v := .pointer (some ⟨g3, 0, none⟩)) hA 9 rfl rfl rfl rfl hP (hM.sub (cC (cN (List.nil_sublist _)))) (fun w1 hM => vi (sz := 2) (k := 0) Tryz.underlying39 (by kernel_rfl) rfl rfl rfl Nat.zero_lt_one) ?_
 intro a hA
 refine xn (by kernel_rfl) (zih (us := []) (L' := (.obj g14 (.cells #[.string x, .string y] 81) :: .row 81 2 (.slice (some ⟨g3, 0, none⟩) 1 ca4) 1 ([Value.string x, .string y]) :: [])) hA hM 10 rfl rfl rfl (qvc (cs := [.string x, .string y]) rfl rfl rfl (by kernel_rfl) hM 1 rfl (Nat.le_of_ble_eq_true rfl) rfl) 1 rfl rfl ?_)
 intro w21 hM
 refine ⟨(hM.sub (cC (cN (List.nil_sublist _)))), ?_⟩
 refine xp (by kernel_rfl) ?_
 refine hK12 _ _ ?_
 refine wp_region_lit ?_
 refine qb (v := .int .i64 1) hA rfl rfl rfl (qh rfl rfl (fun w => by kernel_rfl)) ?_
 intro a hA
 refine qb hA rfl rfl rfl (qg rfl) ?_
 intro a hA
 refine qa ?_
 refine hK9 _ _ ?_
 refine zt ?_
 intro K22 hK22
 refine wp_seq_k (fun K23 hK23 => ?_)
 refine wp_region_lit ?_
 refine qb (v := .bool false) hA rfl rfl rfl (qh rfl rfl (fun w => by kernel_rfl)) ?_
 intro a hA
 refine qa ?_
 refine hK23 _ _ ?_
 refine wp_seq_k (fun K24 hK24 => ?_)
 refine wp_cond_false (hA.ev rfl) ?_
 refine wp_exit ?_
 refine hK7 _ _ ?_
 refine wp_seq_k (fun K25 hK25 => ?_)
 refine wp_region_lit ?_
 refine qb hA rfl rfl rfl (qg rfl) ?_
 intro a hA
 refine qb hA rfl rfl rfl (qe rfl) ?_
 intro a hA
 refine qa ?_
 refine hK25 _ _ ?_
 refine wp_ret ?_
 refine hret _ _ ?_
 refine je (v := .slice (some ⟨g3, 0, none⟩) 1 ca4) hA rfl (.cons (qj rfl) .nil) rfl ?_
 replace hM := hM.sub (cN (cC (.refl _)))
 exact ⟨_, _, rfl, hM⟩
section
variable {F : Fence} {m : Nat} {P : Program} {w0 w w' : World} {L : List Ck} {l : List (Nat × Value)} {ops : List Oper} {Q : Exit → Act → World → Prop} {a : Act} {n : Nat} {o : Oper} {rest : List Oper} {d : Nat} {v : Value}
def Sd (a : Act) (n : Nat) (l : List (Nat × Value)) : Prop := Sl { a with defers := [] } n l
theorem qgf (hnd : ∀ c, o.op ≠ .defer c) (r : Option Nat) (ρ : Operand → Value) : o.semAt r ρ = execOp ρ o := by
 cases r with
 | none => rfl
 | some k => exact Oper.semAt_some k _ _ hnd
theorem vh (hF : ∀ f, F.fn f) (H : Sd a n l) (hg : jd l ops o = true) (hdst : o.dst = some d) (hd : Nat.blt d n = true) (hnd : ∀ c, o.op ≠ .defer c) (he : Does P l o w v w')
  (hk : ∀ a', Sd a' n ((d, v) :: l) → a'.defers = a.defers → wpListIn F m P ops.toArray Q rest a' w') : wpListIn F m P ops.toArray Q (o :: rest) a w := by
 unfold wpListIn
 rw [if_pos (show Region.wanted o (yielded ops.toArray a.tmps) = true from H.wanted hg)]
 refine ⟨fun f _ => hF f, ?_⟩
 rw [qgf hnd, he a.eval (fun x u hx => H.ev hx), Oper.uponIn_value, hdst]
 exact hk _ (H.put hd v) rfl
theorem qqi (hF : ∀ f, F.fn f) (H : Sd a n l) (hg : jd l ops o = true) (hdst : o.dst = none) (hnd : ∀ c, o.op ≠ .defer c) (he : Sets P l o w w')
  (hk : wpListIn F m P ops.toArray Q rest a w') : wpListIn F m P ops.toArray Q (o :: rest) a w := by
 unfold wpListIn
 rw [if_pos (show Region.wanted o (yielded ops.toArray a.tmps) = true from H.wanted hg)]
 refine ⟨fun f _ => hF f, ?_⟩
 rw [qgf hnd, he a.eval (fun x u hx => H.ev hx), Oper.uponIn_skip, hdst]
 exact hk
theorem zsj {c : Code} (I : Nat → Act → World → Prop) (N : Nat) (h0 : I N a w) (round : ∀ k a w, I k a w → c.wpIn F m P (Exit.then (fun a' w' => ∃ j, k = j + 1 ∧ I j a' w') Q) a w) : (Code.loop c).wpIn F m P Q a w := by
 have key : ∀ k a w, I k a w → Code.roundsIn F m P c Q (k + 1) a w := by
  intro k
  induction k with
  | zero =>
   intro a w h
   refine wpIn_mono (round 0 a w h) (fun e a' w' hq => ?_)
   cases e with
   | normal => obtain ⟨j, hj, _⟩ := hq; omega
   | _ => exact hq
  | succ k ih =>
   intro a w h
   refine wpIn_mono (round (k + 1) a w h) (fun e a' w' hq => ?_)
   cases e with
   | normal =>
    obtain ⟨j, hj, hI⟩ := hq
    obtain rfl : k = j := by omega
    exact ih a' w' hI
   | _ => exact hq
 exact wpIn_loop_rounds (N + 1) (key N a w h0)
theorem zqe (hF : ∀ f, F.fn f) (hd0 : F.depth = none) (H : Sd a n l) (hg : jd l ops o = true) (hdst : o.dst = some d) (hd : Nat.blt d n = true) (hnd : ∀ c, o.op ≠ .defer c) {k : Nat} {vs : List Value} (he : ∀ ρ : Operand → Value, (∀ x u, ev l x = some u → ρ x = u) → (execOp ρ o).run P w = (Instr.yield k vs.toArray).run P w) {R : Bool → World → Prop} (hy : YieldAt F (m - 1) P k vs.toArray w fun e w' => ∃ b, e = .returned (bV b) ∧ R b w')
  (hk : ∀ b w', R b w' → ∀ a', Sd a' n ((d, bV b) :: l) → a'.defers = a.defers → wpListIn F m P ops.toArray Q rest a' w') : wpListIn F m P ops.toArray Q (o :: rest) a w := by
 obtain ⟨fn, tmps, assign, body, h1, h2⟩ := hy
 unfold wpListIn
 rw [if_pos (show Region.wanted o (yielded ops.toArray a.tmps) = true from H.wanted hg)]
 refine ⟨fun f _ => hF f, ?_⟩
 rw [qgf hnd, he a.eval (fun x u hx => H.ev hx), h1, Oper.uponIn_round]
 refine ⟨(fun h => by rw [hd0] at h; cases h), h2.mono ?_⟩
 rintro _ w' ⟨b, rfl, h⟩
 rw [hdst]
 exact hk b w' h _ (H.put hd (bV b)) rfl
theorem qzg {x : Operand} {k : Nat} {args : List Operand} {ts : Array TypeId} {vs : List Value} {dst : Option Tmp} {ty : TypeId} {pos : String} {after : Array Edge} {guard : Option (Nat × Bool)} (hx : ev l x = some (.func (.yield k) #[] #[])) (ha : evs l args = some vs) :
  ∀ ρ : Operand → Value, (∀ x u, ev l x = some u → ρ x = u) → (execOp ρ ⟨dst, .call ⟨.value x, args.toArray, ts⟩, ty, pos, after, guard⟩).run P w = (Instr.yield k vs.toArray).run P w := fun ρ h => by
 have e := qrd h args vs ha
 simp [execOp, resolve, invoke, h x _ hx, Deferred.ofValue, e]
theorem Sd.sl (h : Sd a n l) (hd : a.defers = []) : Sl a n l := ⟨h.size, h.holds, hd⟩
theorem Sd.ev (h : Sd a n l) {x : Operand} {v : Value} (hx : Go.Proofs.YtoopkbedjbnhhaaGreatDoor.G.ev l x = some v) : a.eval x = v := Sl.ev h hx
theorem Sd.keep (h : Sd a n l) (l' : List (Nat × Value)) (hs : AllIn l l') : Sd a n l' := Sl.keep h l' hs
theorem zta {f : FuncId} {fn : Func} {c : Code} {args : List Value} {Z : Ending → World → Prop} (hf : P.funcs[f]? = some fn) (hb : fn.body = some c) (hF : F.fn f) (hn : fn.ntmps = n) (hl : Nat.ble args.length n = true) (hs : (args.zipIdx.map fun p => (p.2, p.1)) = l) (hro : F.round = none)
  (h : ∀ Q : Exit → Act → World → Prop, (∀ a w, bodyPost P fn Z .ret a w → Q .ret a w) → (∀ a w, bodyPost P fn Z .ret a w → Q .normal a w) → ∀ a, Sd a n l → a.defers = [] → c.wpIn F m P Q a w) : CallsIn F m P f args.toArray w Z := by
 subst hs
 refine callsIn_of_wp hf hb hF (h _ (fun _ _ h => h) (fun _ _ h => h) _ ?_ rfl) hro
 rw [hn]
 exact Sl.enter (Nat.le_of_ble_eq_true hl)
theorem zqf {f : FuncId} {fn : Func} {c : Code} {args : List Value} {Z : Ending → World → Prop} (hf : P.funcs[f]? = some fn) (hb : fn.body = some c) (hF : F.fn f) (hn : fn.ntmps = n) (hl : Nat.ble args.length n = true) (hs : (args.zipIdx.map fun p => (p.2, p.1)) = l) (hro : F.round = none)
  (h : ∀ Q : Exit → Act → World → Prop, (∀ a w, bodyPostM F m P fn Z .ret a w → Q .ret a w) → ∀ a, Sd a n l → a.defers = [] → c.wpIn F m P Q a w) : CallsIn F m P f args.toArray w Z := by
 subst hs
 refine callsIn_of_wp_marks hf hb hF (h _ (fun _ _ h => h) _ ?_ rfl) hro
 rw [hn]
 exact Sl.enter (Nat.le_of_ble_eq_true hl)
theorem ug {x y : Code} (h : ∀ K : Act → World → Prop, (∀ a w, y.wpIn F m P Q a w → K a w) → x.wpIn F m P (Exit.then K Q) a w) : (Code.seq x y).wpIn F m P Q a w := wpIn_seq (h _ (fun _ _ h => h))
theorem qzh (hF : ∀ f, F.fn f) (H : Sd a n l) (M : Mg w0 w L) (hg : jd l ops o = true) (hdst : o.dst = some d) (hd : Nat.blt d n = true) (hnd : ∀ c, o.op ≠ .defer c) {vs : List Value} {t : TypeId} (val : Nat → Value) (he : Does P l o w (val w.heap.size) (w.alloc (.cells vs.toArray t))) (ht : t ≠ BY)
  (hk : ∀ g w', Mg w0 w' (.obj g (.cells vs.toArray t) :: L) → w.heap.size ≤ g → g < w'.heap.size → Below w.heap.size w w' → KeepsOthers w w' → ∀ a', Sd a' n ((d, val g) :: l) → a'.defers = a.defers → wpListIn F m P ops.toArray Q rest a' w') : wpListIn F m P ops.toArray Q (o :: rest) a w :=
 vh hF H hg hdst hd hnd he (hk _ _ (M.addObj _ (qae ht)) (Nat.le_refl _) (by simp) ((Below.refl _ w).alloc (Nat.le_refl _) _) (KeepsOthers.alloc _ _))
end
theorem ko (g : Nat) : ∀ (cs : List Value) (w : World) (o : Nat), KeepsOthers w (w.setCells g o cs)
 | [], w, o => KeepsOthers.refl w
 | c :: cs, w, o => (KeepsOthers.setCell w ⟨g, o, none⟩ c).trans (ko g cs _ _)
theorem zhh {w w' : World} {row : Option Nat} (hg : w.grownBy w' row) (hr : ∀ r, row = some r → ∃ o : Obj, w.heap[r]? = some o ∧ o.isCells = false) : Kept (fun _ => True) w w' := ⟨hg.size, fun b i v _ hc => by
 by_cases e : row = some b
 ·
  obtain ⟨o, ho, hn⟩ := hr b e
  unfold World.cell? at hc
  simp only [ho] at hc
  cases o <;> simp_all [Obj.isCells]
 ·
  exact hg.cell hc (fun k => e k.symm)⟩
theorem Here.kept {w w' : World} {b o : Nat} {cs : List Value} (h : Here w b o cs) (hk : Kept (fun _ => True) w w') : Here w' b o cs := ⟨Nat.lt_of_lt_of_le h.1 hk.1, fun j v hj => hk.2 _ _ _ trivial (h.2 j v hj)⟩
theorem qmh : Is1 Tryz.prog 32 := ⟨⟨_, Tryz.underlying32, rfl⟩, by kernel_rfl⟩
theorem qgg : IsS Tryz.prog 34 15 := ⟨⟨_, Tryz.underlying34⟩, by kernel_rfl⟩
theorem zdc : IsS Tryz.prog 66 2 := ⟨⟨_, Tryz.underlying66⟩, by kernel_rfl⟩
theorem ub : Is1 Tryz.prog 35 := ⟨⟨_, Tryz.underlying35, rfl⟩, by kernel_rfl⟩
theorem qmi : Is1 Tryz.prog 39 := ⟨⟨_, Tryz.underlying39, rfl⟩, by kernel_rfl⟩
theorem zhi {w : World} {so : Option Addr} {k ca : Nat} : Calls Tryz.prog 63 #[.slice so k ca] w fun e w' => e = .returned (.func (.func 103) #[] #[.pointer (some ⟨w.heap.size, 0, none⟩)]) ∧ w' = w.alloc (.cells #[.slice so k ca] 32) := by
  refine qx (l := [(0, .slice so k ca)]) Tryz.func63 rfl Tryz.ntmps63 rfl rfl ?_
  intro Q hret hnorm hP a hA
  refine wp_seq_k (fun K1 hK1 => ?_)
  refine wp_region_lit ?_
  refine qb (v := .pointer (some ⟨w.heap.size, 0, none⟩)) (w' := w.alloc (.cells #[.slice so k ca] 32)) hA rfl rfl rfl (zd (vs := [.slice so k ca]) rfl rfl) fun a hA => ?_
  refine qb hA rfl rfl rfl (qe rfl) fun a hA => ?_
  refine qa (hK1 _ _ (wp_seq_k (fun K2 hK2 => wp_region_lit ?_)))
  refine qb hA rfl rfl rfl (jj rfl) fun a hA => ?_
  refine qb hA rfl rfl rfl (qe rfl) fun a hA => ?_
  refine qa (hK2 _ _ (wp_ret (hret _ _ ?_)))
  exact je (rs := [.tmp 2]) hA rfl (.cons (qj rfl) .nil) rfl ⟨rfl, rfl⟩
def KpI (Bs go : Nat) (W W' : World) : Prop := W.heap.size ≤ W'.heap.size ∧ ∀ b, b = Bs ∨ b = go → ∀ i v, W.cell? ⟨b, i, none⟩ = some v → W'.cell? ⟨b, i, none⟩ = some v
theorem KpI.refl (Bs go : Nat) (W : World) : KpI Bs go W W := ⟨Nat.le_refl _, fun _ _ _ _ h => h⟩
theorem KpI.trans {Bs go : Nat} {A B C : World} (h : KpI Bs go A B) (k : KpI Bs go B C) : KpI Bs go A C := ⟨Nat.le_trans h.1 k.1, fun b hb i v hv => k.2 b hb i v (h.2 b hb i v hv)⟩
set_option maxRecDepth 100000 in
theorem zhj {w0 : World} {Bs go : Nat} {ca : Nat} {cs : List Value} (hcs : cs.length = 15) (hBs : w0.cell? ⟨Bs, 0, none⟩ = some (.slice (some ⟨go, 0, none⟩) 1 ca)) (hR : ∀ p u, cs[p]? = some u → w0.cell? ⟨go, p, none⟩ = some u) (n : Nat) :
    SeqStopsK Fence.wide n Tryz.prog 103 #[.pointer (some ⟨Bs, 0, none⟩)] (fun _ : Unit => #[.int .i64 0, .agg cs.toArray]) (KpI Bs go) (fun ys => ys = [()]) (fun _ => True) 1 w0 := by
  intro l J Jx W hW hJ hJx hY h0
  have hF : ∀ f, Fence.wide.fn f := fun _ => trivial
  rw [List.append_toArray]
  refine zta (l := [(0, .func (.yield l) #[] #[]), (1, .pointer (some ⟨Bs, 0, none⟩))]) Tryz.func103 rfl trivial rfl rfl rfl rfl ?_
  intro Q hret hnorm a hA hdf
  have hc : W.cell? ⟨Bs, 0, none⟩ = some (.slice (some ⟨go, 0, none⟩) 1 ca) := (hW.cell (p := ⟨Bs, 0, none⟩) (vz hBs)).trans hBs
  have hr : ∀ p u, cs[p]? = some u → W.cell? ⟨go, p, none⟩ = some u := fun p u hp => (hW.cell (p := ⟨go, p, none⟩) (vz (hR p u hp))).trans (hR p u hp)
  refine ug fun K1 hK1 => wpIn_region_lit ?_
  refine vh (v := .slice (some ⟨go, 0, none⟩) 1 ca) hF hA rfl rfl rfl (by intro c h; cases h) (jo rfl (xa qmh hc)) fun a hA h2 => ?_
  refine vh (v := .int .i64 1) hF hA rfl rfl rfl (by intro c h; cases h) (qy Tryz.underlying32 rfl) fun a hA h3 => ?_
  refine vh (v := .int .i64 0) hF hA rfl rfl rfl (by intro c h; cases h) (qh rfl rfl (fun w => by kernel_rfl)) fun a hA h4 => ?_
  refine vh (v := .int .i64 0) hF hA rfl rfl rfl (by intro c h; cases h) (qe rfl) fun a hA h5 => ?_
  refine wpListIn_nil (hK1 _ _ (wpIn_block ?_))
  refine zsj (fun k a W' => k ≤ 1 ∧ Sd a 19 [(0, .func (.yield l) #[] #[]), (1, .pointer (some ⟨Bs, 0, none⟩)), (3, .int .i64 ((k : Int) - 1))] ∧ a.defers = [] ∧ KpI Bs go W W' ∧ J (List.replicate (1 - k) ()) W') 1 ⟨Nat.le_refl _, hA.keep _ ⟨rfl, rfl, rfl, trivial⟩, by rw [h5, h4, h3, h2, hdf], KpI.refl _ _ _, by simpa using h0⟩ ?_
  rintro k a W' ⟨hk, hA, hd, hKp, hJp⟩
  have hc' := hKp.2 _ (.inl rfl) _ _ hc
  refine ug fun K2 hK2 => ug fun K3 hK3 => wpIn_region_lit ?_
  refine vh (v := .int .i64 ((k : Int) - 1)) hF hA rfl rfl rfl (by intro c h; cases h) (qg rfl) fun a hA h2 => ?_
  refine vh (v := .bool (decide ((0 : Int) ≤ (k : Int) - 1))) hF hA rfl rfl rfl (by intro c h; cases h) (qh rfl rfl ju) fun a hA h3 => ?_
  refine wpListIn_nil (hK3 _ _ ?_)
  refine wpIn_cond_split (t := decide ((0 : Int) ≤ (k : Int) - 1)) (hA.ev rfl) (fun hq => ?_) (fun hq => ?_)
  · have hq' := of_decide_eq_true hq
    obtain rfl : k = 1 := by omega
    refine wpIn_skip (hK2 _ _ (ug fun K4 hK4 => wpIn_block (ug fun K5 hK5 => wpIn_region_lit ?_)))
    refine vh (v := .func (.yield l) #[] #[]) hF hA rfl rfl rfl (by intro c h; cases h) (qg rfl) fun a hA h4 => ?_
    refine vh (v := .int .i64 0) hF hA rfl rfl rfl (by intro c h; cases h) (qg rfl) fun a hA h5 => ?_
    refine vh (v := .slice (some ⟨go, 0, none⟩) 1 ca) hF hA rfl rfl rfl (by intro c h; cases h) (jo rfl (xa qmh hc')) fun a hA h6 => ?_
    refine vh (v := .int .i64 0) hF hA rfl rfl rfl (by intro c h; cases h) (qg rfl) fun a hA h7 => ?_
    refine vh (v := .pointer (some ⟨go, 0, none⟩)) hF hA rfl rfl rfl (by intro c h; cases h) (vi (sz := 15) (k := 0) Tryz.underlying32 (by kernel_rfl) rfl rfl rfl Nat.zero_lt_one) fun a hA h8 => ?_
    refine vh (v := .agg cs.toArray) hF hA rfl rfl rfl (by intro c h; cases h) (jo rfl (kp qgg _ hcs (fun j v hj => by have := hKp.2 _ (.inr rfl) _ _ (hr j v hj); simpa using this))) fun a hA h9 => ?_
    refine zqe (k := l) (vs := [.int .i64 0, .agg cs.toArray]) (R := fun b W2 => (b = true ∧ J [()] W2 ∧ KpI Bs go W' W2) ∨ (b = false ∧ Jx [()] W2)) hF rfl hA rfl rfl rfl (by intro c h; cases h) (qzg rfl rfl) ?_ ?_
    · have := hY [] () W' hJp (by decide)
      obtain ⟨fn, tmps, assign, body, e1, e2⟩ := this
      refine ⟨fn, tmps, assign, body, e1, e2.mono ?_⟩
      rintro e W2 (⟨rfl, h1, h2⟩ | ⟨rfl, h1⟩)
      · exact ⟨true, rfl, .inl ⟨rfl, h1, h2⟩⟩
      · exact ⟨false, rfl, .inr ⟨rfl, h1⟩⟩
    · rintro b W2 hR2 a hA h10
      refine vh (v := .bool (!b)) hF hA rfl rfl rfl (by intro c h; cases h) (ql rfl qp) fun a hA h11 => ?_
      refine wpListIn_nil (hK5 _ _ ?_)
      have hdd : a.defers = [] := by rw [h11, h10, h9, h8, h7, h6, h5, h4, h3, h2, hd]
      rcases hR2 with ⟨rfl, hJ2, hK2'⟩ | ⟨rfl, hJx2⟩
      · refine wpIn_cond_false (hA.ev rfl) (wpIn_skip (hK4 _ _ (wpIn_region_lit ?_)))
        refine vh (v := .int .i64 0) hF hA rfl rfl rfl (by intro c h; cases h) (qg rfl) fun a hA g1 => ?_
        refine vh (v := .int .i64 (-1)) hF hA rfl rfl rfl (by intro c h; cases h) (qh rfl rfl (fun w => by kernel_rfl)) fun a hA g2 => ?_
        refine vh (v := .int .i64 (-1)) hF hA rfl rfl rfl (by intro c h; cases h) (qe rfl) fun a hA g3 => ?_
        refine wpListIn_nil ?_
        exact ⟨0, rfl, Nat.zero_le _, hA.keep _ ⟨rfl, rfl, rfl, trivial⟩, by rw [g3, g2, g1, hdd], hKp.trans hK2', hJ2⟩
      · refine wpIn_cond_true (hA.ev rfl) (wpIn_ret ?_)
        refine hret _ _ ?_
        exact je (rs := []) (vs := []) (v := .tuple #[]) (hA.sl hdd) rfl .nil rfl ⟨⟨_, rfl⟩, .inr ⟨_, trivial, hJx2⟩⟩
  · have hq' := of_decide_eq_false hq
    refine wpIn_exit ?_
    obtain rfl : k = 0 := by omega
    refine hnorm _ _ ?_
    exact je (rs := []) (vs := []) (v := .tuple #[]) (hA.sl (by rw [h3, h2, hd])) rfl .nil rfl ⟨⟨_, rfl⟩, .inl ⟨_, rfl, hJp⟩⟩
section
variable {F : Fence} {m : Nat} {P : Program} {w0 w w' : World} {L : List Ck} {l : List (Nat × Value)} {ops : List Oper} {Q : Exit → Act → World → Prop} {a : Act} {n : Nat} {o : Oper} {rest : List Oper} {d : Nat} {v : Value}
theorem qii (hF : ∀ f, F.fn f) (hd0 : F.depth = none) (hA : Sd a n l) (hg : jd l ops o = true) (hdst : o.dst = some d) (hd : Nat.blt d n = true) (hnd : ∀ c, o.op ≠ .defer c) {f : FuncId} {vs : List Value} (he : Enters P l o w f vs) {R : Value → World → Prop} (hc : CallsIn F (m - 1) P f vs.toArray w fun e w' => ∃ v, e = .returned v ∧ R v w')
    (hk : ∀ v w', R v w' → ∀ a', Sd a' n ((d, v) :: l) → a'.defers = a.defers → wpListIn F m P ops.toArray Q rest a' w') : wpListIn F m P ops.toArray Q (o :: rest) a w := by
  unfold wpListIn
  rw [if_pos (show Region.wanted o (yielded ops.toArray a.tmps) = true from hA.wanted hg)]
  refine ⟨fun f _ => hF f, ?_⟩
  rw [qgf hnd, he a.eval (fun x u hx => hA.ev hx), Oper.uponIn_enter]
  refine ⟨(fun h => by rw [hd0] at h; cases h), hc.mono ?_⟩
  rintro _ w' ⟨v, rfl, h⟩
  rw [hdst]
  exact hk v w' h _ (hA.put hd v) rfl
theorem qac {i : Nat} {K : Act → World → Prop} (hF : ∀ f, F.fn f) (hro : F.round = none) (hA : Sd a n l) (hi : ops[i]? = some o) (hg : jd l ops o = true) (hdst : o.dst = some d) (hd : Nat.blt d n = true) (hnd : ∀ c, o.op ≠ .defer c) (he : Does P l o w v w')
    (hk : ∀ a', Sd a' n ((d, v) :: l) → a'.defers = a.defers → K a' w') : wpOpIn F m P ops.toArray Q i K a w := by
  unfold wpOpIn
  simp only [List.getElem?_toArray, hi]
  rw [if_pos (show Region.wanted o (yielded ops.toArray a.tmps) = true from hA.wanted hg)]
  unfold Oper.wpIn
  refine ⟨fun f _ => hF f, ?_⟩
  rw [qgf hnd, he a.eval (fun x u hx => hA.ev hx), Oper.uponIn_value, hdst]
  exact hk _ (hA.put hd v) rfl
theorem qzi {i : Nat} {K : Act → World → Prop} (hF : ∀ f, F.fn f) (hro : F.round = none) (hd0 : F.depth = none) (hA : Sd a n l) (hi : ops[i]? = some o) (hg : jd l ops o = true) (hdst : o.dst = some d) (hd : Nat.blt d n = true) (hnd : ∀ c, o.op ≠ .defer c) {f : FuncId} {vs : List Value} (he : Enters P l o w f vs) {R : Value → World → Prop} (hc : CallsIn F (m - 1) P f vs.toArray w fun e w' => ∃ v, e = .returned v ∧ R v w')
    (hk : ∀ v w', R v w' → ∀ a', Sd a' n ((d, v) :: l) → a'.defers = a.defers → K a' w') : wpOpIn F m P ops.toArray Q i K a w := by
  unfold wpOpIn
  simp only [List.getElem?_toArray, hi]
  rw [if_pos (show Region.wanted o (yielded ops.toArray a.tmps) = true from hA.wanted hg)]
  unfold Oper.wpIn
  refine ⟨fun f _ => hF f, ?_⟩
  rw [qgf hnd, he a.eval (fun x u hx => hA.ev hx), Oper.uponIn_enter]
  refine ⟨(fun h => by rw [hd0] at h; cases h), hc.mono ?_⟩
  rintro _ w' ⟨v, rfl, h⟩
  rw [hdst]
  exact hk v w' h _ (hA.put hd v) rfl
end
noncomputable def kl : List Oper := match Tryz.f30.body with | some (.seq _ (.seq _ (.seq _ (.seq _ (.seq _ (.seq (.region _ o _) _)))))) => o.toList | _ => []
set_option maxRecDepth 100000 in
theorem zmf {Q : Exit → Act → World → Prop} {Wd : World} {gF gE gq cq : Nat} {ds : List Deferred} {RR : Nat → Nat → World → Prop} (hcF : Wd.cell? ⟨gF, 0, none⟩ = some (.slice (some ⟨gq, 0, none⟩) 1 cq)) (hcE : Wd.cell? ⟨gE, 0, none⟩ = some (.int .i64 0)) (hRE : ∀ gr cr W5, RR gr cr W5 → W5.cell? ⟨gE, 0, none⟩ = some (.int .i64 0))
    (hcall : CallsIn Fence.wide 4 Tryz.prog 65 [Value.slice (some ⟨gq, 0, none⟩) 1 cq].toArray Wd fun e w' => ∃ v, e = .returned v ∧ ∃ gr cr, v = .slice (some ⟨gr, 0, none⟩) 1 cr ∧ RR gr cr w')
    (hQ : ∀ gr cr W5, RR gr cr W5 → ∀ a, Sd a 42 [(4, .slice (some ⟨gr, 0, none⟩) 1 cr), (5, .int .i64 0)] → a.defers = ds → Q .normal a W5) : ∀ a, Sd a 42 [(9, .pointer (some ⟨gF, 0, none⟩)), (10, .pointer (some ⟨gE, 0, none⟩))] → a.defers = ds → wpAnyIn Fence.wide 5 Tryz.prog .any kl.toArray Q 6 #[false, false, false, false, false, false] a Wd := by
  have hF : ∀ f, Fence.wide.fn f := fun _ => trivial
  have s42 : ∀ (gr cr : Nat) (W5 : World), RR gr cr W5 → ∀ a, Sd a 42 [(9, .pointer (some ⟨gF, 0, none⟩)), (10, .pointer (some ⟨gE, 0, none⟩)), (38, .pointer (some ⟨gF, 0, none⟩)), (39, .slice (some ⟨gq, 0, none⟩) 1 cq), (40, .slice (some ⟨gr, 0, none⟩) 1 cr), (4, .slice (some ⟨gr, 0, none⟩) 1 cr), (41, .int .i64 0), (5, .int .i64 0)] → a.defers = ds → wpAnyIn Fence.wide 5 Tryz.prog .any kl.toArray Q 0 #[true, true, true, true, true, true] a W5 := by
    intro gr cr W5 hRR a hA hd
    exact wpAnyIn_done (by kernel_rfl) (hQ gr cr W5 hRR a (hA.keep _ ⟨rfl, rfl, trivial⟩) hd) _
  have s41 : ∀ (gr cr : Nat) (W5 : World), RR gr cr W5 → ∀ a, Sd a 42 [(9, .pointer (some ⟨gF, 0, none⟩)), (10, .pointer (some ⟨gE, 0, none⟩)), (38, .pointer (some ⟨gF, 0, none⟩)), (39, .slice (some ⟨gq, 0, none⟩) 1 cq), (40, .slice (some ⟨gr, 0, none⟩) 1 cr), (4, .slice (some ⟨gr, 0, none⟩) 1 cr), (41, .int .i64 0)] → a.defers = ds → wpAnyIn Fence.wide 5 Tryz.prog .any kl.toArray Q 1 #[true, true, true, true, true, false] a W5 := by
    intro gr cr W5 hRR a hA hd
    refine wpAnyIn_all (rs := [5]) (by kernel_rfl) (by simp) ?_
    intro i hi
    simp only [List.mem_cons, List.not_mem_nil, or_false] at hi
    subst hi
    exact qac hF rfl hA rfl rfl rfl rfl (by intro c h; cases h) (qe rfl) (fun a hA h2 => s42 gr cr W5 hRR a (hA.keep _ (by repeat' constructor)) (h2.trans hd))
  have s40 : ∀ (gr cr : Nat) (W5 : World), RR gr cr W5 → ∀ a, Sd a 42 [(9, .pointer (some ⟨gF, 0, none⟩)), (10, .pointer (some ⟨gE, 0, none⟩)), (38, .pointer (some ⟨gF, 0, none⟩)), (39, .slice (some ⟨gq, 0, none⟩) 1 cq), (40, .slice (some ⟨gr, 0, none⟩) 1 cr), (4, .slice (some ⟨gr, 0, none⟩) 1 cr)] → a.defers = ds → wpAnyIn Fence.wide 5 Tryz.prog .any kl.toArray Q 2 #[true, true, true, false, true, false] a W5 := by
    intro gr cr W5 hRR a hA hd
    refine wpAnyIn_all (rs := [3]) (by kernel_rfl) (by simp) ?_
    intro i hi
    simp only [List.mem_cons, List.not_mem_nil, or_false] at hi
    subst hi
    exact qac (v := .int .i64 0) hF rfl hA rfl rfl rfl rfl (by intro c h; cases h) (jo rfl (xa ub (hRE _ _ _ hRR))) (fun a hA h2 => s41 gr cr W5 hRR a (hA.keep _ (by repeat' constructor)) (h2.trans hd))
  have s31 : ∀ (gr cr : Nat) (W5 : World), RR gr cr W5 → ∀ a, Sd a 42 [(9, .pointer (some ⟨gF, 0, none⟩)), (10, .pointer (some ⟨gE, 0, none⟩)), (38, .pointer (some ⟨gF, 0, none⟩)), (39, .slice (some ⟨gq, 0, none⟩) 1 cq), (40, .slice (some ⟨gr, 0, none⟩) 1 cr), (41, .int .i64 0)] → a.defers = ds → wpAnyIn Fence.wide 5 Tryz.prog .any kl.toArray Q 2 #[true, true, true, true, false, false] a W5 := by
    intro gr cr W5 hRR a hA hd
    refine wpAnyIn_all (rs := [4]) (by kernel_rfl) (by simp) ?_
    intro i hi
    simp only [List.mem_cons, List.not_mem_nil, or_false] at hi
    subst hi
    exact qac hF rfl hA rfl rfl rfl rfl (by intro c h; cases h) (qe rfl) (fun a hA h2 => s41 gr cr W5 hRR a (hA.keep _ (by repeat' constructor)) (h2.trans hd))
  have s30 : ∀ (gr cr : Nat) (W5 : World), RR gr cr W5 → ∀ a, Sd a 42 [(9, .pointer (some ⟨gF, 0, none⟩)), (10, .pointer (some ⟨gE, 0, none⟩)), (38, .pointer (some ⟨gF, 0, none⟩)), (39, .slice (some ⟨gq, 0, none⟩) 1 cq), (40, .slice (some ⟨gr, 0, none⟩) 1 cr)] → a.defers = ds → wpAnyIn Fence.wide 5 Tryz.prog .any kl.toArray Q 3 #[true, true, true, false, false, false] a W5 := by
    intro gr cr W5 hRR a hA hd
    refine wpAnyIn_all (rs := [3, 4]) (by kernel_rfl) (by simp) ?_
    intro i hi
    simp only [List.mem_cons, List.not_mem_nil, or_false] at hi
    rcases hi with rfl | rfl
    · exact qac (v := .int .i64 0) hF rfl hA rfl rfl rfl rfl (by intro c h; cases h) (jo rfl (xa ub (hRE _ _ _ hRR))) (fun a hA h2 => s31 gr cr W5 hRR a (hA.keep _ (by repeat' constructor)) (h2.trans hd))
    · exact qac hF rfl hA rfl rfl rfl rfl (by intro c h; cases h) (qe rfl) (fun a hA h2 => s40 gr cr W5 hRR a (hA.keep _ (by repeat' constructor)) (h2.trans hd))
  have s21 : ∀ a, Sd a 42 [(9, .pointer (some ⟨gF, 0, none⟩)), (10, .pointer (some ⟨gE, 0, none⟩)), (38, .pointer (some ⟨gF, 0, none⟩)), (39, .slice (some ⟨gq, 0, none⟩) 1 cq), (41, .int .i64 0)] → a.defers = ds → wpAnyIn Fence.wide 5 Tryz.prog .any kl.toArray Q 3 #[true, true, false, true, false, false] a Wd := by
    intro a hA hd
    refine wpAnyIn_all (rs := [2]) (by kernel_rfl) (by simp) ?_
    intro i hi
    simp only [List.mem_cons, List.not_mem_nil, or_false] at hi
    subst hi
    refine qzi hF rfl rfl hA rfl rfl rfl rfl (by intro c h; cases h) (qk rfl rfl (fun w => by kernel_rfl)) (R := fun v W5 => ∃ gr cr, v = .slice (some ⟨gr, 0, none⟩) 1 cr ∧ RR gr cr W5) hcall ?_
    rintro _ W5 ⟨gr, cr, rfl, hRR⟩ a hA h2
    exact s31 gr cr W5 hRR a (hA.keep _ (by repeat' constructor)) (h2.trans hd)
  have s20 : ∀ a, Sd a 42 [(9, .pointer (some ⟨gF, 0, none⟩)), (10, .pointer (some ⟨gE, 0, none⟩)), (38, .pointer (some ⟨gF, 0, none⟩)), (39, .slice (some ⟨gq, 0, none⟩) 1 cq)] → a.defers = ds → wpAnyIn Fence.wide 5 Tryz.prog .any kl.toArray Q 4 #[true, true, false, false, false, false] a Wd := by
    intro a hA hd
    refine wpAnyIn_all (rs := [2, 3]) (by kernel_rfl) (by simp) ?_
    intro i hi
    simp only [List.mem_cons, List.not_mem_nil, or_false] at hi
    rcases hi with rfl | rfl
    · refine qzi hF rfl rfl hA rfl rfl rfl rfl (by intro c h; cases h) (qk rfl rfl (fun w => by kernel_rfl)) (R := fun v W5 => ∃ gr cr, v = .slice (some ⟨gr, 0, none⟩) 1 cr ∧ RR gr cr W5) hcall ?_
      rintro _ W5 ⟨gr, cr, rfl, hRR⟩ a hA h2
      exact s30 gr cr W5 hRR a (hA.keep _ ⟨rfl, rfl, rfl, rfl, rfl, trivial⟩) (h2.trans hd)
    · exact qac (v := .int .i64 0) hF rfl hA rfl rfl rfl rfl (by intro c h; cases h) (jo rfl (xa ub hcE)) (fun a hA h2 => s21 a (hA.keep _ ⟨rfl, rfl, rfl, rfl, rfl, trivial⟩) (h2.trans hd))
  have s11 : ∀ a, Sd a 42 [(9, .pointer (some ⟨gF, 0, none⟩)), (10, .pointer (some ⟨gE, 0, none⟩)), (38, .pointer (some ⟨gF, 0, none⟩)), (41, .int .i64 0)] → a.defers = ds → wpAnyIn Fence.wide 5 Tryz.prog .any kl.toArray Q 4 #[true, false, false, true, false, false] a Wd := by
    intro a hA hd
    refine wpAnyIn_all (rs := [1]) (by kernel_rfl) (by simp) ?_
    intro i hi
    simp only [List.mem_cons, List.not_mem_nil, or_false] at hi
    subst hi
    exact qac (v := .slice (some ⟨gq, 0, none⟩) 1 cq) hF rfl hA rfl rfl rfl rfl (by intro c h; cases h) (jo rfl (xa qmi hcF)) (fun a hA h2 => s21 a (hA.keep _ ⟨rfl, rfl, rfl, rfl, rfl, trivial⟩) (h2.trans hd))
  have s10 : ∀ a, Sd a 42 [(9, .pointer (some ⟨gF, 0, none⟩)), (10, .pointer (some ⟨gE, 0, none⟩)), (38, .pointer (some ⟨gF, 0, none⟩))] → a.defers = ds → wpAnyIn Fence.wide 5 Tryz.prog .any kl.toArray Q 5 #[true, false, false, false, false, false] a Wd := by
    intro a hA hd
    refine wpAnyIn_all (rs := [1, 3]) (by kernel_rfl) (by simp) ?_
    intro i hi
    simp only [List.mem_cons, List.not_mem_nil, or_false] at hi
    rcases hi with rfl | rfl
    · exact qac (v := .slice (some ⟨gq, 0, none⟩) 1 cq) hF rfl hA rfl rfl rfl rfl (by intro c h; cases h) (jo rfl (xa qmi hcF)) (fun a hA h2 => s20 a (hA.keep _ ⟨rfl, rfl, rfl, rfl, trivial⟩) (h2.trans hd))
    · exact qac (v := .int .i64 0) hF rfl hA rfl rfl rfl rfl (by intro c h; cases h) (jo rfl (xa ub hcE)) (fun a hA h2 => s11 a (hA.keep _ ⟨rfl, rfl, rfl, rfl, trivial⟩) (h2.trans hd))
  have s01 : ∀ a, Sd a 42 [(9, .pointer (some ⟨gF, 0, none⟩)), (10, .pointer (some ⟨gE, 0, none⟩)), (41, .int .i64 0)] → a.defers = ds → wpAnyIn Fence.wide 5 Tryz.prog .any kl.toArray Q 5 #[false, false, false, true, false, false] a Wd := by
    intro a hA hd
    refine wpAnyIn_all (rs := [0]) (by kernel_rfl) (by simp) ?_
    intro i hi
    simp only [List.mem_cons, List.not_mem_nil, or_false] at hi
    subst hi
    exact qac (v := .pointer (some ⟨gF, 0, none⟩)) hF rfl hA rfl rfl rfl rfl (by intro c h; cases h) (qf (show FieldAt Tryz.prog 66 0 0 from ⟨_, _, Tryz.underlying66, rfl, rfl, by kernel_rfl⟩) rfl rfl) (fun a hA h2 => s11 a (hA.keep _ ⟨rfl, rfl, rfl, rfl, trivial⟩) (h2.trans hd))
  have s00 : ∀ a, Sd a 42 [(9, .pointer (some ⟨gF, 0, none⟩)), (10, .pointer (some ⟨gE, 0, none⟩))] → a.defers = ds → wpAnyIn Fence.wide 5 Tryz.prog .any kl.toArray Q 6 #[false, false, false, false, false, false] a Wd := by
    intro a hA hd
    refine wpAnyIn_all (rs := [0, 3]) (by kernel_rfl) (by simp) ?_
    intro i hi
    simp only [List.mem_cons, List.not_mem_nil, or_false] at hi
    rcases hi with rfl | rfl
    · exact qac (v := .pointer (some ⟨gF, 0, none⟩)) hF rfl hA rfl rfl rfl rfl (by intro c h; cases h) (qf (show FieldAt Tryz.prog 66 0 0 from ⟨_, _, Tryz.underlying66, rfl, rfl, by kernel_rfl⟩) rfl rfl) (fun a hA h2 => s10 a (hA.keep _ ⟨rfl, rfl, rfl, trivial⟩) (h2.trans hd))
    · exact qac (v := .int .i64 0) hF rfl hA rfl rfl rfl rfl (by intro c h; cases h) (jo rfl (xa ub hcE)) (fun a hA h2 => s01 a (hA.keep _ ⟨rfl, rfl, rfl, trivial⟩) (h2.trans hd))
  exact s00
theorem Mg.calmJ {w0 w w' : World} {L : List Ck} {row : Option Nat} (h : Mg w0 w L) (hg : w.grownBy w' row) (hr : ∀ r, row = some r → w0.heap.size ≤ r ∧ ∃ o : Obj, w.heap[r]? = some o ∧ o.isCells = false) (hL : ∀ c ∈ L, (∃ g vs t, c = .obj g (.cells vs t)) ∨ ∃ e sz v n xs, c = .row e sz v n xs) : Mg w0 w' L := by
  have key : ∀ (g : Nat) (o : Obj), w.heap[g]? = some o → o.isCells = true → w'.heap[g]? = some o := fun g o ho hc => (hg.block g (Array.getElem?_eq_some_iff.1 ho).1 (fun e => by
    obtain ⟨_, o2, h2, h3⟩ := hr g e.symm
    rw [ho] at h2
    cases h2
    rw [hc] at h3
    cases h3)).trans ho
  refine ⟨h.bel.grown hg h.bel.size (fun k e => (hr k e).1), fun c hc => ?_, h.dis⟩
  rcases hL c hc with ⟨g, vs, t, rfl⟩ | ⟨e, sz, v, n, xs, rfl⟩
  · have h2 := h.all _ hc
    exact ⟨h2.1, key _ _ h2.2 rfl⟩
  · have h2 : w.ownsRow w0.heap.size e sz v n xs := h.all _ hc
    refine ⟨h2.1, ?_⟩
    rcases h2.2 with ⟨e1, e2⟩ | ⟨g, cap, cur, e1, hB, hc2, h3⟩
    · exact .inl ⟨e1, e2⟩
    · exact .inr ⟨g, cap, cur, e1, hB, key _ _ hc2 rfl, h3⟩

def NmI (w : World) (gF gE : Nat) (so : Option Addr) (ca gm : Nat) (x y p : ByteArray) : List Unit → World → Prop
  | [], W => Mg w W [.obj gE (.cells #[.int .i64 0] 35), .obj gF (.cells #[.slice so 1 ca, .map (some gm)] 66)]
  | _ :: _, W => ∃ gq cq g2, Mg w W [.obj gE (.cells #[.int .i64 0] 35), .obj gF (.cells #[.slice (some ⟨gq, 0, none⟩) 1 cq, .map (some g2)] 66), .row 81 2 (.slice (some ⟨gq, 0, none⟩) 1 cq) 1 [.string (p ++ x), .string y]]
theorem zqg (w : World) (gF gE : Nat) (so : Option Addr) (ca gm : Nat) (x y p : ByteArray) (B : Nat) (hB : w.heap.size ≤ B) : OwnFrom B (NmI w gF gE so ca gm x y p) := by
  rintro pre W W' row h hg hrow
  cases pre with
  | nil =>
    refine Mg.calmJ h hg (fun r e => ⟨Nat.le_trans hB (hrow r e).1, (hrow r e).2⟩) (fun c hc => ?_)
    simp only [List.mem_cons, List.not_mem_nil, or_false] at hc
    rcases hc with rfl | rfl <;> exact .inl ⟨_, _, _, rfl⟩
  | cons u us =>
    obtain ⟨gq, cq, g2, h⟩ := h
    refine ⟨gq, cq, g2, Mg.calmJ h hg (fun r e => ⟨Nat.le_trans hB (hrow r e).1, (hrow r e).2⟩) (fun c hc => ?_)⟩
    simp only [List.mem_cons, List.not_mem_nil, or_false] at hc
    rcases hc with rfl | rfl | rfl
    · exact .inl ⟨_, _, _, rfl⟩
    · exact .inl ⟨_, _, _, rfl⟩
    · exact .inr ⟨_, _, _, _, _, rfl⟩
set_option maxRecDepth 100000 in
theorem zdd {w : World} {so sf sn : Option Addr} {ca cf cn : Nat} {x y p : ByteArray} (hR : Rc w so [.string x, .string y]) (hFs : Rc w sf (jn 0 (.slice none 0 0) (.slice none 0 0))) (hN : Rc w sn [.string p]) (hp : p.size + x.size ≤ 140737488355327) (hpx : (p ++ x).size ≤ 281474976710656) (hy : y.size ≤ 281474976710656) : Calls Tryz.prog 30 #[.agg (jn 3 (.slice sf 1 cf) (.slice sn 1 cn)).toArray, .slice so 1 ca] w fun e w' => ∃ g c2, e = .returned (.tuple #[.slice (some ⟨g, 0, none⟩) 1 c2, .int .i64 0]) ∧ Mg w w' [.row 81 2 (.slice (some ⟨g, 0, none⟩) 1 c2) 1 [.string (p ++ x), .string y]] := by
  refine (callsIn_wide (n := 5)).1 ?_
  have hF : ∀ f, Fence.wide.fn f := fun _ => trivial
  refine zqf (l := [(0, .agg (jn 3 (.slice sf 1 cf) (.slice sn 1 cn)).toArray), (1, .slice so 1 ca)]) Tryz.func30 rfl trivial rfl rfl rfl rfl ?_
  intro Q hret a hA hdf
  have hM : Mg w w [] := Mg.start w
  refine ug fun K1 hK1 => wpIn_region_lit ?_
  refine qzh (vs := jn 3 (.slice sf 1 cf) (.slice sn 1 cn)) (t := 34) hF hA hM rfl rfl rfl (by intro c h; cases h) (fun g => .pointer (some ⟨g, 0, none⟩)) (zd rfl rfl) (by decide) ?_
  intro g2 W1 hM _ _ _ _ a hA h1
  refine vh hF hA rfl rfl rfl (by intro c h; cases h) (qe rfl) fun a hA h2 => ?_
  refine vh hF hA rfl rfl rfl (by intro c h; cases h) (qe rfl) fun a hA h3 => ?_
  refine wpListIn_nil (hK1 _ _ (ug fun K2 hK2 => wpIn_region_lit ?_))
  refine vh (v := .agg (jn 3 (.slice sf 1 cf) (.slice sn 1 cn)).toArray) hF hA rfl rfl rfl (by intro c h; cases h) (zy hM qgg rfl 0 rfl (cs := jn 3 (.slice sf 1 cf) (.slice sn 1 cn)) rfl rfl) fun a hA h4 => ?_
  refine qii (R := fun v W => ∃ g' c', v = .tuple #[.slice (some ⟨g', 0, none⟩) 1 c', .agg (jn 0 (.slice none 0 0) (.slice none 0 0)).toArray, .bool true] ∧ Mg W1 W [.row 34 15 (.slice (some ⟨g', 0, none⟩) 1 c') 1 (jn 3 (.slice sf 1 cf) (.slice sn 1 cn))]) hF rfl hA rfl rfl rfl (by intro c h; cases h) (qk rfl rfl (fun w => by kernel_rfl)) (callsIn_wide.2 ((qzf (hFs.below hM.bel)).mono (fun e w' h => by obtain ⟨g', c', h1, h2⟩ := h; exact ⟨_, h1, g', c', rfl, h2⟩))) ?_
  rintro _ W2 ⟨go, co, rfl, hM2⟩ a hA h5
  have hgo := (Ck.lt (hM2.has 0 rfl) go rfl).2
  replace hM : Mg w W2 [.row 34 15 (.slice (some ⟨go, 0, none⟩) 1 co) 1 (jn 3 (.slice sf 1 cf) (.slice sn 1 cn)), .obj g2 (.cells (jn 3 (.slice sf 1 cf) (.slice sn 1 cn)).toArray 34)] := hM.both hM2 (qr (by simp) (qw za)) (qr (by simp) (qw za))
  refine vh hF hA rfl rfl rfl (by intro c h; cases h) (qg rfl) fun a hA h6 => ?_
  refine vh hF hA rfl rfl rfl (by intro c h; cases h) (qi (vs := [.slice (some ⟨go, 0, none⟩) 1 co, .agg (jn 0 (.slice none 0 0) (.slice none 0 0)).toArray, .bool true]) rfl rfl) fun a hA h7 => ?_
  refine vh hF hA rfl rfl rfl (by intro c h; cases h) (qi (vs := [.slice (some ⟨go, 0, none⟩) 1 co, .agg (jn 0 (.slice none 0 0) (.slice none 0 0)).toArray, .bool true]) rfl rfl) fun a hA h8 => ?_
  refine vh hF hA rfl rfl rfl (by intro c h; cases h) (qi (vs := [.slice (some ⟨go, 0, none⟩) 1 co, .agg (jn 0 (.slice none 0 0) (.slice none 0 0)).toArray, .bool true]) rfl rfl) fun a hA h9 => ?_
  refine qzh (vs := jn 0 (.slice none 0 0) (.slice none 0 0)) (t := 34) hF hA hM rfl rfl rfl (by intro c h; cases h) (fun g => .pointer (some ⟨g, 0, none⟩)) (zv (z := .agg (jn 0 (.slice none 0 0) (.slice none 0 0)).toArray) (by kernel_rfl) rfl) (by decide) ?_
  intro g7 W3 hM hg7 _ _ _ a hA h10
  refine vh hF hA rfl rfl rfl (by intro c h; cases h) (qe rfl) fun a hA h11 => ?_
  refine qqi (w' := W3.setCells g7 0 [.int .i64 0, .slice none 0 0, .int .i64 0, .int .i64 0, .bool false, .slice none 0 0, .slice none 0 0, .bool false, .slice none 0 0, .slice none 0 0, .string ⟨#[]⟩, .slice none 0 0, .slice none 0 0, .slice none 0 0, .slice none 0 0]) hF hA rfl rfl (by intro c h; cases h) (zq rfl rfl rfl (by kernel_rfl) hM 0 rfl rfl rfl) ?_
  have hM' : Mg w (W3.setCells g7 0 [.int .i64 0, .slice none 0 0, .int .i64 0, .int .i64 0, .bool false, .slice none 0 0, .slice none 0 0, .bool false, .slice none 0 0, .slice none 0 0, .string ⟨#[]⟩, .slice none 0 0, .slice none 0 0, .slice none 0 0, .slice none 0 0]) [.obj g7 (.cells (jn 0 (.slice none 0 0) (.slice none 0 0)).toArray 34), .row 34 15 (.slice (some ⟨go, 0, none⟩) 1 co) 1 (jn 3 (.slice sf 1 cf) (.slice sn 1 cn)), .obj g2 (.cells (jn 3 (.slice sf 1 cf) (.slice sn 1 cn)).toArray 34)] := Mg.puts [.int .i64 0, .slice none 0 0, .int .i64 0, .int .i64 0, .bool false, .slice none 0 0, .slice none 0 0, .bool false, .slice none 0 0, .slice none 0 0, .string ⟨#[]⟩, .slice none 0 0, .slice none 0 0, .slice none 0 0, .slice none 0 0] W3 _ [.int .i64 0, .slice none 0 0, .int .i64 0, .int .i64 0, .bool false, .slice none 0 0, .slice none 0 0, .bool false, .slice none 0 0, .slice none 0 0, .string ⟨#[]⟩, .slice none 0 0, .slice none 0 0, .slice none 0 0, .slice none 0 0] 0 hM 0 rfl
  have hz' := (ko g7 [.int .i64 0, .slice none 0 0, .int .i64 0, .int .i64 0, .bool false, .slice none 0 0, .slice none 0 0, .bool false, .slice none 0 0, .slice none 0 0, .string ⟨#[]⟩, .slice none 0 0, .slice none 0 0, .slice none 0 0, .slice none 0 0] W3 0).size
  revert hM' hz'
  generalize W3.setCells g7 0 [.int .i64 0, .slice none 0 0, .int .i64 0, .int .i64 0, .bool false, .slice none 0 0, .slice none 0 0, .bool false, .slice none 0 0, .slice none 0 0, .string ⟨#[]⟩, .slice none 0 0, .slice none 0 0, .slice none 0 0, .slice none 0 0] = W4
  intro hM' hzW4
  clear hM
  have hM := hM'
  clear hM'
  refine vh hF hA rfl rfl rfl (by intro c h; cases h) (qe rfl) fun a hA h12 => ?_
  refine wpListIn_nil (hK2 _ _ (ug fun K3 hK3 => ug fun K4 hK4 => wpIn_region_lit ?_))
  refine vh hF hA rfl rfl rfl (by intro c h; cases h) (qg rfl) fun a hA h13 => ?_
  refine vh (v := .bool false) hF hA rfl rfl rfl (by intro c h; cases h) (ql rfl qp) fun a hA h14 => ?_
  refine wpListIn_nil (hK4 _ _ (wpIn_cond_false (hA.ev rfl) (wpIn_skip (hK3 _ _ (ug fun K5 hK5 => wpIn_region_lit ?_)))))
  refine vh hF hA rfl rfl rfl (by intro c h; cases h) (qg rfl) fun a hA h15 => ?_
  refine qii (R := fun v W => ∃ g, v = .tuple #[.agg #[.slice so 1 ca, .map (some g)], .int .i64 0] ∧ Mg W4 W [.obj g (qfg [⟨x, .int .i64 0, 0⟩] 1)]) hF rfl hA rfl rfl rfl (by intro c h; cases h) (qk rfl rfl (fun w => by kernel_rfl)) (callsIn_wide.2 ((qci (hR.below hM.bel)).mono (fun e w' h => by obtain ⟨g, h1, h2⟩ := h; exact ⟨_, h1, g, rfl, h2⟩))) ?_
  rintro _ W5 ⟨gm, rfl, hM5⟩ a hA h16
  have hs5 := hM5.bel.size
  replace hM := hM.call hM5.bel
  refine vh hF hA rfl rfl rfl (by intro c h; cases h) (qg rfl) fun a hA h17 => ?_
  refine vh hF hA rfl rfl rfl (by intro c h; cases h) (qi (vs := [.agg #[.slice so 1 ca, .map (some gm)], .int .i64 0]) rfl rfl) fun a hA h18 => ?_
  refine vh hF hA rfl rfl rfl (by intro c h; cases h) (qi (vs := [.agg #[.slice so 1 ca, .map (some gm)], .int .i64 0]) rfl rfl) fun a hA h19 => ?_
  refine qzh (vs := [.slice none 0 0, .map none]) (t := 66) hF hA hM rfl rfl rfl (by intro c h; cases h) (fun g => .pointer (some ⟨g, 0, none⟩)) (zv (z := .agg #[.slice none 0 0, .map none]) (by kernel_rfl) rfl) (by decide) ?_
  intro gF W6 hM hgF hgF' _ _ a hA h20
  refine qzh (vs := [.int .i64 0]) (t := 35) hF hA hM rfl rfl rfl (by intro c h; cases h) (fun g => .pointer (some ⟨g, 0, none⟩)) (zv (z := .int .i64 0) (by kernel_rfl) rfl) (by decide) ?_
  intro gE W7 hM hgE hgE' _ _ a hA h21
  replace hM : Mg w W7 [.obj gE (.cells #[.int .i64 0] 35), .obj gF (.cells #[.slice none 0 0, .map none] 66), .row 34 15 (.slice (some ⟨go, 0, none⟩) 1 co) 1 (jn 3 (.slice sf 1 cf) (.slice sn 1 cn))] := hM.sub (cC (cC (cN (cC (List.nil_sublist _)))))
  refine qqi (w' := W7.setCells gF 0 [.slice so 1 ca, .map (some gm)]) hF hA rfl rfl (by intro c h; cases h) (zq rfl rfl rfl (by kernel_rfl) hM 1 rfl rfl rfl) ?_
  have hM' : Mg w (W7.setCells gF 0 [.slice so 1 ca, .map (some gm)]) [.obj gE (.cells #[.int .i64 0] 35), .obj gF (.cells #[.slice so 1 ca, .map (some gm)] 66), .row 34 15 (.slice (some ⟨go, 0, none⟩) 1 co) 1 (jn 3 (.slice sf 1 cf) (.slice sn 1 cn))] := Mg.puts [.slice so 1 ca, .map (some gm)] W7 _ [.slice none 0 0, .map none] 0 hM 1 rfl
  have hz' := (ko gF [.slice so 1 ca, .map (some gm)] W7 0).size
  revert hM' hz'
  generalize W7.setCells gF 0 [.slice so 1 ca, .map (some gm)] = W7b
  intro hM' hzW7b
  clear hM
  have hM := hM'
  clear hM'
  refine qqi (w' := W7b.setCells gE 0 [.int .i64 0]) hF hA rfl rfl (by intro c h; cases h) (zq rfl rfl rfl (by kernel_rfl) hM 0 rfl rfl rfl) ?_
  have hM' : Mg w (W7b.setCells gE 0 [.int .i64 0]) [.obj gE (.cells #[.int .i64 0] 35), .obj gF (.cells #[.slice so 1 ca, .map (some gm)] 66), .row 34 15 (.slice (some ⟨go, 0, none⟩) 1 co) 1 (jn 3 (.slice sf 1 cf) (.slice sn 1 cn))] := Mg.puts [.int .i64 0] W7b _ [.int .i64 0] 0 hM 0 rfl
  have hz' := (ko gE [.int .i64 0] W7b 0).size
  revert hM' hz'
  generalize W7b.setCells gE 0 [.int .i64 0] = W8
  intro hM' hzW8
  clear hM
  have hM := hM'
  clear hM'
  refine wpListIn_nil (hK5 _ _ (ug fun K6 hK6 => ug fun K7 hK7 => wpIn_region_lit ?_))
  refine vh hF hA rfl rfl rfl (by intro c h; cases h) (qg rfl) fun a hA h22 => ?_
  refine qii (R := fun v W => v = .func (.func 103) #[] #[.pointer (some ⟨W8.heap.size, 0, none⟩)] ∧ W = W8.alloc (.cells #[.slice (some ⟨go, 0, none⟩) 1 co] 32)) hF rfl hA rfl rfl rfl (by intro c h; cases h) (qk rfl rfl (fun w => by kernel_rfl)) (callsIn_wide.2 (zhi.mono (fun e w' h => ⟨_, h.1, rfl, h.2⟩))) ?_
  rintro _ W9 ⟨rfl, hW9⟩ a hA h23
  refine wpListIn_nil (hK7 _ _ (wpIn_block ?_))
  have hB9 : Below W8.heap.size W8 W9 := hW9 ▸ (Below.refl _ W8).alloc (Nat.le_refl _) _
  have hs9 : W9.heap.size = W8.heap.size + 1 := by rw [hW9]; simp
  have hc9 : W9.cell? ⟨W8.heap.size, 0, none⟩ = some (.slice (some ⟨go, 0, none⟩) 1 co) := by
    rw [hW9, cell_of_row _ _ _ _ _ _ (heap_alloc_new W8 _)]; rfl
  replace hM := hM.call hB9
  have hr9 : ∀ q u, (jn 3 (.slice sf 1 cf) (.slice sn 1 cn))[q]? = some u → W9.cell? ⟨go, q, none⟩ = some u := by
    obtain ⟨b, o, e, h⟩ := yb (hM.has 2 rfl) (by unfold jn; simp)
    cases e
    intro q u hq
    have := h q u hq
    rwa [Nat.zero_add] at this
  have hsw := hM.bel.size
  have hI0 : NmI w gF gE so ca gm x y p [] W9 := hM.sub (cC (cC (cN (List.nil_sublist _))))
  have hs4 := (hM5.bel.size)
  refine wpIn_rangeFunc_ownH (F := Fence.wide) rfl (by decide) (gf := 103) (lb := #[.pointer (some ⟨W8.heap.size, 0, none⟩)]) (hA.ev rfl) trivial (fun us w => by kernel_rfl)
    (zhj (w0 := W9) (go := go) (ca := co) (cs := jn 3 (.slice sf 1 cf) (.slice sn 1 cn)) rfl hc9 hr9 _) KpI.trans ?hkb (Below.refl _ _) (fun _ => rfl)
    (NmI w gF gE so ca gm x y p) (fun _ _ _ => False) (zqg w gF gE so ca gm x y p _ (by omega)) (fun _ _ _ _ _ hs _ _ => hs)
    hI0
    (fun _ a' W => ∃ Bx, Sd a' 42 [(9, .pointer (some ⟨gF, 0, none⟩)), (10, .pointer (some ⟨gE, 0, none⟩)), (12, .pointer (some ⟨Bx, 0, none⟩))] ∧ Here W Bx 0 (jn 3 (.slice sf 1 cf) (.slice sn 1 cn)))
    (fun _ a' _ X Y row hs hg hr => by obtain ⟨Bx, h1, h2⟩ := hs; exact ⟨Bx, h1, h2.kept (zhh hg (fun r e => (hr r e).2))⟩)
    ?assign ?body ?done ?stop
  case hkb =>
    intro W l o o' hl1 hl2 hl3 _
    refine ⟨(grownBy_putObj' W l o').size, fun b hb i v hv => (grownBy_putObj' W l o').cell hv (fun e => ?_)⟩
    have e' : b = l := Option.some.inj e
    subst e'
    unfold World.cell? at hv
    simp only [hl2] at hv
    cases o <;> simp_all [Obj.isCells]
  case assign =>
    rintro l pre u W K hMz hK
    have hA1 : Sd { tmps := (a.tmps.setIfInBounds 28 (.int .i64 0)).setIfInBounds 29 (.agg (jn 3 (.slice sf 1 cf) (.slice sn 1 cn)).toArray), defers := [] } 42 _ := Sl.put (Sl.put hA (d := 28) rfl (.int .i64 0)) (d := 29) rfl (.agg (jn 3 (.slice sf 1 cf) (.slice sn 1 cn)).toArray)
    have hF2 : ∀ f, (Fence.wide.inRound l).fn f := fun _ => trivial
    simp only [List.zip_toArray, List.zip_cons_cons, List.zip_nil_left, List.zip_nil_right, List.foldl_toArray', List.foldl_toArray, List.foldl_cons, List.foldl_nil]
    refine wpIn_region_lit ?_
    refine qzh (a := { tmps := (a.tmps.setIfInBounds 28 (.int .i64 0)).setIfInBounds 29 (.agg (jn 3 (.slice sf 1 cf) (.slice sn 1 cn)).toArray), defers := [] }) (w0 := W) (L := []) (vs := jn 0 (.slice none 0 0) (.slice none 0 0)) (t := 34) hF2 hA1 (Mg.start W) rfl rfl rfl (by intro c h; cases h) (fun g => .pointer (some ⟨g, 0, none⟩)) (zv (z := .agg (jn 0 (.slice none 0 0) (.slice none 0 0)).toArray) (by kernel_rfl) rfl) (by decide) ?_
    intro Bx X6 hM6 hBx hBx' hB6 hK6 a6 hA6 _
    refine qqi (w' := X6.setCells Bx 0 (jn 3 (.slice sf 1 cf) (.slice sn 1 cn))) hF2 hA6 rfl rfl (by intro c h; cases h) (zq rfl rfl rfl (by kernel_rfl) hM6 0 rfl rfl rfl) ?_
    have hM7 : Mg W (X6.setCells Bx 0 (jn 3 (.slice sf 1 cf) (.slice sn 1 cn))) [.obj Bx (.cells (jn 3 (.slice sf 1 cf) (.slice sn 1 cn)).toArray 34)] := Mg.puts (jn 3 (.slice sf 1 cf) (.slice sn 1 cn)) X6 _ (jn 0 (.slice none 0 0) (.slice none 0 0)) 0 hM6 0 rfl
    have hks := hK6.trans (ko Bx (jn 3 (.slice sf 1 cf) (.slice sn 1 cn)) X6 0)
    revert hM7 hks
    generalize X6.setCells Bx 0 (jn 3 (.slice sf 1 cf) (.slice sn 1 cn)) = X7
    intro hM7 hks
    have hI7 : NmI w gF gE so ca gm x y p pre X7 := by
      cases pre with
      | nil => exact Mg.call hMz hM7.bel
      | cons _ _ => obtain ⟨gq, cq, gz, h⟩ := hMz; exact ⟨gq, cq, gz, h.call hM7.bel⟩
    refine wpListIn_nil (hK _ _ (hks.from _) ⟨hM7.bel.size, fun b _ i v hv => (hM7.bel.cell (p := ⟨b, i, none⟩) (vz hv)).trans hv⟩ hI7 ⟨Bx, hA6.keep _ ⟨rfl, rfl, rfl, trivial⟩, (Array.getElem?_eq_some_iff.1 (hM7.obj 0 rfl)).1, fun j v hj => by rw [Nat.zero_add]; exact hM7.cell 0 rfl j hj⟩)
  case body =>
    rintro l pre u a' W hl1 _ hMz ⟨Bx, hA, hH⟩ hlen
    obtain rfl : pre = [] := List.length_eq_zero_iff.1 (by omega)
    have hF2 : ∀ f, (Fence.wide.inRound l).fn f := fun _ => trivial
    have hMz' : Mg w W [.obj gE (.cells #[.int .i64 0] 35), .obj gF (.cells #[.slice so 1 ca, .map (some gm)] 66)] := hMz
    refine wpIn_block (ug fun K8 hK8 => ug fun K9 hK9 => wpIn_region_lit ?_)
    refine vh (v := .int .i64 0) hF2 hA rfl rfl rfl (by intro c h; cases h) (zi hMz' ub rfl 0 rfl rfl) fun a hA h6 => ?_
    refine vh (v := .bool false) hF2 hA rfl rfl rfl (by intro c h; cases h) (qh rfl rfl (fun w => by kernel_rfl)) fun a hA h7 => ?_
    refine wpListIn_nil (hK9 _ _ (wpIn_cond_false (hA.ev rfl) (wpIn_skip (hK8 _ _ (wpIn_region_lit ?_)))))
    refine vh (v := .agg #[.slice so 1 ca, .map (some gm)]) hF2 hA rfl rfl rfl (by intro c h; cases h) (zy hMz' zdc rfl 1 rfl (cs := [.slice so 1 ca, .map (some gm)]) rfl rfl) fun a hA h8 => ?_
    refine vh (v := .agg (jn 3 (.slice sf 1 cf) (.slice sn 1 cn)).toArray) hF2 hA rfl rfl rfl (by intro c h; cases h) (jo rfl (kp qgg _ rfl (fun j v hj => by have := hH.2 j v hj; rwa [Nat.zero_add] at this ⊢))) fun a hA h9 => ?_
    refine qii (R := fun v X => ∃ gq cq gz, v = .tuple #[.agg #[.slice (some ⟨gq, 0, none⟩) 1 cq, .map (some gz)], .int .i64 0] ∧ Mg W X [.row 81 2 (.slice (some ⟨gq, 0, none⟩) 1 cq) 1 [.string (p ++ x), .string y]]) hF2 rfl hA rfl rfl rfl (by intro c h; cases h) (qk rfl rfl (fun w => by kernel_rfl)) ((callsIn_wide.2 ((quc (hR.below hMz'.bel) (hN.below hMz'.bel) hp).mono (fun e w' h => by obtain ⟨gq, cq, gz, h1, h2⟩ := h; exact ⟨_, h1, gq, cq, gz, rfl, h2⟩))).inRound l) ?_
    rintro _ X1 ⟨gq, cq, gz, rfl, hM1⟩ a hA h10
    have hM2 : Mg w X1 [.row 81 2 (.slice (some ⟨gq, 0, none⟩) 1 cq) 1 [.string (p ++ x), .string y], .obj gE (.cells #[.int .i64 0] 35), .obj gF (.cells #[.slice so 1 ca, .map (some gm)] 66)] := hMz'.both hM1 (qr (by simp) (qr (by simp) (qw za))) (qr (by simp) (qw za))
    refine vh hF2 hA rfl rfl rfl (by intro c h; cases h) (qg rfl) fun a hA h11 => ?_
    refine vh hF2 hA rfl rfl rfl (by intro c h; cases h) (qi (vs := [.agg #[.slice (some ⟨gq, 0, none⟩) 1 cq, .map (some gz)], .int .i64 0]) rfl rfl) fun a hA h12 => ?_
    refine vh hF2 hA rfl rfl rfl (by intro c h; cases h) (qi (vs := [.agg #[.slice (some ⟨gq, 0, none⟩) 1 cq, .map (some gz)], .int .i64 0]) rfl rfl) fun a hA h13 => ?_
    refine qqi (w' := X1.setCells gF 0 [.slice (some ⟨gq, 0, none⟩) 1 cq, .map (some gz)]) hF2 hA rfl rfl (by intro c h; cases h) (zq rfl rfl rfl (by kernel_rfl) hM2 2 rfl rfl rfl) ?_
    have hM3 : Mg w (X1.setCells gF 0 [.slice (some ⟨gq, 0, none⟩) 1 cq, .map (some gz)]) [.row 81 2 (.slice (some ⟨gq, 0, none⟩) 1 cq) 1 [.string (p ++ x), .string y], .obj gE (.cells #[.int .i64 0] 35), .obj gF (.cells #[.slice (some ⟨gq, 0, none⟩) 1 cq, .map (some gz)] 66)] := Mg.puts [.slice (some ⟨gq, 0, none⟩) 1 cq, .map (some gz)] X1 _ [.slice so 1 ca, .map (some gm)] 0 hM2 2 rfl
    have hk3 := ko gF [.slice (some ⟨gq, 0, none⟩) 1 cq, .map (some gz)] X1 0
    have hp3 : Kept (· ≠ gF) X1 (X1.setCells gF 0 [.slice (some ⟨gq, 0, none⟩) 1 cq, .map (some gz)]) := qvf _ _ _ _
    revert hM3 hk3 hp3
    generalize X1.setCells gF 0 [.slice (some ⟨gq, 0, none⟩) 1 cq, .map (some gz)] = X3
    intro hM3 hk3 hp3
    refine qqi (w' := X3.setCells gE 0 [.int .i64 0]) hF2 hA rfl rfl (by intro c h; cases h) (zq rfl rfl rfl (by kernel_rfl) hM3 1 rfl rfl rfl) ?_
    have hM4 : Mg w (X3.setCells gE 0 [.int .i64 0]) [.row 81 2 (.slice (some ⟨gq, 0, none⟩) 1 cq) 1 [.string (p ++ x), .string y], .obj gE (.cells #[.int .i64 0] 35), .obj gF (.cells #[.slice (some ⟨gq, 0, none⟩) 1 cq, .map (some gz)] 66)] := Mg.puts [.int .i64 0] X3 _ [.int .i64 0] 0 hM3 1 rfl
    have hk4 := ko gE [.int .i64 0] X3 0
    have hp4 : Kept (· ≠ gE) X3 (X3.setCells gE 0 [.int .i64 0]) := qvf _ _ _ _
    revert hM4 hk4 hp4
    generalize X3.setCells gE 0 [.int .i64 0] = X4
    intro hM4 hk4 hp4
    have hkc : KeepsOthers W X1 := ⟨hM1.bel.size, fun k o hk _ => (hM1.bel.block k (Array.getElem?_eq_some_iff.1 hk).1).trans hk⟩
    refine wpListIn_nil ⟨((hkc.trans hk3).trans hk4).from _, ⟨Nat.le_trans hM1.bel.size (Nat.le_trans hk3.size hk4.size), fun b hb i v hv => ?_⟩, gq, cq, gz, ?_⟩
    · have h1 := (hM1.bel.cell (p := ⟨b, i, none⟩) (vz hv)).trans hv
      refine hp4.2 _ _ _ ?_ (hp3.2 _ _ _ ?_ h1) <;> rcases hb with rfl | rfl <;> omega
    · exact (hM4.bringJ 1 rfl rfl).bringJ 2 rfl rfl |>.bringJ 1 rfl rfl
  case done =>
    rintro D xs W hD1 hS hMz hDf
    subst hS
    obtain ⟨gq, cq, gz, hMq⟩ := hMz
    have hA2 : Sd { a with defers := { target := .collected D, args := #[] } :: a.defers } 42 _ := hA
    revert hA2
    generalize hae : ({ a with defers := { target := .collected D, args := #[] } :: a.defers } : Act) = a2
    intro hA2
    have had : a2.defers = [{ target := .collected D, args := #[] }] := by rw [← hae]; show _ :: a.defers = _; rw [h23, h22, h21, h20, h19, h18, h17, h16, h15, h14, h13, h12, h11, h10, h9, h8, h7, h6, h5, h4, h3, h2, h1, hdf]
    have hMd := hMq.drew
    refine hK6 _ _ (ug fun K9 hK9 => wpIn_region_any (by kernel_rfl) ?_)
    have hcF : W.drew.cell? ⟨gF, 0, none⟩ = some (.slice (some ⟨gq, 0, none⟩) 1 cq) := hMd.cell 1 rfl 0 rfl
    have hcE : W.drew.cell? ⟨gE, 0, none⟩ = some (.int .i64 0) := hMd.cell 0 rfl 0 rfl
    refine zmf (Wd := W.drew) (gF := gF) (gE := gE) (gq := gq) (cq := cq) (ds := [{ target := .collected D, args := #[] }]) (RR := fun gr cr W5 => Mg W.drew W5 [.row 81 2 (.slice (some ⟨gr, 0, none⟩) 1 cr) 1 [.string (p ++ x), .string y]]) hcF hcE (fun gr cr W5 h => (h.bel.cell (p := ⟨gE, 0, none⟩) (vz hcE)).trans hcE) (callsIn_wide.2 ((zdb (yb (hMd.has 2 rfl)) hpx hy).mono (fun e w' h => by obtain ⟨g, c, h1, h2⟩ := h; exact ⟨_, h1, g, c, rfl, h2⟩))) ?_ a2 (hA2.keep _ ⟨rfl, rfl, trivial⟩) had
    intro gr cr W5 hM5' a5 hA5 hd5
    refine hK9 _ _ (wpIn_ret (hret _ _ ?_))
    have hD5 : W5.heap[D]? = some (.deferred (some [])) := (hM5'.bel.block D (Array.getElem?_eq_some_iff.1 hDf).1).trans hDf
    have hgr := grownBy_putObj' W5 D (.deferred none)
    have hMw : Mg w W5 [.row 81 2 (.slice (some ⟨gr, 0, none⟩) 1 cr) 1 [.string (p ++ x), .string y]] := (hMd.both hM5' (qr (by simp) (qr (by simp) (qr (by simp) (qw za)))) (qr (by simp) (qw za))).sub (cC (List.nil_sublist _))
    have hM6 := Mg.calmJ hMw hgr (fun r e => by cases e; exact ⟨by omega, _, hD5, rfl⟩) (fun c hc => by simp only [List.mem_cons, List.not_mem_nil, or_false] at hc; subst hc; exact .inr ⟨_, _, _, _, _, rfl⟩)
    show LeavesInM _ _ _ _ _ _ a5.defers .returning _
    rw [hd5]
    refine ⟨by simp, .inl ⟨D, _, rfl, run_takeDeferred hD5, ?_⟩⟩
    have hfin : (fun (e : Ending) (w' : World) => ∃ g c2, e = .returned (.tuple #[.slice (some ⟨g, 0, none⟩) 1 c2, .int .i64 0]) ∧ Mg w w' [.row 81 2 (.slice (some ⟨g, 0, none⟩) 1 c2) 1 [.string (p ++ x), .string y]]) (.returned (.tuple #[.slice (some ⟨gr, 0, none⟩) 1 cr, .int .i64 0])) (W5.putObj D (.deferred none)) := ⟨gr, cr, rfl, hM6⟩
    exact (je (P := Tryz.prog) (fn := Tryz.f30) (Z := (fun (e : Ending) (w' : World) => ∃ g c2, e = .returned (.tuple #[.slice (some ⟨g, 0, none⟩) 1 c2, .int .i64 0]) ∧ Mg w w' [.row 81 2 (.slice (some ⟨g, 0, none⟩) 1 c2) 1 [.string (p ++ x), .string y]])) (v := .tuple #[.slice (some ⟨gr, 0, none⟩) 1 cr, .int .i64 0]) (rs := [.tmp 4, .tmp 5]) (vs := [.slice (some ⟨gr, 0, none⟩) 1 cr, .int .i64 0]) hA5 rfl (.cons (qj rfl) (.cons (qj rfl) .nil)) rfl hfin).2
  case stop =>
    rintro D c pre W _ _ h _
    exact h.elim
theorem zia {w : World} : Calls Tryz.prog 10 #[] w fun e w' => e = .returned (.bool true) ∧ Below w.heap.size w w' := by
 have hM : Mg w w ([]) := Mg.start w
 refine qx (l := []) Tryz.func10 rfl Tryz.ntmps10 rfl rfl ?_
 intro Q hret hnorm hP a hA
 refine wp_seq_k (fun K1 hK1 => ?_)
 refine wp_region_lit ?_
 refine qb hA rfl rfl rfl (qe rfl) ?_
 intro a hA
 refine qa ?_
 refine hK1 _ _ ?_
 refine wp_seq_k (fun K2 hK2 => ?_)
 refine wp_region_lit ?_
 refine kx (e := 9) (sz := 1) (m := 1) (vs := [Value.string (⟨#[112, 58]⟩)]) hA hM rfl rfl rfl (zp rfl (by kernel_rfl)) rfl rfl (.inl (by decide)) ?_
 intro g3 w4 hM a hA
 refine qb (v := .agg (jn 0 (.slice none 0 0) (.slice none 0 0)).toArray) hA rfl rfl rfl (xr rfl (fun w => by kernel_rfl)) ?_
 intro a hA
 refine kx (e := 34) (sz := 15) (m := 1) (vs := (jn 0 (.slice none 0 0) (.slice none 0 0))) hA hM rfl rfl rfl (zp rfl (by kernel_rfl)) rfl rfl (.inl (by decide)) ?_
 intro g5 w6 hM a hA
 refine qb (v := .agg #[.int .i64 3, .slice none 0 0, .int .i64 0, .int .i64 0, .bool false, .slice none 0 0, .slice none 0 0, .bool false, .slice none 0 0, .slice none 0 0, .string (⟨#[]⟩), .slice none 0 0, .slice none 0 0, .slice (some ⟨g5, 0, none⟩) 1 1, .slice (some ⟨g3, 0, none⟩) 1 1]) hA rfl rfl rfl (xr rfl (fun w => by kernel_rfl)) ?_
 intro a hA
 refine qb (v := .agg #[.string (⟨#[120]⟩), .string (⟨#[121]⟩)]) hA rfl rfl rfl (xr rfl (fun w => by kernel_rfl)) ?_
 intro a hA
 refine kx (e := 81) (sz := 2) (m := 1) (vs := [Value.string (⟨#[120]⟩), .string (⟨#[121]⟩)]) hA hM rfl rfl rfl (zp rfl (by kernel_rfl)) rfl rfl (.inl (by decide)) ?_
 intro g7 w8 hM a hA
 refine qz hA rfl rfl rfl (qk rfl rfl (fun w => by kernel_rfl)) (zdd (x := ⟨#[120]⟩) (y := ⟨#[121]⟩) (p := ⟨#[112, 58]⟩) (yb (hM.has 0 rfl)) (yb (hM.has 1 rfl)) (yb (hM.has 2 rfl)) (by decide) (by decide) (by decide)) ?_
 rintro _ w12 ⟨g9, ca10, rfl, hM11⟩
 replace hM : Mg w w12 (.row 81 2 (.slice (some ⟨g9, 0, none⟩) 1 ca10) 1 ([Value.string ((⟨#[112, 58]⟩ ++ ⟨#[120]⟩)), .string (⟨#[121]⟩)]) :: .row 81 2 (.slice (some ⟨g7, 0, none⟩) 1 1) 1 ([Value.string (⟨#[120]⟩), .string (⟨#[121]⟩)]) :: .row 34 15 (.slice (some ⟨g5, 0, none⟩) 1 1) 1 ((jn 0 (.slice none 0 0) (.slice none 0 0))) :: .row 9 1 (.slice (some ⟨g3, 0, none⟩) 1 1) 1 ([Value.string (⟨#[112, 58]⟩)]) :: []) := (hM.both hM11 (qr (by simp) (qr (by simp) (qr (by simp) (qw za)))) (qr (by simp) (qw za)))
 refine ⟨_, rfl, ?_⟩
 intro a hA
 refine qb hA rfl rfl rfl (qg rfl) ?_
 intro a hA
 refine qb (v := .slice (some ⟨g9, 0, none⟩) 1 ca10) hA rfl rfl rfl (qi (vs := [.slice (some ⟨g9, 0, none⟩) 1 ca10, .int .i64 0]) rfl rfl) ?_
 intro a hA
 refine qb (v := .int .i64 0) hA rfl rfl rfl (qi (vs := [.slice (some ⟨g9, 0, none⟩) 1 ca10, .int .i64 0]) rfl rfl) ?_
 intro a hA
 refine qb hA rfl rfl rfl (qe rfl) ?_
 intro a hA
 refine qb hA rfl rfl rfl (qe rfl) ?_
 intro a hA
 refine qa ?_
 refine hK2 _ _ ?_
 refine wp_seq_k (fun K13 hK13 => ?_)
 refine wp_region_lit ?_
 refine qb hA rfl rfl rfl (qg rfl) ?_
 intro a hA
 refine qb (v := .bool true) hA rfl rfl rfl (qh rfl rfl (fun w => by kernel_rfl)) ?_
 intro a hA
 refine qb hA rfl rfl rfl (qg rfl) ?_
 intro a hA
 refine qb hA rfl rfl rfl (qg rfl) ?_
 intro a hA
 refine qb (v := .int .i64 1) hA rfl rfl rfl (qy Tryz.underlying39 rfl) ?_
 intro a hA
 refine qb (v := .bool true) hA rfl rfl rfl (qh rfl rfl (fun w => by kernel_rfl)) ?_
 intro a hA
 refine qb (v := .bool true) hA rfl rfl rfl (zm rfl rfl rfl rfl) ?_
 intro a hA
 refine qb hA rfl rfl rfl (qg rfl) ?_
 intro a hA
 refine qb hA rfl rfl rfl (qg rfl) ?_
 intro a hA
 refine qb (v := .pointer (some ⟨g9, 0, none⟩)) hA rfl rfl rfl (vi (sz := 2) (k := 0) Tryz.underlying39 (by kernel_rfl) rfl rfl rfl Nat.zero_lt_one) ?_
 intro a hA
 refine qb hA rfl rfl rfl (qvb hM 0 rfl zse (cs := [.string ((⟨#[112, 58]⟩ ++ ⟨#[120]⟩)), .string (⟨#[121]⟩)]) rfl rfl rfl) ?_
 intro a hA
 refine qb (v := .agg #[.string (⟨#[112, 58, 120]⟩), .string (⟨#[121]⟩)]) hA rfl rfl rfl (xr rfl (fun w => by kernel_rfl)) ?_
 intro a hA
 refine qb (v := .bool true) hA rfl rfl rfl (qh rfl rfl (fun w => by kernel_rfl)) ?_
 intro a hA
 refine qb (v := .bool true) hA rfl rfl rfl (zm rfl rfl rfl rfl) ?_
 intro a hA
 refine qb hA rfl rfl rfl (qe rfl) ?_
 intro a hA
 refine qa ?_
 refine hK13 _ _ ?_
 refine wp_ret ?_
 refine hret _ _ ?_
 refine je (v := .bool true) hA rfl (.cons (qj rfl) .nil) rfl ?_
 exact ⟨rfl, hM.bel⟩
theorem qud {w : World} {n : Nat} {t : Dt} {l : List Int} {sv : Option Addr} {cv : Nat} (ht : t.rd w) (hb : t.tr.bulk ≤ n) (hn : n ≤ 4000000) (hv : Rc w sv (izC l)) (hll : l.length ≤ 2000000) : Calls Tryz.prog 14 #[.slice sv l.length cv, .agg (t.d.cells t.ts.length).toArray] w fun e w' => e = .returned (.tuple #[.bool (qfd n l t.tr).1, .int .i64 (qfd n l t.tr).2]) ∧ Below w.heap.size w w' := by
 have hM : Mg w w ([]) := Mg.start w
 refine qx (l := [(0, .slice sv l.length cv), (1, .agg (t.d.cells t.ts.length).toArray)]) Tryz.func14 rfl Tryz.ntmps14 rfl rfl ?_
 intro Q hret hnorm hP a hA
 refine wp_seq_k (fun K1 hK1 => ?_)
 refine wp_region_lit ?_
 refine jl (vs := (t.d.cells t.ts.length)) (t := 30) hA hM rfl rfl rfl (fun g => .pointer (some ⟨g, 0, none⟩)) (zd rfl rfl) (by decide) ?_
 intro g2 w3 hM a hA
 refine qb hA rfl rfl rfl (qe rfl) ?_
 intro a hA
 refine qb hA rfl rfl rfl (qe rfl) ?_
 intro a hA
 refine qa ?_
 refine hK1 _ _ ?_
 refine wp_seq_k (fun K4 hK4 => ?_)
 refine wp_seq_k (fun K5 hK5 => ?_)
 refine wp_region_lit ?_
 refine qb hA rfl rfl rfl (zy hM xi rfl 0 rfl (cs := (t.d.cells t.ts.length)) rfl rfl) ?_
 intro a hA
 rcases Bool.eq_false_or_eq_true (ve zl t.tr) with hb6 | hb6
 · refine qz hA rfl rfl rfl (qk rfl rfl (fun w => by kernel_rfl)) ((hb6 ▸ rsound_any (t := t) (Dt.keep hM.bel _ ht) (by omega))) ?_
   rintro _ w8 ⟨rfl, hb7⟩
   replace hM := hM.call hb7
   refine ⟨_, rfl, ?_⟩
   intro a hA
   refine qb (v := .bool false) hA rfl rfl rfl (ql rfl qp) ?_
   intro a hA
   refine qa ?_
   refine hK5 _ _ ?_
   refine wp_cond_false (hA.ev rfl) ?_
   refine wp_skip ?_
   refine hK4 _ _ ?_
   refine wp_seq_k (fun K9 hK9 => ?_)
   refine wp_seq_k (fun K10 hK10 => ?_)
   refine wp_region_lit ?_
   refine qb hA rfl rfl rfl (zy hM xi rfl 0 rfl (cs := (t.d.cells t.ts.length)) rfl rfl) ?_
   intro a hA
   rcases Bool.eq_false_or_eq_true ((jk n t.tr).isSome) with hb11 | hb11
   · refine qz hA rfl rfl rfl (qk rfl rfl (fun w => by kernel_rfl)) (qme n hn hM.bel ht (um hb6) hb hb11) ?_
     rintro _ w13 ⟨rfl, hb12⟩
     replace hM := hM.call hb12
     refine ⟨_, rfl, ?_⟩
     intro a hA
     refine qb (v := .bool false) hA rfl rfl rfl (ql rfl qp) ?_
     intro a hA
     refine qa ?_
     refine hK10 _ _ ?_
     refine wp_cond_false (hA.ev rfl) ?_
     refine wp_skip ?_
     refine hK9 _ _ ?_
     refine wp_seq_k (fun K14 hK14 => ?_)
     refine wp_seq_k (fun K15 hK15 => ?_)
     refine wp_region_lit ?_
     refine qb hA rfl rfl rfl (qg rfl) ?_
     intro a hA
     rcases Bool.eq_false_or_eq_true (l.any vf) with hb16 | hb16
     · refine qz hA rfl rfl rfl (qk rfl rfl (fun w => by kernel_rfl)) ((show Calls Tryz.prog 40 #[.slice sv l.length cv] _ (fun e w' => e = .returned (.bool false) ∧ Below _ _ w') from (by have h9 := qqd (cv := cv) (hv.below hM.bel) hll; rw [hb16] at h9; exact h9))) ?_
       rintro _ w18 ⟨rfl, hb17⟩
       replace hM := hM.call hb17
       refine ⟨_, rfl, ?_⟩
       intro a hA
       refine qb (v := .bool true) hA rfl rfl rfl (ql rfl qp) ?_
       intro a hA
       refine qa ?_
       refine hK15 _ _ ?_
       refine wp_cond_true (hA.ev rfl) ?_
       refine wp_seq_k (fun K19 hK19 => ?_)
       refine wp_region_lit ?_
       refine qb hA rfl rfl rfl (qe rfl) ?_
       intro a hA
       refine qb hA rfl rfl rfl (qe rfl) ?_
       intro a hA
       refine qa ?_
       refine hK19 _ _ ?_
       refine wp_ret ?_
       refine hret _ _ ?_
       refine je (v := .tuple #[.bool false, .int .i64 1]) hA rfl (.cons (qj rfl) (.cons (qj rfl) .nil)) rfl ?_
       obtain ⟨p9, hp9⟩ := Option.isSome_iff_exists.1 hb11
       exact ⟨by rw [zeh hb6 hp9 hb16], hM.bel⟩
     · refine qz hA rfl rfl rfl (qk rfl rfl (fun w => by kernel_rfl)) ((show Calls Tryz.prog 40 #[.slice sv l.length cv] _ (fun e w' => e = .returned (.bool true) ∧ Below _ _ w') from (by have h9 := qqd (cv := cv) (hv.below hM.bel) hll; rw [hb16] at h9; exact h9))) ?_
       rintro _ w21 ⟨rfl, hb20⟩
       replace hM := hM.call hb20
       refine ⟨_, rfl, ?_⟩
       intro a hA
       refine qb (v := .bool false) hA rfl rfl rfl (ql rfl qp) ?_
       intro a hA
       refine qa ?_
       refine hK15 _ _ ?_
       refine wp_cond_false (hA.ev rfl) ?_
       refine wp_skip ?_
       refine hK14 _ _ ?_
       refine wp_seq_k (fun K22 hK22 => ?_)
       refine wp_region_lit ?_
       refine qb hA rfl rfl rfl (qg rfl) ?_
       intro a hA
       refine qb hA rfl rfl rfl (zy hM xi rfl 0 rfl (cs := (t.d.cells t.ts.length)) rfl rfl) ?_
       intro a hA
       refine qz hA rfl rfl rfl (qk rfl rfl (fun w => by kernel_rfl)) (qqh n hn hM.bel ht (um hb6) hb hv hll hb11 rfl) ?_
       rintro _ w24 ⟨rfl, hb23⟩
       replace hM := hM.call hb23
       refine ⟨_, rfl, ?_⟩
       intro a hA
       refine qb hA rfl rfl rfl (qe rfl) ?_
       intro a hA
       refine qb hA rfl rfl rfl (qe rfl) ?_
       intro a hA
       refine qa ?_
       refine hK22 _ _ ?_
       refine wp_ret ?_
       refine hret _ _ ?_
       refine je (v := .tuple #[.bool (vF (jk n t.tr) l), .int .i64 0]) hA rfl (.cons (qj rfl) (.cons (qj rfl) .nil)) rfl ?_
       obtain ⟨p9, hp9⟩ := Option.isSome_iff_exists.1 hb11
       exact ⟨by rw [zla hb6 hp9 hb16, hp9]; rfl, hM.bel⟩
   · refine qz hA rfl rfl rfl (qk rfl rfl (fun w => by kernel_rfl)) (qme n hn hM.bel ht (um hb6) hb hb11) ?_
     rintro _ w26 ⟨rfl, hb25⟩
     replace hM := hM.call hb25
     refine ⟨_, rfl, ?_⟩
     intro a hA
     refine qb (v := .bool true) hA rfl rfl rfl (ql rfl qp) ?_
     intro a hA
     refine qa ?_
     refine hK10 _ _ ?_
     refine wp_cond_true (hA.ev rfl) ?_
     refine wp_seq_k (fun K27 hK27 => ?_)
     refine wp_region_lit ?_
     refine qb hA rfl rfl rfl (qe rfl) ?_
     intro a hA
     refine qb hA rfl rfl rfl (qe rfl) ?_
     intro a hA
     refine qa ?_
     refine hK27 _ _ ?_
     refine wp_ret ?_
     refine hret _ _ ?_
     refine je (v := .tuple #[.bool false, .int .i64 12]) hA rfl (.cons (qj rfl) (.cons (qj rfl) .nil)) rfl ?_
     exact ⟨by rw [qpj hb6 (vn hb11)], hM.bel⟩
 · refine qz hA rfl rfl rfl (qk rfl rfl (fun w => by kernel_rfl)) ((hb6 ▸ rsound_any (t := t) (Dt.keep hM.bel _ ht) (by omega))) ?_
   rintro _ w29 ⟨rfl, hb28⟩
   replace hM := hM.call hb28
   refine ⟨_, rfl, ?_⟩
   intro a hA
   refine qb (v := .bool true) hA rfl rfl rfl (ql rfl qp) ?_
   intro a hA
   refine qa ?_
   refine hK5 _ _ ?_
   refine wp_cond_true (hA.ev rfl) ?_
   refine wp_seq_k (fun K30 hK30 => ?_)
   refine wp_region_lit ?_
   refine qb hA rfl rfl rfl (qe rfl) ?_
   intro a hA
   refine qb hA rfl rfl rfl (qe rfl) ?_
   intro a hA
   refine qa ?_
   refine hK30 _ _ ?_
   refine wp_ret ?_
   refine hret _ _ ?_
   refine je (v := .tuple #[.bool false, .int .i64 2]) hA rfl (.cons (qj rfl) (.cons (qj rfl) .nil)) rfl ?_
   exact ⟨by rw [qyf hb6], hM.bel⟩
theorem zde {w : World} {n : Nat} {t : Dt} {l : List Int} {sv : Option Addr} {cv : Nat} (ht : t.rd w) (hb : t.tr.bulk ≤ n) (hn : n ≤ 4000000) (hv : Rc w sv (izC l)) (hll : l.length ≤ 2000000) (hT8 : Tabs8 w) : Calls Tryz.prog 13 #[.slice sv l.length cv, .agg (t.d.cells t.ts.length).toArray] w fun e w' => ∃ b k, qfd n l t.tr = (b, k) ∧ e = .returned (.tuple #[.bool b, .int .i64 k]) ∧ Below w.heap.size w w' :=
  (qyg ht hT8 hb hn hv hll).mono fun e w' h => ⟨_, _, rfl, h.1, h.2⟩
theorem qzj {w : World} {n : Nat} {t : Dt} {l : List Int} {sv : Option Addr} {cv : Nat} (ht : t.rd w) (hb : t.tr.bulk ≤ n) (hn : n ≤ 4000000) (hv : Rc w sv (izC l)) (hll : l.length ≤ 2000000) {b : Bool} {k : Int} (h : qfd n l t.tr = (b, k)) : Calls Tryz.prog 14 #[.slice sv l.length cv, .agg (t.d.cells t.ts.length).toArray] w fun e w' => e = .returned (.tuple #[.bool b, .int .i64 k]) ∧ Below w.heap.size w w' := by
  have h9 := qud (cv := cv) ht hb hn hv hll
  rw [h] at h9
  exact h9
theorem que {w : World} {l : List Int} {sv : Option Addr} {cv : Nat} {t : Dt} (hv : Rc w sv (izC l)) (hll : l.length ≤ 2000000) (ht : t.rd w) (hT8 : Tabs8 w) (hb : t.tr.bulk ≤ 1048576) : Calls Tryz.prog 4 #[.slice sv l.length cv, .agg (t.d.cells t.ts.length).toArray] w fun e w' => e = .returned (.bool true) ∧ Below w.heap.size w w' := by
 have hM : Mg w w ([]) := Mg.start w
 refine qx (l := [(0, .slice sv l.length cv), (1, .agg (t.d.cells t.ts.length).toArray)]) Tryz.func4 rfl Tryz.ntmps4 rfl rfl ?_
 intro Q hret hnorm hP a hA
 refine wp_seq_k (fun K1 hK1 => ?_)
 refine wp_region_lit ?_
 refine jl (vs := (t.d.cells t.ts.length)) (t := 30) hA hM rfl rfl rfl (fun g => .pointer (some ⟨g, 0, none⟩)) (zd rfl rfl) (by decide) ?_
 intro g2 w3 hM a hA
 refine qb hA rfl rfl rfl (qe rfl) ?_
 intro a hA
 refine qa ?_
 refine hK1 _ _ ?_
 refine wp_seq_k (fun K4 hK4 => ?_)
 refine wp_region_lit ?_
 refine qb hA rfl rfl rfl (qg rfl) ?_
 intro a hA
 refine qb hA rfl rfl rfl (zy hM xi rfl 0 rfl (cs := (t.d.cells t.ts.length)) rfl rfl) ?_
 intro a hA
 refine qz hA rfl rfl rfl (qk rfl rfl (fun w => by kernel_rfl)) (zde (n := 1048576) (cv := cv) (Dt.keep hM.bel _ ht) hb (by decide) (hv.below hM.bel) hll (hT8.below hM.bel)) ?_
 rintro _ w6 ⟨b9, k9, hver, rfl, hb5⟩
 replace hM := hM.call hb5
 refine ⟨_, rfl, ?_⟩
 intro a hA
 refine qb hA rfl rfl rfl (qg rfl) ?_
 intro a hA
 refine qb (v := .bool b9) hA rfl rfl rfl (qi (vs := [.bool b9, .int .i64 k9]) rfl rfl) ?_
 intro a hA
 refine qb (v := .int .i64 k9) hA rfl rfl rfl (qi (vs := [.bool b9, .int .i64 k9]) rfl rfl) ?_
 intro a hA
 refine qb hA rfl rfl rfl (qe rfl) ?_
 intro a hA
 refine qb hA rfl rfl rfl (qe rfl) ?_
 intro a hA
 refine qa ?_
 refine hK4 _ _ ?_
 refine wp_seq_k (fun K7 hK7 => ?_)
 refine wp_region_lit ?_
 refine qb hA rfl rfl rfl (qg rfl) ?_
 intro a hA
 refine qb hA rfl rfl rfl (zy hM xi rfl 0 rfl (cs := (t.d.cells t.ts.length)) rfl rfl) ?_
 intro a hA
 refine qz hA rfl rfl rfl (qk rfl rfl (fun w => by kernel_rfl)) (qzj (n := 1048576) (cv := cv) (Dt.keep hM.bel _ ht) hb (by decide) (hv.below hM.bel) hll hver) ?_
 rintro _ w9 ⟨rfl, hb8⟩
 replace hM := hM.call hb8
 refine ⟨_, rfl, ?_⟩
 intro a hA
 refine qb hA rfl rfl rfl (qg rfl) ?_
 intro a hA
 refine qb (v := .bool b9) hA rfl rfl rfl (qi (vs := [.bool b9, .int .i64 k9]) rfl rfl) ?_
 intro a hA
 refine qb (v := .int .i64 k9) hA rfl rfl rfl (qi (vs := [.bool b9, .int .i64 k9]) rfl rfl) ?_
 intro a hA
 refine qb hA rfl rfl rfl (qe rfl) ?_
 intro a hA
 refine qb hA rfl rfl rfl (qe rfl) ?_
 intro a hA
 refine qa ?_
 refine hK7 _ _ ?_
 refine wp_seq_k (fun K10 hK10 => ?_)
 refine wp_region_lit ?_
 refine qz hA rfl rfl rfl (qk rfl rfl (fun w => by kernel_rfl)) (zia) ?_
 rintro _ w12 ⟨rfl, hb11⟩
 replace hM := hM.call hb11
 refine ⟨_, rfl, ?_⟩
 intro a hA
 refine qb hA rfl rfl rfl (qg rfl) ?_
 intro a hA
 refine qb hA rfl rfl rfl (qg rfl) ?_
 intro a hA
 refine qb hA rfl rfl rfl (qg rfl) ?_
 intro a hA
 refine qb (v := .bool true) hA rfl rfl rfl (qh rfl rfl (fun w => ((quh Tryz.underlying4) w).trans (by rw [show ((b9 == b9)) = true from (by simp)]))) ?_
 intro a hA
 refine qb (v := .bool true) hA rfl rfl rfl (zm rfl rfl rfl rfl) ?_
 intro a hA
 refine qb hA rfl rfl rfl (qg rfl) ?_
 intro a hA
 refine qb hA rfl rfl rfl (qg rfl) ?_
 intro a hA
 refine qb hA rfl rfl rfl (qg rfl) ?_
 intro a hA
 refine qb (v := .bool true) hA rfl rfl rfl (qh rfl rfl (fun w => (qt w).trans (by rw [show ((k9 == k9)) = true from (by simp)]))) ?_
 intro a hA
 refine qb (v := .bool true) hA rfl rfl rfl (zm rfl rfl rfl rfl) ?_
 intro a hA
 refine qb hA rfl rfl rfl (qe rfl) ?_
 intro a hA
 refine qa ?_
 refine hK10 _ _ ?_
 refine wp_ret ?_
 refine hret _ _ ?_
 refine je (v := .bool true) hA rfl (.cons (qj rfl) .nil) rfl ?_
 exact ⟨rfl, hM.bel⟩
end Go.Proofs.YtoopkbedjbnhhaaGreatDoor.G
namespace Go.Proofs.YtoopkbedjbnhhaaGreatDoor

section
variable {H : Type}
theorem zaa (d : DataW H) : 0 < Rows.uptoBulk d := by
  unfold Rows.uptoBulk
  split <;> omega
theorem zab : ∀ l : List (DataW H), l.length ≤ Rows.uptoBulkAll l
  | [] => by simp
  | d :: l => by
    have h1 := zaa d
    have h2 := zab l
    simp only [Rows.uptoBulkAll, List.length_cons]
    omega
theorem qmj (xs ys : List (DataW H)) : xs.length ≤ Rows.uptoBulk (.slice xs ys) := by
  have := zab xs
  simp only [Rows.uptoBulk]
  omega
theorem zff {d : DataW H} : ∀ {l : List (DataW H)}, d ∈ l → Rows.uptoBulk d ≤ Rows.uptoBulkAll l
  | c :: l, h => by
    simp only [Rows.uptoBulkAll]
    rcases List.mem_cons.1 h with rfl | h
    · omega
    · have := zff h
      omega
theorem zfg {l : List (DataW H)} (hk : Rows.uptoSmall H l = true) {j : Nat} {d : DataW H} (hd : l[j]? = some d) : Rows.uptoBulk d ≤ 1048576 :=
  Nat.le_trans (zff (List.mem_of_getElem? hd)) (of_decide_eq_true hk)
end
end Go.Proofs.YtoopkbedjbnhhaaGreatDoor
namespace Go.Proofs.YtoopkbedjbnhhaaGreatDoor.G
open Go.ChangeShapes Go.WideShapes Go.ChangeAt Go.RowKit Go.Joins Go.Deep
set_option maxRecDepth 100000

section
variable {H : Type} {enc : TypeId × Value → H} {W : World}
end
theorem zib {w : World} {x : Addr} {len cap : Nat} {zs : List Int} (hl : len ≤ cap) (hz : zs.length = cap)
    (hc : ∀ i, i < zs.length → w.cell? (x.add i) = some (.int .u8 (zs.getD i 0))) (hw : ∀ n ∈ zs, (Lit.int .u8 n).wf = true) :
    ∃ l : List UInt8, l.length = len ∧ Rb w (some x) l := by
  have hbd : ∀ n ∈ zs, 0 ≤ n ∧ n < 256 := by
    intro n hn
    have := bounds_u8 (hw n hn)
    omega
  refine ⟨(zs.take len).map b8, by rw [List.length_map, List.length_take]; omega, ⟨fun hne => ?_⟩⟩
  have hlen : ((zs.take len).map b8).length = len := by rw [List.length_map, List.length_take]; omega
  have h0 : 0 < len := by
    apply Classical.byContradiction
    intro h
    have : len = 0 := by omega
    subst this
    simp at hne
  obtain ⟨b, off, spot⟩ := x
  have hspot : spot = none := by
    have := hc 0 (by omega)
    simp only [World.cell?, Addr.add] at this
    split at this
    · cases spot with
      | none => rfl
      | some s => simp at this
    · cases this
  subst hspot
  have hcj : ∀ j, j < len → w.cell? ⟨b, off + j, none⟩ = some (.int .u8 (((((zs.take len).map b8).getD j 0).toNat : Nat) : Int)) := by
    intro j hj
    have h1 := hc j (by omega)
    rw [Addr.add_lit] at h1
    rw [h1]
    have hjz : j < zs.length := by omega
    have h2 := hbd zs[j] (List.getElem_mem hjz)
    have e1 : zs.getD j 0 = zs[j] := by simp [hjz]
    have e2 : ((zs.take len).map b8).getD j 0 = b8 zs[j] := by simp [List.getD_eq_getElem?_getD, hj, hjz]
    rw [e1, e2, zrg h2.1 h2.2]
  refine ⟨b, off, rfl, ?_, fun j hj => hcj j (by omega)⟩
  have := hcj 0 h0
  apply Classical.byContradiction
  intro h
  simp [World.cell?, Array.getElem?_eq_none (Nat.le_of_not_lt h)] at this
section
variable {H : Type} {enc : TypeId × Value → H} {W : World}
end
theorem Rb.take {w : World} {so : Option Addr} {l : List UInt8} (h : Rb w so l) (n : Nat) : Rb w so (l.take n) := by
  refine ⟨fun hne => ?_⟩
  obtain ⟨b, off, h1, h2, h3⟩ := h.pos (fun k => hne (by rw [k]; simp))
  refine ⟨b, off, h1, h2, fun j hj => ?_⟩
  rw [List.length_take] at hj
  rw [h3 j (by omega), List.getD_eq_getElem?_getD, List.getD_eq_getElem?_getD, List.getElem?_take_of_lt (by omega)]
section
variable {P : Program} {w : World} {l : List (Nat × Value)} {dst : Option Tmp} {ty : TypeId} {pos : String} {after : Array Edge} {guard : Option (Nat × Bool)}
end
def Nu.cells (y : Nu) : List Value := [.bool y.q.b1, .slice y.o1 y.q.t1.length y.c1, .slice y.o2 y.q.q1.length y.c2, .bool y.q.b2, .slice y.o3 y.q.t2.length y.c3, .slice y.o4 y.q.q2.length y.c4]
theorem zmg {w : World} {b o : Nat} {v : Value} (h : w.cell? ⟨b, o, none⟩ = some v) : b < w.heap.size := by
  apply Classical.byContradiction
  intro k
  simp [World.cell?, Array.getElem?_eq_none (Nat.le_of_not_lt k)] at h
section
variable {H : Type} {enc : TypeId × Value → H} {W : World}
theorem qna (l : List (DataW H)) : Rows.uptoBulk (.agg l) = Rows.uptoBulkAll l + 1 := by simp only [Rows.uptoBulk]
theorem zac {fuel : Nat} {v : Value} {x : DataW H × List MemPlace} (h : DataW.trod enc Tryz.prog W 0 (fun _ => true) true fuel 27 [v] = some x) : ∃ so cap l, v = .slice so (l : List UInt8).length cap ∧ Rb W so l ∧ l.length ≤ cap ∧ cap ≤ 9223372036854775807 ∧ l.length ≤ Rows.uptoBulk x.1 := by
  rcases open_ints Tryz.underlying27 Tryz.underlying5 (by kernel_rfl) h with ⟨hcs, _⟩ | ⟨x, l, c, zs, hcs, _, hl, hm, hz, hx, hcell, hwz⟩
  · simp only [List.cons.injEq, and_true] at hcs
    subst hcs
    exact ⟨none, 0, [], rfl, ⟨fun k => absurd rfl k⟩, Nat.le_refl _, by decide, Nat.zero_le _⟩
  · simp only [List.cons.injEq, and_true] at hcs
    subst hcs
    obtain ⟨us, e, ha⟩ := zib hl (by simpa using hz) hcell hwz
    subst e
    subst hx
    refine ⟨_, _, us, rfl, ha, hl, hm, ?_⟩
    simp only [if_true] at hz
    refine Nat.le_trans ?_ (qmj _ _)
    simp only [lits, List.length_map, List.length_take, List.length_drop]
    omega
theorem qhf {fuel : Nat} {v : Value} {x : DataW H × List MemPlace} (h : DataW.trod enc Tryz.prog W 0 (fun _ => true) true fuel 22 [v] = some x) : ∃ ao c l, v = .slice ao (l : List Nat).length c ∧ Arg W ao c l ∧ l.length ≤ Rows.uptoBulk x.1 := by
  rcases open_ints Tryz.underlying22 Tryz.underlying161 (by kernel_rfl) h with ⟨hcs, _⟩ | ⟨x, l, c, zs, hcs, _, hl, hm, hz, hx, hcell, hwz⟩
  · cases hcs
    exact ⟨none, 0, [], rfl, arg_nil W, Nat.zero_le _⟩
  · cases hcs
    obtain ⟨us, e, ha⟩ := arg_row hl hm (by simpa using hz) hcell hwz
    subst e
    subst hx
    refine ⟨_, _, us, rfl, ha, ?_⟩
    simp only [if_true] at hz
    refine Nat.le_trans ?_ (qmj _ _)
    simp only [lits, List.length_map, List.length_take, List.length_drop]
    omega
theorem qqj {fuel : Nat} {v0 v1 v2 : Value} {x : DataW H × List MemPlace} (h : DataW.trod enc Tryz.prog W 0 (fun _ => true) true fuel 24 [v0, v1, v2] = some x) : ∃ b o1 c1 l1 o2 c2 l2, v0 = .bool b ∧ v1 = .slice o1 (l1 : List Nat).length c1 ∧ v2 = .slice o2 (l2 : List Nat).length c2 ∧ Arg W o1 c1 l1 ∧ Arg W o2 c2 l2 ∧ l1.length + l2.length ≤ Rows.uptoBulk x.1 := by
  obtain ⟨y0, y1, y2, n, hx, _, h0, h1, h2⟩ := trod_struct3 Tryz.underlying24 h
  have e0 : Tryz.prog.cellsOf 4 = 1 := by kernel_rfl
  have e1 : Tryz.prog.cellsOf 22 = 1 := by kernel_rfl
  simp only [e0, e1, List.drop_zero, List.take_succ_cons, List.take_zero, List.drop_succ_cons] at h0 h1 h2
  obtain ⟨b, rfl⟩ := trod_bool h0
  obtain ⟨o1, c1, l1, rfl, a1, k1⟩ := qhf h1
  obtain ⟨o2, c2, l2, rfl, a2, k2⟩ := qhf h2
  refine ⟨b, o1, c1, l1, o2, c2, l2, rfl, rfl, rfl, a1, a2, ?_⟩
  rw [hx, qna]
  simp only [Rows.uptoBulkAll]
  omega
theorem zic {fuel : Nat} {cs : List Value} {x : DataW H × List MemPlace} (hl : cs.length = 6) (h : DataW.trod enc Tryz.prog W 0 (fun _ => true) true fuel 26 cs = some x) :
    ∃ y : Nu, cs = y.cells ∧ y.nm W ∧ LenQ y.q ∧ y.q.t1.length + y.q.q1.length + (y.q.t2.length + y.q.q2.length) ≤ Rows.uptoBulk x.1 := by
  match cs, hl with
  | [v0, v1, v2, v3, v4, v5], _ =>
    obtain ⟨y0, y1, n, hx, _, h0, h1⟩ := trod_struct2 Tryz.underlying26 h
    have e : Tryz.prog.cellsOf 24 = 3 := by kernel_rfl
    simp only [e, List.drop_zero, List.take_succ_cons, List.take_zero, List.drop_succ_cons] at h0 h1
    obtain ⟨b1, o1, c1, l1, o2, c2, l2, rfl, rfl, rfl, a1, a2, k1⟩ := qqj h0
    obtain ⟨b2, o3, c3, l3, o4, c4, l4, rfl, rfl, rfl, a3, a4, k2⟩ := qqj h1
    refine ⟨⟨⟨b1, l1, l2, b2, l3, l4⟩, o1, c1, o2, c2, o3, c3, o4, c4⟩, rfl, ⟨⟨a1.rd, a1.nil, a1.caps⟩, ⟨a2.rd, a2.nil, a2.caps⟩, ⟨a3.rd, a3.nil, a3.caps⟩, ⟨a4.rd, a4.nil, a4.caps⟩⟩, ⟨a1.len, a2.len, a3.len, a4.len⟩, ?_⟩
    rw [hx, qna]
    simp only [Rows.uptoBulkAll]
    omega
def OpenD (H : Type) (enc : TypeId × Value → H) (W : World) (fuel : Nat) : Prop := ∀ (cs : List Value) (x : DataW H × List MemPlace), DataW.trod enc Tryz.prog W 0 (fun _ => true) true fuel 30 cs = some x → ∃ t : Dt, cs = t.cells ∧ t.rd W ∧ t.tr.bulk ≤ Rows.uptoBulk x.1
theorem zdf {fuel : Nat} {v : Value} {x : DataW H × List MemPlace} (ih : ∀ n, n < fuel → OpenD H enc W n) (h : DataW.trod enc Tryz.prog W 0 (fun _ => true) true fuel 28 [v] = some x) :
    ∃ lo lc ts, v = .slice lo (ts : List Dt).length lc ∧ ts.length ≤ lc ∧ lc ≤ 9223372036854775807 ∧ Rt W lo ts ∧ (∀ t ∈ ts, t.rd W) ∧ Tr.bulks (ts.map Dt.tr) ≤ Rows.uptoBulk x.1 := by
  rcases DataW.trod_slice Tryz.underlying28 h with ⟨hcs, _⟩ | ⟨a, len, cap, elems, rest, n, hf, hcs, hx, _, hl, hm, hlen, hel, _, _⟩
  · simp only [List.cons.injEq, and_true] at hcs
    subst hcs
    exact ⟨none, 0, [], rfl, Nat.le_refl _, by decide, fun k => absurd rfl k, fun _ k => by simp at k, Nat.zero_le _⟩
  · simp only [List.cons.injEq, and_true] at hcs
    subst hcs
    rw [show Tryz.prog.cellsOf 30 = 11 from by kernel_rfl] at hel
    have each : ∀ i, ∃ t : Dt, i < len → t.rd W ∧ (∀ j v, t.cells[j]? = some v → W.cell? ((a.add (i * 11)).add j) = some v) ∧ ∃ y, elems[i]? = some y ∧ t.tr.bulk ≤ Rows.uptoBulk y.1 := by
      intro i
      by_cases hi : i < len
      · have h1 := hel i hi
        rw [List.getElem?_eq_getElem (by omega)] at h1
        obtain ⟨cs, h2, h3⟩ := Option.bind_eq_some_iff.1 h1
        obtain ⟨_, hlc, hcell⟩ := World.cells?_some h2
        obtain ⟨t, rfl, hr, hb⟩ := ih n (by omega) cs _ h3
        exact ⟨t, fun _ => ⟨hr, fun j v hj => by rw [hcell j (by have := (List.getElem?_eq_some_iff.1 hj).1; rw [hlc] at this; exact this)]; exact hj, _, List.getElem?_eq_getElem (by omega), hb⟩⟩
      · exact ⟨.mk ⟨0, 0, ⟨⟨false, [], [], false, [], []⟩, none, 0, none, 0, none, 0, none, 0⟩, ⟨#[]⟩, none, 0, [], none, 0⟩ [], fun k => absurd k hi⟩
    obtain ⟨F, hF⟩ := Classical.skolem.1 each
    have hget : ∀ (j : Nat) (q : Dt), ((List.range len).map F)[j]? = some q → j < len ∧ q = F j := by
      intro j q hq
      rw [List.getElem?_map] at hq
      obtain ⟨y, h1, h2⟩ := Option.map_eq_some_iff.1 hq
      obtain ⟨h3, h4⟩ := List.getElem?_eq_some_iff.1 h1
      rw [List.length_range] at h3
      rw [List.getElem_range] at h4
      subst h4
      exact ⟨h3, h2.symm⟩
    refine ⟨some a, cap, (List.range len).map F, by simp, by simpa using hl, hm, fun hne => ?_, fun t ht => ?_, ?_⟩
    · have hn : 0 < len := by
        apply Classical.byContradiction
        intro k
        exact hne (by rw [show len = 0 from by omega]; rfl)
      obtain ⟨b, off, spot⟩ := a
      have h0 := (hF 0 hn).2.1 0 _ rfl
      have hspot : spot = none := by simpa [Addr.add] using World.cell?_spot h0
      subst hspot
      refine ⟨b, off, rfl, fun i t hi => ?_⟩
      obtain ⟨hlt, rfl⟩ := hget i t hi
      have hat : ∀ j v, (F i).cells[j]? = some v → W.cell? ⟨b, off + i * 11 + j, none⟩ = some v := fun j v hj => by
        have := (hF i hlt).2.1 j v hj
        rwa [Addr.add_lit, Addr.add_lit] at this
      exact ⟨zmg (hat 0 _ rfl), hat⟩
    · obtain ⟨j, hj⟩ := List.mem_iff_getElem?.1 ht
      obtain ⟨h1, rfl⟩ := hget j t hj
      exact (hF j h1).1
    · rw [hx]
      have key : ∀ m, m ≤ len → Tr.bulks (((List.range m).map F).map Dt.tr) ≤ Rows.uptoBulkAll ((elems.map (·.1)).take m) := by
        intro m
        induction m with
        | zero => intro _; simp [Tr.bulks]
        | succ m ih2 =>
          intro hm2
          have hs : ∀ (l : List Tr) (t : Tr), Tr.bulks (l ++ [t]) = Tr.bulks l + t.bulk := by
            intro l t
            induction l with
            | nil => simp [Tr.bulks]
            | cons u l ih3 => simp only [List.cons_append, Tr.bulks, ih3]; omega
          have hu : ∀ (l : List (DataW H)) (d : DataW H), Rows.uptoBulkAll (l ++ [d]) = Rows.uptoBulkAll l + Rows.uptoBulk d := by
            intro l d
            induction l with
            | nil => simp [Rows.uptoBulkAll]
            | cons u l ih3 => simp only [List.cons_append, Rows.uptoBulkAll, ih3]; omega
          obtain ⟨_, _, y, hy, hb⟩ := hF m (by omega)
          have := ih2 (by omega)
          rw [List.range_succ, List.map_append, List.map_append, List.take_add_one, List.getElem?_map, hy]
          simp only [List.map_cons, List.map_nil, Option.map_some, Option.toList_some]
          rw [hs, hu]
          omega
      have h1 := key len (Nat.le_refl _)
      rw [List.take_of_length_le (by rw [List.length_map]; omega)] at h1
      simp only [Rows.uptoBulk]
      omega
theorem zqh : ∀ fuel, OpenD H enc W fuel := by
  intro fuel
  induction fuel using Nat.strongRecOn with
  | ind fuel ih =>
    intro cs x h
    obtain ⟨xs, n, hfu, hx, hl, hxl, hf⟩ := DataW.trod_struct Tryz.underlying30 h
    rw [show Tryz.prog.cellsOf 30 = 11 from by kernel_rfl] at hl
    match cs, hl with
    | [v0, v1, v2, v3, v4, v5, v6, v7, v8, v9, v10], _ =>
      match xs, hxl with
      | [x0, x1, x2, x3, x4, x5], _ =>
        have g0 := hf 0 _ rfl
        have g1 := hf 1 _ rfl
        have g2 := hf 2 _ rfl
        have g3 := hf 3 _ rfl
        have g4 := hf 4 _ rfl
        have g5 := hf 5 _ rfl
        have c1 : Tryz.prog.cellsOf 3 = 1 := by kernel_rfl
        have c2 : Tryz.prog.cellsOf 26 = 6 := by kernel_rfl
        have c3 : Tryz.prog.cellsOf 9 = 1 := by kernel_rfl
        have c4 : Tryz.prog.cellsOf 27 = 1 := by kernel_rfl
        have c5 : Tryz.prog.cellsOf 28 = 1 := by kernel_rfl
        simp only [c1, c2, c3, c4, c5, List.drop_zero, List.take_succ_cons, List.take_zero, List.drop_succ_cons, List.getElem?_cons_zero, List.getElem?_cons_succ] at g0 g1 g2 g3 g4 g5
        obtain ⟨k, e0, _, w0⟩ := DataW.trod_int Tryz.underlying3 g0
        obtain ⟨m, e1, _, w1⟩ := DataW.trod_int Tryz.underlying3 g1
        obtain ⟨y, e2, hy, hq, b2⟩ := zic rfl g2
        obtain ⟨s, e3, hs, hsm⟩ := DataW.trod_string Tryz.underlying9 g3
        obtain ⟨ro, rc, rl, e4, hr, hrc, hrm, b4⟩ := zac g4
        obtain ⟨lo, lc, ts, e5, hlc, hlm, hrt, hrd, b5⟩ := zdf (fun n' hn' => ih n' (by omega)) g5
        have bk := bounds_i64 w0
        have bm := bounds_i64 w1
        refine ⟨.mk ⟨k, m, y, s, ro, rc, rl, lo, lc⟩ ts, ?_, ?_, ?_⟩
        · injection e0 with f0
          injection e1 with f1
          injection e3 with f3
          injection e2 with e20 g
          injection g with e21 g
          injection g with e22 g
          injection g with e23 g
          injection g with e24 g
          injection g with e25 g
          subst f0 f1 f3 e4 e5 e20 e21 e22 e23 e24 e25
          rfl
        · rw [Dt.rd_iff]
          exact ⟨⟨hy, hq, hr, hrc, hrm, bk.1, bk.2, bm.1, bm.2, hsm⟩, hlc, hlm, hrt, hrd⟩
        · rw [Dt.tr_mk, qbe, hx, qna]
          have h3 : Rows.uptoBulk x3.1 = s.size + 1 := by
            rw [hs]
            rw [show Rows.uptoBulk (DataW.lit (H := H) (.string s.data.toList)) = s.data.toList.length + 1 from by simp only [Rows.uptoBulk], Array.length_toList]
            rfl
          simp only [List.map_cons, List.map_nil, Rows.uptoBulkAll]
          have := zaa x0.1
          omega
theorem zdg {base : Nat} {v : Value} {d : DataW H} {p : List MemPlace} (hv : Value.okWide Tryz.prog W .any base 30 v) (h : DataW.Trod enc Tryz.prog W 0 (fun _ => true) true 30 v d p) :
    ∃ t : Dt, v = .agg t.cells.toArray ∧ t.rd W ∧ t.tr.bulk ≤ Rows.uptoBulk d := by
  obtain ⟨cs, rfl, hsz⟩ := okWide_struct Tryz.underlying30 hv
  obtain ⟨fuel, hf⟩ := h
  obtain ⟨t, e, hr, hb⟩ := zqh fuel _ _ hf
  refine ⟨t, ?_, hr, hb⟩
  rw [← e]
  rfl
end
theorem zqi {w : World} {x : Addr} {vs : List Value} (hc : ∀ (i : Nat) v, vs[i]? = some v → w.cell? (x.add i) = some v) : Rc w (some x) vs := by
  intro hne
  obtain ⟨v, h0⟩ : ∃ v, vs[0]? = some v := by
    cases vs with
    | nil => exact absurd rfl hne
    | cons v t => exact ⟨v, rfl⟩
  obtain ⟨b, off, spot⟩ := x
  have hspot : spot = none := by
    have h2 := hc 0 v h0
    simp only [World.cell?, Addr.add] at h2
    split at h2
    · cases spot with
      | none => rfl
      | some s => simp at h2
    · cases h2
  subst hspot
  refine ⟨b, off, rfl, fun p u hp => ?_⟩
  have h2 := hc p u hp
  rw [Addr.add_lit] at h2
  exact h2
section
variable {H : Type} {enc : TypeId × Value → H} {W : World}
theorem zdh {fuel : Nat} {v : Value} {y : DataW H × List MemPlace} (hf : DataW.trod enc Tryz.prog W 0 (fun _ => true) true fuel 38 [v] = some y) :
    ∃ so cap l, v = .slice so (l : List Int).length cap ∧ Rc W so (G.izC l) ∧ l.length ≤ Rows.uptoBulk y.1 := by
  rcases DataW.trod_slice Tryz.underlying38 hf with ⟨hcs, _⟩ | ⟨x, len, cap, elems, rest, m, _, hcs, hx, _, hl, hm, hlen, hel, _, _⟩
  · simp at hcs
    subst hcs
    exact ⟨none, 0, [], rfl, fun h => absurd rfl h, Nat.zero_le _⟩
  · simp at hcs
    subst hcs
    subst hx
    have each : ∀ i, ∃ z : Int, i < len → W.cell? (x.add i) = some (.int .i64 z) := by
      intro i
      by_cases hi : i < len
      · have hE := hel i hi
        rw [show Tryz.prog.cellsOf 3 = 1 by kernel_rfl, Nat.mul_one] at hE
        rw [List.getElem?_eq_getElem (by omega), Option.bind_eq_some_iff] at hE
        obtain ⟨c1, hc1, hy1⟩ := hE
        obtain ⟨z, rfl, _⟩ := DataW.trod_int Tryz.underlying3 hy1
        exact ⟨z, fun _ => cell_of_cells?_one hc1⟩
      · exact ⟨0, fun k => absurd k hi⟩
    obtain ⟨F, hF⟩ := Classical.skolem.1 each
    refine ⟨some x, cap, (List.range len).map F, by simp, zqi fun i v hi => ?_, ?_⟩
    · have hlt := (List.getElem?_eq_some_iff.1 hi).1
      simp only [G.izC, List.length_map, List.length_range] at hlt
      simp only [G.izC, List.map_map, List.getElem?_map, List.getElem?_range hlt, Option.map_some, Function.comp, Option.some.injEq] at hi
      rw [← hi]
      exact hF i hlt
    · refine Nat.le_trans ?_ (qmj _ _)
      simp only [List.length_map, List.length_range]
      omega
theorem zdi {base : Nat} {v : Value} {d : DataW H} {p : List MemPlace} (hv : Value.okWide Tryz.prog W .any base 38 v) (h : DataW.Trod enc Tryz.prog W 0 (fun _ => true) true 38 v d p) :
    ∃ so cap l, v = .slice so (l : List Int).length cap ∧ Rc W so (G.izC l) ∧ l.length ≤ Rows.uptoBulk d := by
  obtain ⟨a, n, c, rfl⟩ := okWide_slice Tryz.underlying38 hv
  obtain ⟨fuel, hf⟩ := h
  obtain ⟨so, cap, l, e, hr, hb⟩ := zdh hf
  exact ⟨so, cap, l, e, hr, hb⟩
end
end Go.Proofs.YtoopkbedjbnhhaaGreatDoor.G
