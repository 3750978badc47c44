/- The walk of symMerge. The walk of slices.SortStableFunc. Walks of lists that are taken apart. A range over a function: steps within a round, and slices.Backward. slices.Backward over data. Items, linked one behind the other. Which lists are sound, and what the calls answer. Walks of the items of lists. Walks of lists that are joined, and of new lists. Walks of Of, Append, Tail and Reverse. Walks of SortBy, where the firsts are characters. What joins say, of lists as they are. The walk of SortBy, where the firsts are characters. Bytes compared by the library. The walk of the document's utf8. Units of a text as rows; when a text has no bad byte. Walks of the document's Sound. The walk of the document's Sound. Walks of the order of numbers. Walks of small comparisons, and of the hash of lists. Walks of the order of data. Walks of Equal, Cmp and Hash. What is in order ka as it is when it is sorted; an order of some is made one of all. The walk of Sort. Walks of the document's sameness and order of numbers. The same trees. -/
import Derived.Test.YtipikhcmieboaaaGreatDoorPlistso10f
import Derived.RangeFuncNested
import Derived.RangeFuncLeaves
import Derived.LoopNIn
import Derived.Test.YtipikhcmieboaaaGreatDoorProg
import Derived.Test.YtipikhcmieboaaaGreatDoorArith
import Derived.Test.YtipikhcmieboaaaGreatDoorPlistso10d
import Derived.Test.YtipikhcmieboaaaGreatDoorShelf
import Derived.Lib.Bytealg
import Derived.WalkKit
import Derived.WalkSpells
import Derived.Lib.ConvBytes
import Derived.Test.YtipikhcmieboaaaGreatDoorPlistso10c
namespace Go.Proofs.YtipikhcmieboaaaGreatDoor.G
open Go.RowKit
set_option linter.unusedVariables false
set_option linter.unusedSimpArgs false
set_option maxRecDepth 100000
theorem LiU_isS_30 : IsS Tryz.prog 30 11 := ⟨⟨_, Tryz.underlying30⟩, by kernel_rfl⟩
def SymC (f : FuncId) (cs : List Value) (c : Dt → Dt → Int) (ts : List Dt) (w0 : World) (g9 c9 n9 : Nat) (T : List Ck) (d : Nat) : Prop := ∀ {w : World} {zs : List Dt} {la lm lb : Nat}, lb - la ≤ d → zs.length = n9 → (∀ t ∈ zs, t ∈ ts) → la < lm → lm < lb → lb ≤ n9 → UpS (ltC c) zs la lm → UpS (ltC c) zs lm lb → Mg w0 w (.row 30 11 (.slice (some ⟨g9, 0, none⟩) n9 c9) n9 (cellsOf zs) :: T) → Calls Tryz.prog 104 #[.slice (some ⟨g9, 0, none⟩) n9 c9, .int .i64 ((la : Nat) : Int), .int .i64 ((lm : Nat) : Int), .int .i64 ((lb : Nat) : Int), .func (.func f) #[] cs.toArray] w fun e w' => e = .returned (.tuple #[]) ∧ Mg w0 w' (.row 30 11 (.slice (some ⟨g9, 0, none⟩) n9 c9) n9 (cellsOf (mg (ltC c) zs la lm lb)) :: T)
set_option maxHeartbeats 1000000 in
theorem zlg {f : FuncId} {cs : List Value} {c : Dt → Dt → Int} {ts : List Dt} {w0 : World} {g9 c9 n9 : Nat} {T : List Ck} (hl : n9 ≤ 1000000000) (hF : Cmps Tryz.prog f cs w0 T ts c) (H : Swo (ltC c)) {d : Nat} (ih : SymC f cs c ts w0 g9 c9 n9 T d) : SymC f cs c ts w0 g9 c9 n9 T (d + 1) := by
 intro w zs la lm lb hd hzl hsub ham hmb hbn hu1 hu2 hM0
 have M : Mg w0 w (.row 30 11 (.slice (some ⟨g9, 0, none⟩) n9 c9) n9 (cellsOf zs) :: T) := hM0
 refine qm (l := [(0, .slice (some ⟨g9, 0, none⟩) n9 c9), (1, .int .i64 (((la : Nat) : Int))), (2, .int .i64 (((lm : Nat) : Int))), (3, .int .i64 (((lb : Nat) : Int))), (4, .func (.func f) #[] cs.toArray)]) Tryz.func104 rfl Tryz.ntmps104 rfl rfl ?_
 intro Q hret hnorm hP a A
 refine wsk fun K1 hK1 => wsk fun K2 hK2 => wrl ?_
 iterate 2 refine sdm A λa A↦?_
 refine sdo (v := .int .i64 (((lm - la : Nat) : Int))) A (qf rfl rfl (ar_sub ((in_i64 (by omega) (by omega)).trans (by omega)))) λa A↦?_
 rcases tf ((((lm - la : Nat) : Int) == 1)) with hb3 | hb3
 ·
  have hb3' := eq_of_beq hb3
  refine sdc A qp hb3 λa A↦?_
  refine qa (hK2 _ _ (wp_cond_true (A.ev rfl) ?_))
  refine wsk fun K4 hK4 => wrl (sdm A λa A↦?_)
  refine sda A λa A↦?_
  refine qa (hK4 _ _ (wsk fun K5 hK5 => wrl (sdm A λa A↦?_)))
  refine sda A λa A↦?_
  refine qa (hK5 _ _ (wsk fun K6 hK6 => wp_block (zw (fun m_ a w1 => ∃ (i : Nat) (j : Nat), m_ = 1 + (j - i) ∧ (lm ≤ i ∧ i ≤ j ∧ j ≤ lb ∧ (i = lm ∨ ltA (ltC c) zs (i - 1) la = true) ∧ (j = lb ∨ ltA (ltC c) zs j la = false)) ∧ Sl a 220 [(0, .slice (some ⟨g9, 0, none⟩) n9 c9), (1, .int .i64 (((la : Nat) : Int))), (2, .int .i64 (((lm : Nat) : Int))), (3, .int .i64 (((lb : Nat) : Int))), (4, .func (.func f) #[] cs.toArray), (10, .int .i64 (((i : Nat) : Int))), (11, .int .i64 (((j : Nat) : Int))), (25, .int .i64 (((lm : Nat) : Int))), (26, .int .i64 (((la : Nat) : Int))), (27, .int .i64 (((lm - la : Nat) : Int))), (28, .bool true), (29, .int .i64 (((lm : Nat) : Int))), (30, .int .i64 (((lb : Nat) : Int)))] ∧ Mg w0 w1 (.row 30 11 (.slice (some ⟨g9, 0, none⟩) n9 c9) n9 (cellsOf zs) :: T)) _ ⟨lm, lb, rfl, ⟨Nat.le_refl _, by omega, Nat.le_refl _, .inl rfl, .inl rfl⟩, A.keep _ (by repeat' constructor), M⟩ ?_)))
  clear M A
  rintro m_ a w7 ⟨i, j, rfl, hinv9, A, M⟩ K8 hK8
  obtain ⟨hi0, hi1, hi2, hil, hjr⟩ := hinv9
  refine wsk fun K10 hK10 => wsk fun K11 hK11 => wrl ?_
  iterate 2 refine sdm A λa A↦?_
  rcases tf (decide (((i : Nat) : Int) < ((j : Nat) : Int))) with hb12 | hb12
  ·
   have hb12' := of_decide_eq_true hb12
   refine sdc A qz hb12 λa A↦?_
   refine qa (hK11 _ _ (wp_cond_true (A.ev rfl) ?_))
   refine wp_skip (hK10 _ _ (wp_block (wsk fun K13 hK13 => wrl ?_)))
   iterate 2 refine sdm A λa A↦?_
   refine sdo (v := .int .i64 (((i + j : Nat) : Int))) A (qf rfl rfl (ar_add ((in_i64 (by omega) (by omega)).trans (by omega)))) λa A↦?_
   refine sdo (v := .int .u64 (((i + j : Nat) : Int))) A (jm rfl (ar_conv Tryz.underlying3 Tryz.underlying113 (qqf (by omega) (by omega)))) λa A↦?_
   refine sdo (v := .int .u64 ((((i + j) / 2 : Nat) : Int))) A (qf rfl rfl (ar_shr (n := 1) rfl rfl (show ((i + j : Nat) : Int) / 2 ^ 1 = (((i + j) / 2 : Nat) : Int) from by rw [show ((2 : Int) ^ 1) = 2 from rfl]; omega))) λa A↦?_
   refine sdo (v := .int .i64 ((((i + j) / 2 : Nat) : Int))) A (jm rfl (ar_conv Tryz.underlying113 Tryz.underlying3 (in_i64 (by omega) (by omega)))) λa A↦?_
   refine sda A λa A↦?_
   refine qa (hK13 _ _ (wsk fun K14 hK14 => jc (S := fun w1 => Mg w0 w1 (.row 30 11 (.slice (some ⟨g9, 0, none⟩) n9 c9) n9 (cellsOf zs) :: [])) (by kernel_rfl) ?_))
   replace M := M.drew
   refine qe A 0 rfl rfl rfl rfl hP (M.sub (cc (List.nil_sublist _))) (fun w1 M => qg rfl) λa A↦?_
   refine qe A 1 rfl rfl rfl rfl hP (M.sub (cc (List.nil_sublist _))) (fun w1 M => qg rfl) λa A↦?_
   refine qe A 2 rfl rfl rfl rfl hP (M.sub (cc (List.nil_sublist _))) (fun w1 M => qg rfl) λa A↦?_
   refine qe (v := .pointer (some ⟨g9, ((i + j) / 2) * 11, none⟩)) A 3 rfl rfl rfl rfl hP (M.sub (cc (List.nil_sublist _))) (fun w1 M => qt (k := ((i + j) / 2)) Tryz.underlying22 (by kernel_rfl) rfl rfl rfl (by omega)) λa A↦?_
   obtain ⟨e15, he15⟩ : ∃ z, zs[((i + j) / 2)]? = some z := ⟨_, List.getElem?_eq_getElem (by omega)⟩
   refine qe A 4 rfl rfl rfl rfl hP (M.sub (cc (List.nil_sublist _))) (fun w1 M => zy (o := ((i + j) / 2) * 11) (cs := e15.d.cells e15.ts.length) M 0 rfl LiU_isS_30 (zh he15) rfl rfl) λa A↦?_
   refine qe A 5 rfl rfl rfl rfl hP (M.sub (cc (List.nil_sublist _))) (fun w1 M => qg rfl) λa A↦?_
   refine qe A 6 rfl rfl rfl rfl hP (M.sub (cc (List.nil_sublist _))) (fun w1 M => qg rfl) λa A↦?_
   refine qe (v := .pointer (some ⟨g9, la * 11, none⟩)) A 7 rfl rfl rfl rfl hP (M.sub (cc (List.nil_sublist _))) (fun w1 M => qt (k := la) Tryz.underlying22 (by kernel_rfl) rfl rfl rfl (by omega)) λa A↦?_
   obtain ⟨e16, he16⟩ : ∃ z, zs[la]? = some z := ⟨_, List.getElem?_eq_getElem (by omega)⟩
   refine qe A 8 rfl rfl rfl rfl hP (M.sub (cc (List.nil_sublist _))) (fun w1 M => zy (o := la * 11) (cs := e16.d.cells e16.ts.length) M 0 rfl LiU_isS_30 (zh he16) rfl rfl) λa A↦?_
   refine qi (by kernel_rfl) (za A 9 rfl rfl rfl rfl (kt rfl rfl hF.inv) (hF.run e15 e16 _ (hsub _ (List.mem_of_getElem? he15)) (hsub _ (List.mem_of_getElem? he16)) (M.sub (cn (List.Sublist.refl _)))) ?_)
   rintro _ w18 ⟨rfl, hb17⟩
   replace M := M.call hb17
   refine ⟨_, rfl, (M.sub (cc (List.nil_sublist _))), ?_⟩
   intro a A
   rcases tf (decide ((c e15 e16) < 0)) with hb19 | hb19
   ·
    have hb19' := of_decide_eq_true hb19
    refine qe (v := .bool true) A 10 rfl rfl rfl rfl hP (M.sub (cc (List.nil_sublist _))) (fun w1 M => qf rfl rfl (fun w => (qz w).trans (by rw [hb19]))) λa A↦?_
    refine zb (by kernel_rfl) ?_
    refine hK14 _ _ (wp_cond_true (A.ev rfl) ?_)
    refine wrl (sdm A λa A↦?_)
    refine sdo (v := .int .i64 (((((i + j) / 2) + 1 : Nat) : Int))) A (qf rfl rfl (ar_add ((in_i64 (by omega) (by omega)).trans (by omega)))) λa A↦?_
    refine sda A λa A↦?_
    refine qa ?_
    refine hK8 _ _ _ (by omega) ⟨(i + j) / 2 + 1, j, rfl, ⟨by omega, by omega, by omega, .inr (by rw [Nat.add_sub_cancel]; exact uj he15 he16 hb19), hjr⟩, A.keep _ (by repeat' constructor), M⟩
   ·
    have hb19' := of_decide_eq_false hb19
    refine qe (v := .bool false) A 10 rfl rfl rfl rfl hP (M.sub (cc (List.nil_sublist _))) (fun w1 M => qf rfl rfl (fun w => (qz w).trans (by rw [hb19]))) λa A↦?_
    refine zb (by kernel_rfl) ?_
    refine hK14 _ _ (wp_cond_false (A.ev rfl) ?_)
    refine wrl (sdm A λa A↦?_)
    refine sda A λa A↦?_
    refine qa ?_
    refine hK8 _ _ _ (by omega) ⟨i, (i + j) / 2, rfl, ⟨by omega, by omega, by omega, hil, .inr (uj he15 he16 hb19)⟩, A.keep _ (by repeat' constructor), M⟩
  ·
   have hb12' := of_decide_eq_false hb12
   refine sdc A qz hb12 λa A↦?_
   refine qa (hK11 _ _ (wp_cond_false (A.ev rfl) ?_))
   refine wp_exit (hK6 _ _ (wsk fun K20 hK20 => wsk fun K21 hK21 => wrl (sdm A λa A↦?_)))
   refine sda A λa A↦?_
   refine qa (hK21 _ _ (wp_block (zw (fun m_ a w1 => ∃ (k : Nat) (xs : List Dt), m_ = 1 + (i - k) ∧ (la ≤ k ∧ k + 1 ≤ i ∧ xs.length = n9 ∧ mvU xs k (i - 1 - k) = mvU zs la (i - 1 - la)) ∧ Sl a 220 [(0, .slice (some ⟨g9, 0, none⟩) n9 c9), (1, .int .i64 (((la : Nat) : Int))), (2, .int .i64 (((lm : Nat) : Int))), (3, .int .i64 (((lb : Nat) : Int))), (4, .func (.func f) #[] cs.toArray), (10, .int .i64 (((i : Nat) : Int))), (11, .int .i64 (((j : Nat) : Int))), (13, .int .i64 (((k : Nat) : Int))), (25, .int .i64 (((lm : Nat) : Int))), (26, .int .i64 (((la : Nat) : Int))), (27, .int .i64 (((lm - la : Nat) : Int))), (28, .bool true), (29, .int .i64 (((lm : Nat) : Int))), (30, .int .i64 (((lb : Nat) : Int))), (31, .int .i64 (((i : Nat) : Int))), (32, .int .i64 (((j : Nat) : Int))), (33, .bool false), (54, .int .i64 (((la : Nat) : Int)))] ∧ Mg w0 w1 (.row 30 11 (.slice (some ⟨g9, 0, none⟩) n9 c9) n9 (cellsOf xs) :: T)) _ ⟨la, zs, rfl, ⟨Nat.le_refl _, by omega, hzl, rfl⟩, A.keep _ (by repeat' constructor), M⟩ ?_)))
   clear M A
   rintro m_ a w22 ⟨k, xs, rfl, hinv24, A, M⟩ K23 hK23
   obtain ⟨hk0, hk1, hxl, hin⟩ := hinv24
   refine wsk fun K25 hK25 => wsk fun K26 hK26 => wrl ?_
   iterate 2 refine sdm A λa A↦?_
   refine sdo (v := .int .i64 (((i - 1 : Nat) : Int))) A (qf rfl rfl (ar_sub ((in_i64 (by omega) (by omega)).trans (by omega)))) λa A↦?_
   rcases tf (decide (((k : Nat) : Int) < ((i - 1 : Nat) : Int))) with hb27 | hb27
   ·
    have hb27' := of_decide_eq_true hb27
    refine sdc A qz hb27 λa A↦?_
    refine qa (hK26 _ _ (wp_cond_true (A.ev rfl) ?_))
    refine wp_skip (hK25 _ _ (wsk fun K28 hK28 => wp_block (jc (S := fun w1 => Mg w0 w1 ([])) (by kernel_rfl) ?_)))
    replace M := M.drew
    refine qe A 0 rfl rfl rfl rfl hP (M.sub (cn (List.nil_sublist _))) (fun w1 M => qg rfl) λa A↦?_
    refine qe A 1 rfl rfl rfl rfl hP (M.sub (cn (List.nil_sublist _))) (fun w1 M => qg rfl) λa A↦?_
    refine qe A 2 rfl rfl rfl rfl hP (M.sub (cn (List.nil_sublist _))) (fun w1 M => qg rfl) λa A↦?_
    refine qe A 3 rfl rfl rfl rfl hP (M.sub (cn (List.nil_sublist _))) (fun w1 M => qg rfl) λa A↦?_
    refine qe (v := .int .i64 (((k + 1 : Nat) : Int))) A 4 rfl rfl rfl rfl hP (M.sub (cn (List.nil_sublist _))) (fun w1 M => qf rfl rfl (ar_add ((in_i64 (by omega) (by omega)).trans (by omega)))) λa A↦?_
    refine qe A 5 rfl rfl rfl rfl hP (M.sub (cn (List.nil_sublist _))) (fun w1 M => qg rfl) λa A↦?_
    refine qe A 6 rfl rfl rfl rfl hP (M.sub (cn (List.nil_sublist _))) (fun w1 M => qg rfl) λa A↦?_
    refine qe (v := .int .i64 (((k + 1 : Nat) : Int))) A 7 rfl rfl rfl rfl hP (M.sub (cn (List.nil_sublist _))) (fun w1 M => qf rfl rfl (ar_add ((in_i64 (by omega) (by omega)).trans (by omega)))) λa A↦?_
    refine qe (v := .pointer (some ⟨g9, (k + 1) * 11, none⟩)) A 8 rfl rfl rfl rfl hP (M.sub (cn (List.nil_sublist _))) (fun w1 M => qt (k := (k + 1)) Tryz.underlying22 (by kernel_rfl) rfl rfl rfl (by omega)) λa A↦?_
    refine qe A 10 rfl rfl rfl rfl hP (M.sub (cn (List.nil_sublist _))) (fun w1 M => qg rfl) λa A↦?_
    refine qe A 11 rfl rfl rfl rfl hP (M.sub (cn (List.nil_sublist _))) (fun w1 M => qg rfl) λa A↦?_
    refine qe (v := .pointer (some ⟨g9, k * 11, none⟩)) A 12 rfl rfl rfl rfl hP (M.sub (cn (List.nil_sublist _))) (fun w1 M => qt (k := k) Tryz.underlying22 (by kernel_rfl) rfl rfl rfl (by omega)) λa A↦?_
    refine jl (rs := [9, 13]) (by kernel_rfl) (by simp) ⟨?_, ?_, trivial⟩
    ·
     obtain ⟨e29, he29⟩ : ∃ z, xs[(k + 1)]? = some z := ⟨_, List.getElem?_eq_getElem (by omega)⟩
     refine xd A 9 rfl rfl rfl rfl (zy (o := (k + 1) * 11) (cs := e29.d.cells e29.ts.length) M 0 rfl LiU_isS_30 (zh he29) rfl rfl) (M.sub (cn (List.nil_sublist _))) λa A↦?_
     obtain ⟨e30, he30⟩ : ∃ z, xs[k]? = some z := ⟨_, List.getElem?_eq_getElem (by omega)⟩
     refine qi (by kernel_rfl) (xd A 13 rfl rfl rfl rfl (zy (o := k * 11) (cs := e30.d.cells e30.ts.length) M 0 rfl LiU_isS_30 (zh he30) rfl rfl) (M.sub (cn (List.nil_sublist _))) ?_)
     intro a A
     refine qe (v := .pointer (some ⟨g9, k * 11, none⟩)) A 14 rfl rfl rfl rfl hP (M.sub (cn (List.nil_sublist _))) (fun w1 M => qt (k := k) Tryz.underlying22 (by kernel_rfl) rfl rfl rfl (by omega)) λa A↦?_
     refine qi (by kernel_rfl) (jf (us := cellsOf (xs.set k e29)) (L' := (.row 30 11 (.slice (some ⟨g9, 0, none⟩) n9 c9) n9 (cellsOf (xs.set k e29)) :: T)) A M 15 rfl rfl rfl (jh (cs := e29.d.cells e29.ts.length) rfl rfl rfl (by kernel_rfl) M 0 rfl (by show _ + 11 ≤ _; omega) (jb e29)) 0 rfl (ji (by omega) rfl) rfl ?_)
     intro w31 M
     refine ⟨(M.sub (cn (List.nil_sublist _))), ?_⟩
     refine qe (v := .pointer (some ⟨g9, (k + 1) * 11, none⟩)) A 16 rfl rfl rfl rfl hP (M.sub (cn (List.nil_sublist _))) (fun w1 M => qt (k := (k + 1)) Tryz.underlying22 (by kernel_rfl) rfl rfl rfl (by omega)) λa A↦?_
     refine qi (by kernel_rfl) (jf (us := cellsOf ((xs.set k e29).set (k + 1) e30)) (L' := (.row 30 11 (.slice (some ⟨g9, 0, none⟩) n9 c9) n9 (cellsOf ((xs.set k e29).set (k + 1) e30)) :: T)) A M 17 rfl rfl rfl (jh (cs := e30.d.cells e30.ts.length) rfl rfl rfl (by kernel_rfl) M 0 rfl (by show _ + 11 ≤ _; omega) (jb e30)) 0 rfl (ji (by rw [List.length_set]; omega) rfl) rfl ?_)
     intro w32 M
     rw [yt he30 he29] at M
     refine ⟨(M.sub (cn (List.nil_sublist _))), ?_⟩
     refine zb (by kernel_rfl) ?_
     refine hK28 _ _ (wrl (sdm A λa A↦?_))
     refine sdo (v := .int .i64 (((k + 1 : Nat) : Int))) A (qf rfl rfl (ar_add ((in_i64 (by omega) (by omega)).trans (by omega)))) λa A↦?_
     refine sda A λa A↦?_
     refine qa ?_
     refine hK23 _ _ _ (by omega) ⟨k + 1, (swp xs k (k + 1)), rfl, ⟨by omega, by omega, by rw [kq]; exact hxl, by rw [← hin, show i - 1 - k = i - 1 - (k + 1) + 1 by omega]; rfl⟩, A.keep _ (by repeat' constructor), M⟩
    ·
     obtain ⟨e33, he33⟩ : ∃ z, xs[k]? = some z := ⟨_, List.getElem?_eq_getElem (by omega)⟩
     refine xd A 13 rfl rfl rfl rfl (zy (o := k * 11) (cs := e33.d.cells e33.ts.length) M 0 rfl LiU_isS_30 (zh he33) rfl rfl) (M.sub (cn (List.nil_sublist _))) λa A↦?_
     obtain ⟨e34, he34⟩ : ∃ z, xs[(k + 1)]? = some z := ⟨_, List.getElem?_eq_getElem (by omega)⟩
     refine qi (by kernel_rfl) (xd A 9 rfl rfl rfl rfl (zy (o := (k + 1) * 11) (cs := e34.d.cells e34.ts.length) M 0 rfl LiU_isS_30 (zh he34) rfl rfl) (M.sub (cn (List.nil_sublist _))) ?_)
     intro a A
     refine qe (v := .pointer (some ⟨g9, k * 11, none⟩)) A 14 rfl rfl rfl rfl hP (M.sub (cn (List.nil_sublist _))) (fun w1 M => qt (k := k) Tryz.underlying22 (by kernel_rfl) rfl rfl rfl (by omega)) λa A↦?_
     refine qi (by kernel_rfl) (jf (us := cellsOf (xs.set k e34)) (L' := (.row 30 11 (.slice (some ⟨g9, 0, none⟩) n9 c9) n9 (cellsOf (xs.set k e34)) :: T)) A M 15 rfl rfl rfl (jh (cs := e34.d.cells e34.ts.length) rfl rfl rfl (by kernel_rfl) M 0 rfl (by show _ + 11 ≤ _; omega) (jb e34)) 0 rfl (ji (by omega) rfl) rfl ?_)
     intro w35 M
     refine ⟨(M.sub (cn (List.nil_sublist _))), ?_⟩
     refine qe (v := .pointer (some ⟨g9, (k + 1) * 11, none⟩)) A 16 rfl rfl rfl rfl hP (M.sub (cn (List.nil_sublist _))) (fun w1 M => qt (k := (k + 1)) Tryz.underlying22 (by kernel_rfl) rfl rfl rfl (by omega)) λa A↦?_
     refine qi (by kernel_rfl) (jf (us := cellsOf ((xs.set k e34).set (k + 1) e33)) (L' := (.row 30 11 (.slice (some ⟨g9, 0, none⟩) n9 c9) n9 (cellsOf ((xs.set k e34).set (k + 1) e33)) :: T)) A M 17 rfl rfl rfl (jh (cs := e33.d.cells e33.ts.length) rfl rfl rfl (by kernel_rfl) M 0 rfl (by show _ + 11 ≤ _; omega) (jb e33)) 0 rfl (ji (by rw [List.length_set]; omega) rfl) rfl ?_)
     intro w36 M
     rw [yt he33 he34] at M
     refine ⟨(M.sub (cn (List.nil_sublist _))), ?_⟩
     refine zb (by kernel_rfl) ?_
     refine hK28 _ _ (wrl (sdm A λa A↦?_))
     refine sdo (v := .int .i64 (((k + 1 : Nat) : Int))) A (qf rfl rfl (ar_add ((in_i64 (by omega) (by omega)).trans (by omega)))) λa A↦?_
     refine sda A λa A↦?_
     refine qa ?_
     refine hK23 _ _ _ (by omega) ⟨k + 1, (swp xs k (k + 1)), rfl, ⟨by omega, by omega, by rw [kq]; exact hxl, by rw [← hin, show i - 1 - k = i - 1 - (k + 1) + 1 by omega]; rfl⟩, A.keep _ (by repeat' constructor), M⟩
   ·
    have hb27' := of_decide_eq_false hb27
    refine sdc A qz hb27 λa A↦?_
    refine qa (hK26 _ _ (wp_cond_false (A.ev rfl) ?_))
    refine wp_exit (hK20 _ _ (wp_ret (hret _ _ (vh (v := .tuple #[]) A rfl .nil rfl ?_))))
    obtain rfl : i = j := by omega
    rw [show i - 1 - k = 0 by omega] at hin
    replace hin : xs = mvU zs la (i - 1 - la) := hin
    rw [hin, zuf H (by omega) (by omega) (by omega) (by omega) hu2 hil hjr] at M
    exact ⟨rfl, M⟩
 ·
  have hb3' := ne_of_beq_false hb3
  refine sdc A qp hb3 λa A↦?_
  refine qa (hK2 _ _ (wp_cond_false (A.ev rfl) ?_))
  refine wp_skip (hK1 _ _ (wsk fun K37 hK37 => wsk fun K38 hK38 => wrl ?_))
  iterate 2 refine sdm A λa A↦?_
  refine sdo (v := .int .i64 (((lb - lm : Nat) : Int))) A (qf rfl rfl (ar_sub ((in_i64 (by omega) (by omega)).trans (by omega)))) λa A↦?_
  rcases tf ((((lb - lm : Nat) : Int) == 1)) with hb39 | hb39
  ·
   have hb39' := eq_of_beq hb39
   refine sdc A qp hb39 λa A↦?_
   refine qa (hK38 _ _ (wp_cond_true (A.ev rfl) ?_))
   refine wsk fun K40 hK40 => wrl (sdm A λa A↦?_)
   refine sda A λa A↦?_
   refine qa (hK40 _ _ (wsk fun K41 hK41 => wrl (sdm A λa A↦?_)))
   refine sda A λa A↦?_
   refine qa (hK41 _ _ (wsk fun K42 hK42 => wp_block (zw (fun m_ a w1 => ∃ (i : Nat) (j : Nat), m_ = 1 + (j - i) ∧ (la ≤ i ∧ i ≤ j ∧ j ≤ lm ∧ (i = la ∨ ltA (ltC c) zs lm (i - 1) = false) ∧ (j = lm ∨ ltA (ltC c) zs lm j = true)) ∧ Sl a 220 [(0, .slice (some ⟨g9, 0, none⟩) n9 c9), (1, .int .i64 (((la : Nat) : Int))), (2, .int .i64 (((lm : Nat) : Int))), (3, .int .i64 (((lb : Nat) : Int))), (4, .func (.func f) #[] cs.toArray), (14, .int .i64 (((i : Nat) : Int))), (15, .int .i64 (((j : Nat) : Int))), (25, .int .i64 (((lm : Nat) : Int))), (26, .int .i64 (((la : Nat) : Int))), (27, .int .i64 (((lm - la : Nat) : Int))), (28, .bool false), (77, .int .i64 (((lb : Nat) : Int))), (78, .int .i64 (((lm : Nat) : Int))), (79, .int .i64 (((lb - lm : Nat) : Int))), (80, .bool true), (81, .int .i64 (((la : Nat) : Int))), (82, .int .i64 (((lm : Nat) : Int)))] ∧ Mg w0 w1 (.row 30 11 (.slice (some ⟨g9, 0, none⟩) n9 c9) n9 (cellsOf zs) :: T)) _ ⟨la, lm, rfl, ⟨Nat.le_refl _, by omega, Nat.le_refl _, .inl rfl, .inl rfl⟩, A.keep _ (by repeat' constructor), M⟩ ?_)))
   clear M A
   rintro m_ a w43 ⟨i, j, rfl, hinv45, A, M⟩ K44 hK44
   obtain ⟨hi0, hi1, hi2, hil, hjr⟩ := hinv45
   refine wsk fun K46 hK46 => wsk fun K47 hK47 => wrl ?_
   iterate 2 refine sdm A λa A↦?_
   rcases tf (decide (((i : Nat) : Int) < ((j : Nat) : Int))) with hb48 | hb48
   ·
    have hb48' := of_decide_eq_true hb48
    refine sdc A qz hb48 λa A↦?_
    refine qa (hK47 _ _ (wp_cond_true (A.ev rfl) ?_))
    refine wp_skip (hK46 _ _ (wp_block (wsk fun K49 hK49 => wrl ?_)))
    iterate 2 refine sdm A λa A↦?_
    refine sdo (v := .int .i64 (((i + j : Nat) : Int))) A (qf rfl rfl (ar_add ((in_i64 (by omega) (by omega)).trans (by omega)))) λa A↦?_
    refine sdo (v := .int .u64 (((i + j : Nat) : Int))) A (jm rfl (ar_conv Tryz.underlying3 Tryz.underlying113 (qqf (by omega) (by omega)))) λa A↦?_
    refine sdo (v := .int .u64 ((((i + j) / 2 : Nat) : Int))) A (qf rfl rfl (ar_shr (n := 1) rfl rfl (show ((i + j : Nat) : Int) / 2 ^ 1 = (((i + j) / 2 : Nat) : Int) from by rw [show ((2 : Int) ^ 1) = 2 from rfl]; omega))) λa A↦?_
    refine sdo (v := .int .i64 ((((i + j) / 2 : Nat) : Int))) A (jm rfl (ar_conv Tryz.underlying113 Tryz.underlying3 (in_i64 (by omega) (by omega)))) λa A↦?_
    refine sda A λa A↦?_
    refine qa (hK49 _ _ (wsk fun K50 hK50 => jc (S := fun w1 => Mg w0 w1 (.row 30 11 (.slice (some ⟨g9, 0, none⟩) n9 c9) n9 (cellsOf zs) :: [])) (by kernel_rfl) ?_))
    replace M := M.drew
    refine qe A 0 rfl rfl rfl rfl hP (M.sub (cc (List.nil_sublist _))) (fun w1 M => qg rfl) λa A↦?_
    refine qe A 1 rfl rfl rfl rfl hP (M.sub (cc (List.nil_sublist _))) (fun w1 M => qg rfl) λa A↦?_
    refine qe A 2 rfl rfl rfl rfl hP (M.sub (cc (List.nil_sublist _))) (fun w1 M => qg rfl) λa A↦?_
    refine qe (v := .pointer (some ⟨g9, lm * 11, none⟩)) A 3 rfl rfl rfl rfl hP (M.sub (cc (List.nil_sublist _))) (fun w1 M => qt (k := lm) Tryz.underlying22 (by kernel_rfl) rfl rfl rfl (by omega)) λa A↦?_
    obtain ⟨e51, he51⟩ : ∃ z, zs[lm]? = some z := ⟨_, List.getElem?_eq_getElem (by omega)⟩
    refine qe A 4 rfl rfl rfl rfl hP (M.sub (cc (List.nil_sublist _))) (fun w1 M => zy (o := lm * 11) (cs := e51.d.cells e51.ts.length) M 0 rfl LiU_isS_30 (zh he51) rfl rfl) λa A↦?_
    refine qe A 5 rfl rfl rfl rfl hP (M.sub (cc (List.nil_sublist _))) (fun w1 M => qg rfl) λa A↦?_
    refine qe A 6 rfl rfl rfl rfl hP (M.sub (cc (List.nil_sublist _))) (fun w1 M => qg rfl) λa A↦?_
    refine qe (v := .pointer (some ⟨g9, ((i + j) / 2) * 11, none⟩)) A 7 rfl rfl rfl rfl hP (M.sub (cc (List.nil_sublist _))) (fun w1 M => qt (k := ((i + j) / 2)) Tryz.underlying22 (by kernel_rfl) rfl rfl rfl (by omega)) λa A↦?_
    obtain ⟨e52, he52⟩ : ∃ z, zs[((i + j) / 2)]? = some z := ⟨_, List.getElem?_eq_getElem (by omega)⟩
    refine qe A 8 rfl rfl rfl rfl hP (M.sub (cc (List.nil_sublist _))) (fun w1 M => zy (o := ((i + j) / 2) * 11) (cs := e52.d.cells e52.ts.length) M 0 rfl LiU_isS_30 (zh he52) rfl rfl) λa A↦?_
    refine qi (by kernel_rfl) (za A 9 rfl rfl rfl rfl (kt rfl rfl hF.inv) (hF.run e51 e52 _ (hsub _ (List.mem_of_getElem? he51)) (hsub _ (List.mem_of_getElem? he52)) (M.sub (cn (List.Sublist.refl _)))) ?_)
    rintro _ w54 ⟨rfl, hb53⟩
    replace M := M.call hb53
    refine ⟨_, rfl, (M.sub (cc (List.nil_sublist _))), ?_⟩
    intro a A
    rcases tf (decide ((c e51 e52) < 0)) with hb55 | hb55
    ·
     have hb55' := of_decide_eq_true hb55
     refine qe (v := .bool true) A 10 rfl rfl rfl rfl hP (M.sub (cc (List.nil_sublist _))) (fun w1 M => qf rfl rfl (fun w => (qz w).trans (by rw [hb55]))) λa A↦?_
     refine qe (v := .bool false) A 11 rfl rfl rfl rfl hP (M.sub (cc (List.nil_sublist _))) (fun w1 M => zk rfl zx) λa A↦?_
     refine zb (by kernel_rfl) ?_
     refine hK50 _ _ (wp_cond_false (A.ev rfl) ?_)
     refine wrl (sdm A λa A↦?_)
     refine sda A λa A↦?_
     refine qa ?_
     refine hK44 _ _ _ (by omega) ⟨i, (i + j) / 2, rfl, ⟨by omega, by omega, by omega, hil, .inr (uj he51 he52 hb55)⟩, A.keep _ (by repeat' constructor), M⟩
    ·
     have hb55' := of_decide_eq_false hb55
     refine qe (v := .bool false) A 10 rfl rfl rfl rfl hP (M.sub (cc (List.nil_sublist _))) (fun w1 M => qf rfl rfl (fun w => (qz w).trans (by rw [hb55]))) λa A↦?_
     refine qe (v := .bool true) A 11 rfl rfl rfl rfl hP (M.sub (cc (List.nil_sublist _))) (fun w1 M => zk rfl zx) λa A↦?_
     refine zb (by kernel_rfl) ?_
     refine hK50 _ _ (wp_cond_true (A.ev rfl) ?_)
     refine wrl (sdm A λa A↦?_)
     refine sdo (v := .int .i64 (((((i + j) / 2) + 1 : Nat) : Int))) A (qf rfl rfl (ar_add ((in_i64 (by omega) (by omega)).trans (by omega)))) λa A↦?_
     refine sda A λa A↦?_
     refine qa ?_
     refine hK44 _ _ _ (by omega) ⟨(i + j) / 2 + 1, j, rfl, ⟨by omega, by omega, by omega, .inr (by rw [Nat.add_sub_cancel]; exact uj he51 he52 hb55), hjr⟩, A.keep _ (by repeat' constructor), M⟩
   ·
    have hb48' := of_decide_eq_false hb48
    refine sdc A qz hb48 λa A↦?_
    refine qa (hK47 _ _ (wp_cond_false (A.ev rfl) ?_))
    refine wp_exit (hK42 _ _ (wsk fun K56 hK56 => wsk fun K57 hK57 => wrl (sdm A λa A↦?_)))
    refine sda A λa A↦?_
    refine qa (hK57 _ _ (wp_block (zw (fun m_ a w1 => ∃ (k : Nat) (xs : List Dt), m_ = 1 + k ∧ (i ≤ k ∧ k ≤ lm ∧ xs.length = n9 ∧ mvD xs k (k - i) = mvD zs lm (lm - i)) ∧ Sl a 220 [(0, .slice (some ⟨g9, 0, none⟩) n9 c9), (1, .int .i64 (((la : Nat) : Int))), (2, .int .i64 (((lm : Nat) : Int))), (3, .int .i64 (((lb : Nat) : Int))), (4, .func (.func f) #[] cs.toArray), (14, .int .i64 (((i : Nat) : Int))), (15, .int .i64 (((j : Nat) : Int))), (17, .int .i64 (((k : Nat) : Int))), (25, .int .i64 (((lm : Nat) : Int))), (26, .int .i64 (((la : Nat) : Int))), (27, .int .i64 (((lm - la : Nat) : Int))), (28, .bool false), (77, .int .i64 (((lb : Nat) : Int))), (78, .int .i64 (((lm : Nat) : Int))), (79, .int .i64 (((lb - lm : Nat) : Int))), (80, .bool true), (81, .int .i64 (((la : Nat) : Int))), (82, .int .i64 (((lm : Nat) : Int))), (83, .int .i64 (((i : Nat) : Int))), (84, .int .i64 (((j : Nat) : Int))), (85, .bool false), (107, .int .i64 (((lm : Nat) : Int)))] ∧ Mg w0 w1 (.row 30 11 (.slice (some ⟨g9, 0, none⟩) n9 c9) n9 (cellsOf xs) :: T)) _ ⟨lm, zs, rfl, ⟨by omega, Nat.le_refl _, hzl, rfl⟩, A.keep _ (by repeat' constructor), M⟩ ?_)))
    clear M A
    rintro m_ a w58 ⟨k, xs, rfl, hinv60, A, M⟩ K59 hK59
    obtain ⟨hk0, hk1, hxl, hin⟩ := hinv60
    refine wsk fun K61 hK61 => wsk fun K62 hK62 => wrl ?_
    iterate 2 refine sdm A λa A↦?_
    rcases tf (decide (((i : Nat) : Int) < ((k : Nat) : Int))) with hb63 | hb63
    ·
     have hb63' := of_decide_eq_true hb63
     refine sdc A js hb63 λa A↦?_
     refine qa (hK62 _ _ (wp_cond_true (A.ev rfl) ?_))
     refine wp_skip (hK61 _ _ (wsk fun K64 hK64 => wp_block (jc (S := fun w1 => Mg w0 w1 ([])) (by kernel_rfl) ?_)))
     replace M := M.drew
     refine qe A 0 rfl rfl rfl rfl hP (M.sub (cn (List.nil_sublist _))) (fun w1 M => qg rfl) λa A↦?_
     refine qe A 1 rfl rfl rfl rfl hP (M.sub (cn (List.nil_sublist _))) (fun w1 M => qg rfl) λa A↦?_
     refine qe A 2 rfl rfl rfl rfl hP (M.sub (cn (List.nil_sublist _))) (fun w1 M => qg rfl) λa A↦?_
     refine qe A 3 rfl rfl rfl rfl hP (M.sub (cn (List.nil_sublist _))) (fun w1 M => qg rfl) λa A↦?_
     refine qe (v := .int .i64 (((k - 1 : Nat) : Int))) A 4 rfl rfl rfl rfl hP (M.sub (cn (List.nil_sublist _))) (fun w1 M => qf rfl rfl (ar_sub ((in_i64 (by omega) (by omega)).trans (by omega)))) λa A↦?_
     refine qe A 5 rfl rfl rfl rfl hP (M.sub (cn (List.nil_sublist _))) (fun w1 M => qg rfl) λa A↦?_
     refine qe A 6 rfl rfl rfl rfl hP (M.sub (cn (List.nil_sublist _))) (fun w1 M => qg rfl) λa A↦?_
     refine qe (v := .int .i64 (((k - 1 : Nat) : Int))) A 7 rfl rfl rfl rfl hP (M.sub (cn (List.nil_sublist _))) (fun w1 M => qf rfl rfl (ar_sub ((in_i64 (by omega) (by omega)).trans (by omega)))) λa A↦?_
     refine qe (v := .pointer (some ⟨g9, (k - 1) * 11, none⟩)) A 8 rfl rfl rfl rfl hP (M.sub (cn (List.nil_sublist _))) (fun w1 M => qt (k := (k - 1)) Tryz.underlying22 (by kernel_rfl) rfl rfl rfl (by omega)) λa A↦?_
     refine qe A 10 rfl rfl rfl rfl hP (M.sub (cn (List.nil_sublist _))) (fun w1 M => qg rfl) λa A↦?_
     refine qe A 11 rfl rfl rfl rfl hP (M.sub (cn (List.nil_sublist _))) (fun w1 M => qg rfl) λa A↦?_
     refine qe (v := .pointer (some ⟨g9, k * 11, none⟩)) A 12 rfl rfl rfl rfl hP (M.sub (cn (List.nil_sublist _))) (fun w1 M => qt (k := k) Tryz.underlying22 (by kernel_rfl) rfl rfl rfl (by omega)) λa A↦?_
     refine jl (rs := [9, 13]) (by kernel_rfl) (by simp) ⟨?_, ?_, trivial⟩
     ·
      obtain ⟨e65, he65⟩ : ∃ z, xs[(k - 1)]? = some z := ⟨_, List.getElem?_eq_getElem (by omega)⟩
      refine xd A 9 rfl rfl rfl rfl (zy (o := (k - 1) * 11) (cs := e65.d.cells e65.ts.length) M 0 rfl LiU_isS_30 (zh he65) rfl rfl) (M.sub (cn (List.nil_sublist _))) λa A↦?_
      obtain ⟨e66, he66⟩ : ∃ z, xs[k]? = some z := ⟨_, List.getElem?_eq_getElem (by omega)⟩
      refine qi (by kernel_rfl) (xd A 13 rfl rfl rfl rfl (zy (o := k * 11) (cs := e66.d.cells e66.ts.length) M 0 rfl LiU_isS_30 (zh he66) rfl rfl) (M.sub (cn (List.nil_sublist _))) ?_)
      intro a A
      refine qe (v := .pointer (some ⟨g9, k * 11, none⟩)) A 14 rfl rfl rfl rfl hP (M.sub (cn (List.nil_sublist _))) (fun w1 M => qt (k := k) Tryz.underlying22 (by kernel_rfl) rfl rfl rfl (by omega)) λa A↦?_
      refine qi (by kernel_rfl) (jf (us := cellsOf (xs.set k e65)) (L' := (.row 30 11 (.slice (some ⟨g9, 0, none⟩) n9 c9) n9 (cellsOf (xs.set k e65)) :: T)) A M 15 rfl rfl rfl (jh (cs := e65.d.cells e65.ts.length) rfl rfl rfl (by kernel_rfl) M 0 rfl (by show _ + 11 ≤ _; omega) (jb e65)) 0 rfl (ji (by omega) rfl) rfl ?_)
      intro w67 M
      refine ⟨(M.sub (cn (List.nil_sublist _))), ?_⟩
      refine qe (v := .pointer (some ⟨g9, (k - 1) * 11, none⟩)) A 16 rfl rfl rfl rfl hP (M.sub (cn (List.nil_sublist _))) (fun w1 M => qt (k := (k - 1)) Tryz.underlying22 (by kernel_rfl) rfl rfl rfl (by omega)) λa A↦?_
      refine qi (by kernel_rfl) (jf (us := cellsOf ((xs.set k e65).set (k - 1) e66)) (L' := (.row 30 11 (.slice (some ⟨g9, 0, none⟩) n9 c9) n9 (cellsOf ((xs.set k e65).set (k - 1) e66)) :: T)) A M 17 rfl rfl rfl (jh (cs := e66.d.cells e66.ts.length) rfl rfl rfl (by kernel_rfl) M 0 rfl (by show _ + 11 ≤ _; omega) (jb e66)) 0 rfl (ji (by rw [List.length_set]; omega) rfl) rfl ?_)
      intro w68 M
      rw [yt he66 he65] at M
      refine ⟨(M.sub (cn (List.nil_sublist _))), ?_⟩
      refine zb (by kernel_rfl) ?_
      refine hK64 _ _ (wrl (sdm A λa A↦?_))
      refine sdo (v := .int .i64 (((k - 1 : Nat) : Int))) A (qf rfl rfl (ar_sub ((in_i64 (by omega) (by omega)).trans (by omega)))) λa A↦?_
      refine sda A λa A↦?_
      refine qa ?_
      refine hK59 _ _ _ (by omega) ⟨k - 1, (swp xs k (k - 1)), rfl, ⟨by omega, by omega, by rw [kq]; exact hxl, by rw [← hin, show k - i = k - 1 - i + 1 by omega]; rfl⟩, A.keep _ (by repeat' constructor), M⟩
     ·
      obtain ⟨e69, he69⟩ : ∃ z, xs[k]? = some z := ⟨_, List.getElem?_eq_getElem (by omega)⟩
      refine xd A 13 rfl rfl rfl rfl (zy (o := k * 11) (cs := e69.d.cells e69.ts.length) M 0 rfl LiU_isS_30 (zh he69) rfl rfl) (M.sub (cn (List.nil_sublist _))) λa A↦?_
      obtain ⟨e70, he70⟩ : ∃ z, xs[(k - 1)]? = some z := ⟨_, List.getElem?_eq_getElem (by omega)⟩
      refine qi (by kernel_rfl) (xd A 9 rfl rfl rfl rfl (zy (o := (k - 1) * 11) (cs := e70.d.cells e70.ts.length) M 0 rfl LiU_isS_30 (zh he70) rfl rfl) (M.sub (cn (List.nil_sublist _))) ?_)
      intro a A
      refine qe (v := .pointer (some ⟨g9, k * 11, none⟩)) A 14 rfl rfl rfl rfl hP (M.sub (cn (List.nil_sublist _))) (fun w1 M => qt (k := k) Tryz.underlying22 (by kernel_rfl) rfl rfl rfl (by omega)) λa A↦?_
      refine qi (by kernel_rfl) (jf (us := cellsOf (xs.set k e70)) (L' := (.row 30 11 (.slice (some ⟨g9, 0, none⟩) n9 c9) n9 (cellsOf (xs.set k e70)) :: T)) A M 15 rfl rfl rfl (jh (cs := e70.d.cells e70.ts.length) rfl rfl rfl (by kernel_rfl) M 0 rfl (by show _ + 11 ≤ _; omega) (jb e70)) 0 rfl (ji (by omega) rfl) rfl ?_)
      intro w71 M
      refine ⟨(M.sub (cn (List.nil_sublist _))), ?_⟩
      refine qe (v := .pointer (some ⟨g9, (k - 1) * 11, none⟩)) A 16 rfl rfl rfl rfl hP (M.sub (cn (List.nil_sublist _))) (fun w1 M => qt (k := (k - 1)) Tryz.underlying22 (by kernel_rfl) rfl rfl rfl (by omega)) λa A↦?_
      refine qi (by kernel_rfl) (jf (us := cellsOf ((xs.set k e70).set (k - 1) e69)) (L' := (.row 30 11 (.slice (some ⟨g9, 0, none⟩) n9 c9) n9 (cellsOf ((xs.set k e70).set (k - 1) e69)) :: T)) A M 17 rfl rfl rfl (jh (cs := e69.d.cells e69.ts.length) rfl rfl rfl (by kernel_rfl) M 0 rfl (by show _ + 11 ≤ _; omega) (jb e69)) 0 rfl (ji (by rw [List.length_set]; omega) rfl) rfl ?_)
      intro w72 M
      rw [yt he69 he70] at M
      refine ⟨(M.sub (cn (List.nil_sublist _))), ?_⟩
      refine zb (by kernel_rfl) ?_
      refine hK64 _ _ (wrl (sdm A λa A↦?_))
      refine sdo (v := .int .i64 (((k - 1 : Nat) : Int))) A (qf rfl rfl (ar_sub ((in_i64 (by omega) (by omega)).trans (by omega)))) λa A↦?_
      refine sda A λa A↦?_
      refine qa ?_
      refine hK59 _ _ _ (by omega) ⟨k - 1, (swp xs k (k - 1)), rfl, ⟨by omega, by omega, by rw [kq]; exact hxl, by rw [← hin, show k - i = k - 1 - i + 1 by omega]; rfl⟩, A.keep _ (by repeat' constructor), M⟩
    ·
     have hb63' := of_decide_eq_false hb63
     refine sdc A js hb63 λa A↦?_
     refine qa (hK62 _ _ (wp_cond_false (A.ev rfl) ?_))
     refine wp_exit (hK56 _ _ (wp_ret (hret _ _ (vh (v := .tuple #[]) A rfl .nil rfl ?_))))
     obtain rfl : i = j := by omega
     rw [show k - i = 0 by omega] at hin
     replace hin : xs = mvD zs lm (lm - i) := hin
     have h9 : mvD zs lm (lm - i) = mg (ltC c) zs la lm lb := zug H (by omega) (by omega) (by omega) (by omega) hu1 hil hjr
     rw [hin, h9] at M
     exact ⟨rfl, M⟩
  ·
   have hb39' := ne_of_beq_false hb39
   refine sdc A qp hb39 λa A↦?_
   refine qa (hK38 _ _ (wp_cond_false (A.ev rfl) ?_))
   refine wp_skip (hK37 _ _ (wsk fun K73 hK73 => wrl ?_))
   iterate 2 refine sdm A λa A↦?_
   refine sdo (v := .int .i64 (((la + lb : Nat) : Int))) A (qf rfl rfl (ar_add ((in_i64 (by omega) (by omega)).trans (by omega)))) λa A↦?_
   refine sdo (v := .int .u64 (((la + lb : Nat) : Int))) A (jm rfl (ar_conv Tryz.underlying3 Tryz.underlying113 (qqf (by omega) (by omega)))) λa A↦?_
   refine sdo (v := .int .u64 ((((la + lb) / 2 : Nat) : Int))) A (qf rfl rfl (ar_shr (n := 1) rfl rfl (show ((la + lb : Nat) : Int) / 2 ^ 1 = (((la + lb) / 2 : Nat) : Int) from by rw [show ((2 : Int) ^ 1) = 2 from rfl]; omega))) λa A↦?_
   refine sdo (v := .int .i64 ((((la + lb) / 2 : Nat) : Int))) A (jm rfl (ar_conv Tryz.underlying113 Tryz.underlying3 (in_i64 (by omega) (by omega)))) λa A↦?_
   refine sda A λa A↦?_
   refine qa (hK73 _ _ (wsk fun K74 hK74 => wrl ?_))
   iterate 2 refine sdm A λa A↦?_
   refine sdo (v := .int .i64 (((((la + lb) / 2) + lm : Nat) : Int))) A (qf rfl rfl (ar_add ((in_i64 (by omega) (by omega)).trans (by omega)))) λa A↦?_
   refine sda A λa A↦?_
   refine qa (hK74 _ _ (wsk fun K75 hK75 => wrl ?_))
   iterate 2 refine sda A λa A↦?_
   refine qa (hK75 _ _ (wsk fun K76 hK76 => ?_))
   have hJ77 : ∀ a w1, (∃ (i3 : Nat) (j3 : Nat), (la ≤ i3 ∧ i3 ≤ j3 ∧ j3 ≤ lm ∧ j3 ≤ ((la + lb) / 2) ∧ (((la + lb) / 2) + lm) ≤ i3 + lb ∧ (i3 = la ∨ (((la + lb) / 2) + lm) - i3 = lb) ∧ (j3 = lm ∨ (((la + lb) / 2) + lm) - j3 = lm)) ∧ Sl a 220 [(0, .slice (some ⟨g9, 0, none⟩) n9 c9), (1, .int .i64 (((la : Nat) : Int))), (2, .int .i64 (((lm : Nat) : Int))), (3, .int .i64 (((lb : Nat) : Int))), (4, .func (.func f) #[] cs.toArray), (18, .int .i64 ((((la + lb) / 2 : Nat) : Int))), (19, .int .i64 (((((la + lb) / 2) + lm : Nat) : Int))), (20, .int .i64 (((i3 : Nat) : Int))), (21, .int .i64 (((j3 : Nat) : Int))), (25, .int .i64 (((lm : Nat) : Int))), (26, .int .i64 (((la : Nat) : Int))), (27, .int .i64 (((lm - la : Nat) : Int))), (28, .bool false), (77, .int .i64 (((lb : Nat) : Int))), (78, .int .i64 (((lm : Nat) : Int))), (79, .int .i64 (((lb - lm : Nat) : Int))), (80, .bool false), (129, .int .i64 (((la : Nat) : Int))), (130, .int .i64 (((lb : Nat) : Int))), (131, .int .i64 (((la + lb : Nat) : Int))), (132, .int .u64 (((la + lb : Nat) : Int))), (133, .int .u64 ((((la + lb) / 2 : Nat) : Int))), (134, .int .i64 ((((la + lb) / 2 : Nat) : Int))), (135, .int .i64 ((((la + lb) / 2 : Nat) : Int))), (136, .int .i64 (((lm : Nat) : Int))), (137, .int .i64 (((((la + lb) / 2) + lm : Nat) : Int)))] ∧ Mg w0 w1 (.row 30 11 (.slice (some ⟨g9, 0, none⟩) n9 c9) n9 (cellsOf zs) :: T)) → K76 a w1 := by
    clear A M
    rintro a w78 ⟨i3, j3, hf79, A, M⟩
    obtain ⟨q1, q2, q3, q4, q5, q6, q7⟩ := hf79
    refine hK76 _ _ (wsk fun K80 hK80 => wrl (sdm A λa A↦?_))
    refine sdo (v := .int .i64 ((((((la + lb) / 2) + lm) - 1 : Nat) : Int))) A (qf rfl rfl (ar_sub ((in_i64 (by omega) (by omega)).trans (by omega)))) λa A↦?_
    refine sda A λa A↦?_
    refine qa (hK80 _ _ (wsk fun K81 hK81 => wp_block (zw (fun m_ a w1 => ∃ (i : Nat) (j : Nat), m_ = 1 + (j - i) ∧ (i3 ≤ i ∧ i ≤ j ∧ j ≤ j3 ∧ (i = la ∨ (((la + lb) / 2) + lm) - i = lb ∨ ltA (ltC c) zs ((((la + lb) / 2) + lm) - i) (i - 1) = false) ∧ (j = lm ∨ (((la + lb) / 2) + lm) - j = lm ∨ ltA (ltC c) zs ((((la + lb) / 2) + lm) - j - 1) j = true)) ∧ Sl a 220 [(0, .slice (some ⟨g9, 0, none⟩) n9 c9), (1, .int .i64 (((la : Nat) : Int))), (2, .int .i64 (((lm : Nat) : Int))), (3, .int .i64 (((lb : Nat) : Int))), (4, .func (.func f) #[] cs.toArray), (18, .int .i64 ((((la + lb) / 2 : Nat) : Int))), (19, .int .i64 (((((la + lb) / 2) + lm : Nat) : Int))), (20, .int .i64 (((i : Nat) : Int))), (21, .int .i64 (((j : Nat) : Int))), (22, .int .i64 ((((((la + lb) / 2) + lm) - 1 : Nat) : Int))), (25, .int .i64 (((lm : Nat) : Int))), (26, .int .i64 (((la : Nat) : Int))), (27, .int .i64 (((lm - la : Nat) : Int))), (28, .bool false), (77, .int .i64 (((lb : Nat) : Int))), (78, .int .i64 (((lm : Nat) : Int))), (79, .int .i64 (((lb - lm : Nat) : Int))), (80, .bool false), (129, .int .i64 (((la : Nat) : Int))), (130, .int .i64 (((lb : Nat) : Int))), (131, .int .i64 (((la + lb : Nat) : Int))), (132, .int .u64 (((la + lb : Nat) : Int))), (133, .int .u64 ((((la + lb) / 2 : Nat) : Int))), (134, .int .i64 ((((la + lb) / 2 : Nat) : Int))), (135, .int .i64 ((((la + lb) / 2 : Nat) : Int))), (136, .int .i64 (((lm : Nat) : Int))), (137, .int .i64 (((((la + lb) / 2) + lm : Nat) : Int))), (147, .int .i64 (((((la + lb) / 2) + lm : Nat) : Int))), (148, .int .i64 ((((((la + lb) / 2) + lm) - 1 : Nat) : Int)))] ∧ Mg w0 w1 (.row 30 11 (.slice (some ⟨g9, 0, none⟩) n9 c9) n9 (cellsOf zs) :: T)) _ ⟨i3, j3, rfl, ⟨Nat.le_refl _, q2, Nat.le_refl _, q6.elim .inl fun h => .inr (.inl h), q7.elim .inl fun h => .inr (.inl h)⟩, A.keep _ (by repeat' constructor), M⟩ ?_)))
    clear M A
    rintro m_ a w82 ⟨i, j, rfl, hinv84, A, M⟩ K83 hK83
    obtain ⟨hi0, hi1, hi2, hil, hjr⟩ := hinv84
    refine wsk fun K85 hK85 => wsk fun K86 hK86 => wrl ?_
    iterate 2 refine sdm A λa A↦?_
    rcases tf (decide (((i : Nat) : Int) < ((j : Nat) : Int))) with hb87 | hb87
    ·
     have hb87' := of_decide_eq_true hb87
     refine sdc A qz hb87 λa A↦?_
     refine qa (hK86 _ _ (wp_cond_true (A.ev rfl) ?_))
     refine wp_skip (hK85 _ _ (wp_block (wsk fun K88 hK88 => wrl ?_)))
     iterate 2 refine sdm A λa A↦?_
     refine sdo (v := .int .i64 (((i + j : Nat) : Int))) A (qf rfl rfl (ar_add ((in_i64 (by omega) (by omega)).trans (by omega)))) λa A↦?_
     refine sdo (v := .int .u64 (((i + j : Nat) : Int))) A (jm rfl (ar_conv Tryz.underlying3 Tryz.underlying113 (qqf (by omega) (by omega)))) λa A↦?_
     refine sdo (v := .int .u64 ((((i + j) / 2 : Nat) : Int))) A (qf rfl rfl (ar_shr (n := 1) rfl rfl (show ((i + j : Nat) : Int) / 2 ^ 1 = (((i + j) / 2 : Nat) : Int) from by rw [show ((2 : Int) ^ 1) = 2 from rfl]; omega))) λa A↦?_
     refine sdo (v := .int .i64 ((((i + j) / 2 : Nat) : Int))) A (jm rfl (ar_conv Tryz.underlying113 Tryz.underlying3 (in_i64 (by omega) (by omega)))) λa A↦?_
     refine sda A λa A↦?_
     refine qa (hK88 _ _ (wsk fun K89 hK89 => jc (S := fun w1 => Mg w0 w1 (.row 30 11 (.slice (some ⟨g9, 0, none⟩) n9 c9) n9 (cellsOf zs) :: [])) (by kernel_rfl) ?_))
     replace M := M.drew
     refine qe A 0 rfl rfl rfl rfl hP (M.sub (cc (List.nil_sublist _))) (fun w1 M => qg rfl) λa A↦?_
     refine qe A 1 rfl rfl rfl rfl hP (M.sub (cc (List.nil_sublist _))) (fun w1 M => qg rfl) λa A↦?_
     refine qe A 2 rfl rfl rfl rfl hP (M.sub (cc (List.nil_sublist _))) (fun w1 M => qg rfl) λa A↦?_
     refine qe A 3 rfl rfl rfl rfl hP (M.sub (cc (List.nil_sublist _))) (fun w1 M => qg rfl) λa A↦?_
     refine qe (v := .int .i64 (((((((la + lb) / 2) + lm) - 1) - ((i + j) / 2) : Nat) : Int))) A 4 rfl rfl rfl rfl hP (M.sub (cc (List.nil_sublist _))) (fun w1 M => qf rfl rfl (ar_sub ((in_i64 (by omega) (by omega)).trans (by omega)))) λa A↦?_
     refine qe (v := .pointer (some ⟨g9, (((((la + lb) / 2) + lm) - 1) - ((i + j) / 2)) * 11, none⟩)) A 5 rfl rfl rfl rfl hP (M.sub (cc (List.nil_sublist _))) (fun w1 M => qt (k := (((((la + lb) / 2) + lm) - 1) - ((i + j) / 2))) Tryz.underlying22 (by kernel_rfl) rfl rfl rfl (by omega)) λa A↦?_
     obtain ⟨e90, he90⟩ : ∃ z, zs[(((((la + lb) / 2) + lm) - 1) - ((i + j) / 2))]? = some z := ⟨_, List.getElem?_eq_getElem (by omega)⟩
     refine qe A 6 rfl rfl rfl rfl hP (M.sub (cc (List.nil_sublist _))) (fun w1 M => zy (o := (((((la + lb) / 2) + lm) - 1) - ((i + j) / 2)) * 11) (cs := e90.d.cells e90.ts.length) M 0 rfl LiU_isS_30 (zh he90) rfl rfl) λa A↦?_
     refine qe A 7 rfl rfl rfl rfl hP (M.sub (cc (List.nil_sublist _))) (fun w1 M => qg rfl) λa A↦?_
     refine qe A 8 rfl rfl rfl rfl hP (M.sub (cc (List.nil_sublist _))) (fun w1 M => qg rfl) λa A↦?_
     refine qe (v := .pointer (some ⟨g9, ((i + j) / 2) * 11, none⟩)) A 9 rfl rfl rfl rfl hP (M.sub (cc (List.nil_sublist _))) (fun w1 M => qt (k := ((i + j) / 2)) Tryz.underlying22 (by kernel_rfl) rfl rfl rfl (by omega)) λa A↦?_
     obtain ⟨e91, he91⟩ : ∃ z, zs[((i + j) / 2)]? = some z := ⟨_, List.getElem?_eq_getElem (by omega)⟩
     refine qe A 10 rfl rfl rfl rfl hP (M.sub (cc (List.nil_sublist _))) (fun w1 M => zy (o := ((i + j) / 2) * 11) (cs := e91.d.cells e91.ts.length) M 0 rfl LiU_isS_30 (zh he91) rfl rfl) λa A↦?_
     refine qi (by kernel_rfl) (za A 11 rfl rfl rfl rfl (kt rfl rfl hF.inv) (hF.run e90 e91 _ (hsub _ (List.mem_of_getElem? he90)) (hsub _ (List.mem_of_getElem? he91)) (M.sub (cn (List.Sublist.refl _)))) ?_)
     rintro _ w93 ⟨rfl, hb92⟩
     replace M := M.call hb92
     refine ⟨_, rfl, (M.sub (cc (List.nil_sublist _))), ?_⟩
     intro a A
     rcases tf (decide ((c e90 e91) < 0)) with hb94 | hb94
     ·
      have hb94' := of_decide_eq_true hb94
      refine qe (v := .bool true) A 12 rfl rfl rfl rfl hP (M.sub (cc (List.nil_sublist _))) (fun w1 M => qf rfl rfl (fun w => (qz w).trans (by rw [hb94]))) λa A↦?_
      refine qe (v := .bool false) A 13 rfl rfl rfl rfl hP (M.sub (cc (List.nil_sublist _))) (fun w1 M => zk rfl zx) λa A↦?_
      refine zb (by kernel_rfl) ?_
      refine hK89 _ _ (wp_cond_false (A.ev rfl) ?_)
      refine wrl (sdm A λa A↦?_)
      refine sda A λa A↦?_
      refine qa ?_
      refine hK83 _ _ _ (by omega) ⟨i, (i + j) / 2, rfl, ⟨by omega, by omega, by omega, hil, .inr (.inr (by rw [show (((la + lb) / 2) + lm) - (i + j) / 2 - 1 = (((la + lb) / 2) + lm) - 1 - (i + j) / 2 by omega]; exact uj he90 he91 hb94))⟩, A.keep _ (by repeat' constructor), M⟩
     ·
      have hb94' := of_decide_eq_false hb94
      refine qe (v := .bool false) A 12 rfl rfl rfl rfl hP (M.sub (cc (List.nil_sublist _))) (fun w1 M => qf rfl rfl (fun w => (qz w).trans (by rw [hb94]))) λa A↦?_
      refine qe (v := .bool true) A 13 rfl rfl rfl rfl hP (M.sub (cc (List.nil_sublist _))) (fun w1 M => zk rfl zx) λa A↦?_
      refine zb (by kernel_rfl) ?_
      refine hK89 _ _ (wp_cond_true (A.ev rfl) ?_)
      refine wrl (sdm A λa A↦?_)
      refine sdo (v := .int .i64 (((((i + j) / 2) + 1 : Nat) : Int))) A (qf rfl rfl (ar_add ((in_i64 (by omega) (by omega)).trans (by omega)))) λa A↦?_
      refine sda A λa A↦?_
      refine qa ?_
      refine hK83 _ _ _ (by omega) ⟨(i + j) / 2 + 1, j, rfl, ⟨by omega, by omega, by omega, .inr (.inr (by rw [show (((la + lb) / 2) + lm) - ((i + j) / 2 + 1) = (((la + lb) / 2) + lm) - 1 - (i + j) / 2 by omega, Nat.add_sub_cancel]; exact uj he90 he91 hb94)), hjr⟩, A.keep _ (by repeat' constructor), M⟩
    ·
     have hb87' := of_decide_eq_false hb87
     refine sdc A qz hb87 λa A↦?_
     refine qa (hK86 _ _ (wp_cond_false (A.ev rfl) ?_))
     refine wp_exit (hK81 _ _ (wsk fun K95 hK95 => wrl ?_))
     iterate 2 refine sdm A λa A↦?_
     refine sdo (v := .int .i64 ((((((la + lb) / 2) + lm) - i : Nat) : Int))) A (qf rfl rfl (ar_sub ((in_i64 (by omega) (by omega)).trans (by omega)))) λa A↦?_
     refine sda A λa A↦?_
     refine qa (hK95 _ _ (wsk fun K96 hK96 => ?_))
     have hJ97 : ∀ a w1, (∃ (xs : List Dt), (xs = rot zs i lm ((((la + lb) / 2) + lm) - i)) ∧ Sl a 220 [(0, .slice (some ⟨g9, 0, none⟩) n9 c9), (1, .int .i64 (((la : Nat) : Int))), (2, .int .i64 (((lm : Nat) : Int))), (3, .int .i64 (((lb : Nat) : Int))), (4, .func (.func f) #[] cs.toArray), (18, .int .i64 ((((la + lb) / 2 : Nat) : Int))), (19, .int .i64 (((((la + lb) / 2) + lm : Nat) : Int))), (20, .int .i64 (((i : Nat) : Int))), (21, .int .i64 (((j : Nat) : Int))), (22, .int .i64 ((((((la + lb) / 2) + lm) - 1 : Nat) : Int))), (24, .int .i64 ((((((la + lb) / 2) + lm) - i : Nat) : Int))), (25, .int .i64 (((lm : Nat) : Int))), (26, .int .i64 (((la : Nat) : Int))), (27, .int .i64 (((lm - la : Nat) : Int))), (28, .bool false), (77, .int .i64 (((lb : Nat) : Int))), (78, .int .i64 (((lm : Nat) : Int))), (79, .int .i64 (((lb - lm : Nat) : Int))), (80, .bool false), (129, .int .i64 (((la : Nat) : Int))), (130, .int .i64 (((lb : Nat) : Int))), (131, .int .i64 (((la + lb : Nat) : Int))), (132, .int .u64 (((la + lb : Nat) : Int))), (133, .int .u64 ((((la + lb) / 2 : Nat) : Int))), (134, .int .i64 ((((la + lb) / 2 : Nat) : Int))), (135, .int .i64 ((((la + lb) / 2 : Nat) : Int))), (136, .int .i64 (((lm : Nat) : Int))), (137, .int .i64 (((((la + lb) / 2) + lm : Nat) : Int))), (147, .int .i64 (((((la + lb) / 2) + lm : Nat) : Int))), (148, .int .i64 ((((((la + lb) / 2) + lm) - 1 : Nat) : Int))), (149, .int .i64 (((i : Nat) : Int))), (150, .int .i64 (((j : Nat) : Int))), (151, .bool false), (175, .int .i64 (((((la + lb) / 2) + lm : Nat) : Int))), (176, .int .i64 (((i : Nat) : Int))), (177, .int .i64 ((((((la + lb) / 2) + lm) - i : Nat) : Int)))] ∧ Mg w0 w1 (.row 30 11 (.slice (some ⟨g9, 0, none⟩) n9 c9) n9 (cellsOf xs) :: T)) → K96 a w1 := by
      clear A M
      rintro a w98 ⟨xs, hf99, A, M⟩
      have hxe := hf99
      have hij : i = j := by omega
      rw [← hij] at hjr
      have hcut : Cut (ltC c) zs la lm lb i ((la + lb) / 2) ((((la + lb) / 2) + lm) - i) := zte H (by omega) (by omega) (by omega) (by omega) (by omega) (by omega) hu1 hu2 hil hjr
      have hxl : xs.length = n9 := by rw [hxe, zqf (by omega) (by omega) (by omega)]; exact hzl
      have hxs : ∀ t ∈ xs, t ∈ ts := fun t ht => hsub t (zqe (by omega) (by omega) (by omega) (hxe ▸ ht))
      refine hK96 _ _ (wsk fun K100 hK100 => ?_)
      have hJ101 : ∀ a w1, (∃ (ys : List Dt), (ys = mg (ltC c) xs la i ((la + lb) / 2)) ∧ Sl a 220 [(0, .slice (some ⟨g9, 0, none⟩) n9 c9), (1, .int .i64 (((la : Nat) : Int))), (2, .int .i64 (((lm : Nat) : Int))), (3, .int .i64 (((lb : Nat) : Int))), (4, .func (.func f) #[] cs.toArray), (18, .int .i64 ((((la + lb) / 2 : Nat) : Int))), (19, .int .i64 (((((la + lb) / 2) + lm : Nat) : Int))), (20, .int .i64 (((i : Nat) : Int))), (21, .int .i64 (((j : Nat) : Int))), (22, .int .i64 ((((((la + lb) / 2) + lm) - 1 : Nat) : Int))), (24, .int .i64 ((((((la + lb) / 2) + lm) - i : Nat) : Int))), (25, .int .i64 (((lm : Nat) : Int))), (26, .int .i64 (((la : Nat) : Int))), (27, .int .i64 (((lm - la : Nat) : Int))), (28, .bool false), (77, .int .i64 (((lb : Nat) : Int))), (78, .int .i64 (((lm : Nat) : Int))), (79, .int .i64 (((lb - lm : Nat) : Int))), (80, .bool false), (129, .int .i64 (((la : Nat) : Int))), (130, .int .i64 (((lb : Nat) : Int))), (131, .int .i64 (((la + lb : Nat) : Int))), (132, .int .u64 (((la + lb : Nat) : Int))), (133, .int .u64 ((((la + lb) / 2 : Nat) : Int))), (134, .int .i64 ((((la + lb) / 2 : Nat) : Int))), (135, .int .i64 ((((la + lb) / 2 : Nat) : Int))), (136, .int .i64 (((lm : Nat) : Int))), (137, .int .i64 (((((la + lb) / 2) + lm : Nat) : Int))), (147, .int .i64 (((((la + lb) / 2) + lm : Nat) : Int))), (148, .int .i64 ((((((la + lb) / 2) + lm) - 1 : Nat) : Int))), (149, .int .i64 (((i : Nat) : Int))), (150, .int .i64 (((j : Nat) : Int))), (151, .bool false), (175, .int .i64 (((((la + lb) / 2) + lm : Nat) : Int))), (176, .int .i64 (((i : Nat) : Int))), (177, .int .i64 ((((((la + lb) / 2) + lm) - i : Nat) : Int)))] ∧ Mg w0 w1 (.row 30 11 (.slice (some ⟨g9, 0, none⟩) n9 c9) n9 (cellsOf ys) :: T)) → K100 a w1 := by
       clear A M
       rintro a w102 ⟨ys, hf103, A, M⟩
       have hye := hf103
       have hyl : ys.length = n9 := by rw [hye, ztd (by omega) (by omega) (by omega)]; exact hxl
       have hys : ∀ t ∈ ys, t ∈ ts := fun t ht => hxs t (zlc (by omega) (by omega) (by omega) (hye ▸ ht))
       refine hK100 _ _ (wsk fun K104 hK104 => wrl ?_)
       iterate 2 refine sdm A λa A↦?_
       rcases tf (decide ((((la + lb) / 2 : Nat) : Int) < (((((la + lb) / 2) + lm) - i : Nat) : Int))) with hb105 | hb105
       ·
        have hb105' := of_decide_eq_true hb105
        refine sdc A qz hb105 λa A↦?_
        iterate 3 refine sdm A λa A↦?_
        rcases tf (decide ((((((la + lb) / 2) + lm) - i : Nat) : Int) < ((lb : Nat) : Int))) with hb106 | hb106
        ·
         have hb106' := of_decide_eq_true hb106
         refine sdc A qz hb106 λa A↦?_
         refine sdk (v := .bool true) A λa A↦?_
         refine qa (hK104 _ _ (wp_cond_true (A.ev rfl) ?_))
         refine wrl ?_
         iterate 5 refine sdm A λa A↦?_
         refine sct A (ef rfl rfl) (ih (zs := ys) (by omega) hyl hys (by omega) (by omega) (by omega) (by rw [hye, hxe]; exact hcut.u3) (by rw [hye, hxe]; exact hcut.u4) M) ?_
         rintro _ w108 ⟨rfl, hM107⟩
         replace M : Mg w0 w108 (.row 30 11 (.slice (some ⟨g9, 0, none⟩) n9 c9) n9 (cellsOf (mg (ltC c) ys ((la + lb) / 2) ((((la + lb) / 2) + lm) - i) lb)) :: T) := hM107
         refine ⟨_, rfl, ?_⟩
         intro a A
         refine qa (hnorm _ _ (vh (v := .tuple #[]) A rfl .nil rfl ?_))
         rw [hye, hxe, hcut.eq] at M
         exact ⟨rfl, M⟩
        ·
         have hb106' := of_decide_eq_false hb106
         refine sdc A qz hb106 λa A↦?_
         refine sdk (v := .bool false) A λa A↦?_
         refine qa (hK104 _ _ (wp_cond_false (A.ev rfl) ?_))
         refine wp_skip (hnorm _ _ (vh (v := .tuple #[]) A rfl .nil rfl ?_))
         have hye2 : ys = mg (ltC c) ys ((la + lb) / 2) ((((la + lb) / 2) + lm) - i) lb := (qif (by omega) (by omega) (by omega) (by omega)).symm
         rw [hye2] at M
         rw [hye, hxe, hcut.eq] at M
         exact ⟨rfl, M⟩
       ·
        have hb105' := of_decide_eq_false hb105
        refine sdc A qz hb105 λa A↦?_
        refine sdm A λa A↦?_
        iterate 3 refine qx A rfl rfl rfl λa A↦?_
        refine sdk (v := .bool false) A λa A↦?_
        refine qa (hK104 _ _ (wp_cond_false (A.ev rfl) ?_))
        refine wp_skip (hnorm _ _ (vh (v := .tuple #[]) A rfl .nil rfl ?_))
        have hye2 : ys = mg (ltC c) ys ((la + lb) / 2) ((((la + lb) / 2) + lm) - i) lb := (qif (by omega) (by omega) (by omega) (by omega)).symm
        rw [hye2] at M
        rw [hye, hxe, hcut.eq] at M
        exact ⟨rfl, M⟩
      refine wsk fun K109 hK109 => wrl ?_
      iterate 2 refine sdm A λa A↦?_
      rcases tf (decide (((la : Nat) : Int) < ((i : Nat) : Int))) with hb110 | hb110
      ·
       have hb110' := of_decide_eq_true hb110
       refine sdc A qz hb110 λa A↦?_
       iterate 3 refine sdm A λa A↦?_
       rcases tf (decide (((i : Nat) : Int) < (((la + lb) / 2 : Nat) : Int))) with hb111 | hb111
       ·
        have hb111' := of_decide_eq_true hb111
        refine sdc A qz hb111 λa A↦?_
        refine sdk (v := .bool true) A λa A↦?_
        refine qa (hK109 _ _ (wp_cond_true (A.ev rfl) ?_))
        refine wrl ?_
        iterate 5 refine sdm A λa A↦?_
        refine sct A (ef rfl rfl) (ih (zs := xs) (by omega) hxl hxs (by omega) (by omega) (by omega) (by rw [hxe]; exact hcut.u1) (by rw [hxe]; exact hcut.u2) M) ?_
        rintro _ w113 ⟨rfl, hM112⟩
        replace M : Mg w0 w113 (.row 30 11 (.slice (some ⟨g9, 0, none⟩) n9 c9) n9 (cellsOf (mg (ltC c) xs la i ((la + lb) / 2))) :: T) := hM112
        refine ⟨_, rfl, ?_⟩
        intro a A
        refine qa ?_
        exact hJ101 _ _ ⟨(mg (ltC c) xs la i ((la + lb) / 2)), rfl, A.keep _ (by repeat' constructor), M⟩
       ·
        have hb111' := of_decide_eq_false hb111
        refine sdc A qz hb111 λa A↦?_
        refine sdk (v := .bool false) A λa A↦?_
        refine qa (hK109 _ _ (wp_cond_false (A.ev rfl) ?_))
        refine wp_skip ?_
        exact hJ101 _ _ ⟨xs, (qif (by omega) (by omega) (by omega) (by omega)).symm, A.keep _ (by repeat' constructor), M⟩
      ·
       have hb110' := of_decide_eq_false hb110
       refine sdc A qz hb110 λa A↦?_
       refine sdm A λa A↦?_
       iterate 3 refine qx A rfl rfl rfl λa A↦?_
       refine sdk (v := .bool false) A λa A↦?_
       refine qa (hK109 _ _ (wp_cond_false (A.ev rfl) ?_))
       refine wp_skip ?_
       exact hJ101 _ _ ⟨xs, (qif (by omega) (by omega) (by omega) (by omega)).symm, A.keep _ (by repeat' constructor), M⟩
     refine wsk fun K114 hK114 => wrl ?_
     iterate 2 refine sdm A λa A↦?_
     rcases tf (decide (((i : Nat) : Int) < ((lm : Nat) : Int))) with hb115 | hb115
     ·
      have hb115' := of_decide_eq_true hb115
      refine sdc A qz hb115 λa A↦?_
      iterate 3 refine sdm A λa A↦?_
      rcases tf (decide (((lm : Nat) : Int) < (((((la + lb) / 2) + lm) - i : Nat) : Int))) with hb116 | hb116
      ·
       have hb116' := of_decide_eq_true hb116
       refine sdc A qz hb116 λa A↦?_
       refine sdk (v := .bool true) A λa A↦?_
       refine qa (hK114 _ _ (wp_cond_true (A.ev rfl) ?_))
       refine wrl ?_
       iterate 5 refine sdm A λa A↦?_
       refine sct A (ef rfl rfl) (zqi (zs := zs) hl hzl (by omega) (by omega) (by omega) M) ?_
       rintro _ w118 ⟨rfl, hM117⟩
       replace M : Mg w0 w118 (.row 30 11 (.slice (some ⟨g9, 0, none⟩) n9 c9) n9 (cellsOf (rot zs i lm ((((la + lb) / 2) + lm) - i))) :: T) := hM117
       refine ⟨_, rfl, ?_⟩
       intro a A
       refine qa ?_
       exact hJ97 _ _ ⟨(rot zs i lm ((((la + lb) / 2) + lm) - i)), rfl, A.keep _ (by repeat' constructor), M⟩
      ·
       have hb116' := of_decide_eq_false hb116
       refine sdc A qz hb116 λa A↦?_
       refine sdk (v := .bool false) A λa A↦?_
       refine qa (hK114 _ _ (wp_cond_false (A.ev rfl) ?_))
       refine wp_skip ?_
       exact hJ97 _ _ ⟨zs, (que (by omega) (by omega) (by omega) (by omega)).symm, A.keep _ (by repeat' constructor), M⟩
     ·
      have hb115' := of_decide_eq_false hb115
      refine sdc A qz hb115 λa A↦?_
      refine sdm A λa A↦?_
      iterate 3 refine qx A rfl rfl rfl λa A↦?_
      refine sdk (v := .bool false) A λa A↦?_
      refine qa (hK114 _ _ (wp_cond_false (A.ev rfl) ?_))
      refine wp_skip ?_
      exact hJ97 _ _ ⟨zs, (que (by omega) (by omega) (by omega) (by omega)).symm, A.keep _ (by repeat' constructor), M⟩
   refine wsk fun K119 hK119 => wrl ?_
   iterate 2 refine sdm A λa A↦?_
   rcases tf (decide ((((la + lb) / 2 : Nat) : Int) < ((lm : Nat) : Int))) with hb120 | hb120
   ·
    have hb120' := of_decide_eq_true hb120
    refine sdc A js hb120 λa A↦?_
    refine qa (hK119 _ _ (wp_cond_true (A.ev rfl) ?_))
    refine wsk fun K121 hK121 => wrl ?_
    iterate 2 refine sdm A λa A↦?_
    refine sdo (v := .int .i64 ((((((la + lb) / 2) + lm) - lb : Nat) : Int))) A (qf rfl rfl (ar_sub ((in_i64 (by omega) (by omega)).trans (by omega)))) λa A↦?_
    refine sda A λa A↦?_
    refine qa (hK121 _ _ (wrl (sdm A λa A↦?_)))
    refine sda A λa A↦?_
    refine qa ?_
    exact hJ77 _ _ ⟨(((la + lb) / 2) + lm) - lb, (la + lb) / 2, ⟨by omega, by omega, by omega, by omega, by omega, by omega, by omega⟩, A.keep _ (by repeat' constructor), M⟩
   ·
    have hb120' := of_decide_eq_false hb120
    refine sdc A js hb120 λa A↦?_
    refine qa (hK119 _ _ (wp_cond_false (A.ev rfl) ?_))
    refine wsk fun K122 hK122 => wrl (sdm A λa A↦?_)
    refine sda A λa A↦?_
    refine qa (hK122 _ _ (wrl (sdm A λa A↦?_)))
    refine sda A λa A↦?_
    refine qa ?_
    exact hJ77 _ _ ⟨la, lm, ⟨by omega, by omega, by omega, by omega, by omega, by omega, by omega⟩, A.keep _ (by repeat' constructor), M⟩
theorem qqi {f : FuncId} {cs : List Value} {c : Dt → Dt → Int} {ts : List Dt} {w0 : World} {g9 c9 n9 : Nat} {T : List Ck} (hl : n9 ≤ 1000000000) (hF : Cmps Tryz.prog f cs w0 T ts c) (H : Swo (ltC c)) : ∀ d, SymC f cs c ts w0 g9 c9 n9 T d
 | 0 => fun hd _ _ h1 h2 => by omega
 | d + 1 => zlg hl hF H (qqi hl hF H d)
theorem qzb {w0 w : World} {g9 c9 n9 : Nat} {zs : List Dt} {T : List Ck} (hl : n9 ≤ 1000000000) (hzl : zs.length = n9) {f : FuncId} {cs : List Value} {c : Dt → Dt → Int} {ts : List Dt} (hF : Cmps Tryz.prog f cs w0 T ts c) (hsub : ∀ t ∈ zs, t ∈ ts) (H : Swo (ltC c)) (hM0 : Mg w0 w (.row 30 11 (.slice (some ⟨g9, 0, none⟩) n9 c9) n9 (cellsOf zs) :: T)) : Calls Tryz.prog 86 #[.slice (some ⟨g9, 0, none⟩) n9 c9, .int .i64 ((n9 : Nat) : Int), .func (.func f) #[] cs.toArray] w fun e w' => e = .returned (.tuple #[]) ∧ Mg w0 w' (.row 30 11 (.slice (some ⟨g9, 0, none⟩) n9 c9) n9 (cellsOf (zp (ltC c) zs)) :: T) := by
 have M : Mg w0 w (.row 30 11 (.slice (some ⟨g9, 0, none⟩) n9 c9) n9 (cellsOf zs) :: T) := hM0
 refine qm (l := [(0, .slice (some ⟨g9, 0, none⟩) n9 c9), (1, .int .i64 (((n9 : Nat) : Int))), (2, .func (.func f) #[] cs.toArray)]) Tryz.func86 rfl Tryz.ntmps86 rfl rfl ?_
 intro Q hret hnorm hP a A
 refine wsk fun K1 hK1 => wrl (sda A λa A↦?_)
 refine qa (hK1 _ _ (wsk fun K2 hK2 => wrl (sdm A λa A↦?_)))
 iterate 2 refine sda A λa A↦?_
 refine qa (hK2 _ _ (wsk fun K3 hK3 => wp_block (zw (fun m_ a w1 => ∃ (p : Nat) (x : List Dt), m_ = 1 + (n9 - p) ∧ (p ≤ n9 ∧ x.length = p ∧ (∀ t ∈ x ++ zs.drop p, t ∈ ts) ∧ x ++ srt (ltC c) 20 (zs.drop p) = srt (ltC c) 20 zs) ∧ Sl a 63 [(0, .slice (some ⟨g9, 0, none⟩) n9 c9), (1, .int .i64 (((n9 : Nat) : Int))), (2, .func (.func f) #[] cs.toArray), (6, .int .i64 20), (7, .int .i64 (((p : Nat) : Int))), (8, .int .i64 (((p + 20 : Nat) : Int))), (10, .int .i64 20)] ∧ Mg w0 w1 (.row 30 11 (.slice (some ⟨g9, 0, none⟩) n9 c9) n9 (cellsOf (x ++ zs.drop p)) :: T)) _ ⟨0, [], rfl, ⟨Nat.zero_le _, rfl, hsub, rfl⟩, A.keep _ (by repeat' constructor), M⟩ ?_)))
 clear M A
 rintro m_ a w4 ⟨p, x, rfl, hinv6, A, M⟩ K5 hK5
 obtain ⟨hp0, hx, hxs, hX⟩ := hinv6
 refine wsk fun K7 hK7 => wsk fun K8 hK8 => wrl ?_
 iterate 2 refine sdm A λa A↦?_
 rcases tf (decide (((p + 20 : Nat) : Int) ≤ ((n9 : Nat) : Int))) with hb9 | hb9
 ·
  have hb9' := of_decide_eq_true hb9
  refine sdc A ue hb9 λa A↦?_
  refine qa (hK8 _ _ (wp_cond_true (A.ev rfl) ?_))
  refine wp_skip (hK7 _ _ (wp_block (wsk fun K10 hK10 => wrl ?_)))
  iterate 4 refine sdm A λa A↦?_
  refine sct A (ef rfl rfl) (zda (zs := (x ++ zs.drop p)) hl (by rw [List.length_append, List.length_drop]; omega) hF hxs (by omega) (by omega) M) ?_
  rintro _ w12 ⟨rfl, hM11⟩
  replace M : Mg w0 w12 (.row 30 11 (.slice (some ⟨g9, 0, none⟩) n9 c9) n9 (cellsOf (qci (ltC c) p ((p + 20) - (p + 1)) (p + 1) (x ++ zs.drop p))) :: T) := hM11
  refine ⟨_, rfl, ?_⟩
  intro a A
  refine qa (hK10 _ _ (wsk fun K13 hK13 => wrl (sdm A λa A↦?_)))
  refine sda A λa A↦?_
  refine qa (hK13 _ _ (wrl ?_))
  iterate 2 refine sdm A λa A↦?_
  refine sdo (v := .int .i64 ((((p + 20) + 20 : Nat) : Int))) A (qf rfl rfl (ar_add ((in_i64 (by omega) (by omega)).trans (by omega)))) λa A↦?_
  refine sda A λa A↦?_
  refine qa ?_
  obtain ⟨y1, hy1, hy2, hy3⟩ := zqg H (by decide) hx (by omega) hX
  have hys : ∀ t ∈ y1 ++ zs.drop (p + 20), t ∈ ts := fun t ht => hxs t (quh _ _ _ (hy2 ▸ ht))
  rw [hy2] at M
  refine hK5 _ _ _ (by omega) ⟨p + 20, y1, rfl, ⟨by omega, hy1, hys, hy3⟩, A.keep _ (by repeat' constructor), M⟩
 ·
  have hb9' := of_decide_eq_false hb9
  refine sdc A ue hb9 λa A↦?_
  refine qa (hK8 _ _ (wp_cond_false (A.ev rfl) ?_))
  refine wp_exit (hK3 _ _ (wsk fun K14 hK14 => wrl ?_))
  iterate 4 refine sdm A λa A↦?_
  refine sct A (ef rfl rfl) (zda (zs := (x ++ zs.drop p)) hl (by rw [List.length_append, List.length_drop]; omega) hF hxs (by omega) (by omega) M) ?_
  rintro _ w16 ⟨rfl, hM15⟩
  replace M : Mg w0 w16 (.row 30 11 (.slice (some ⟨g9, 0, none⟩) n9 c9) n9 (cellsOf (qci (ltC c) p (n9 - (p + 1)) (p + 1) (x ++ zs.drop p))) :: T) := hM15
  refine ⟨_, rfl, ?_⟩
  intro a A
  refine qa (hK14 _ _ (wp_block ?_))
  have h9 := zld H hx (by omega) (by omega) hX
  rw [hzl] at h9
  rw [h9] at M
  refine zw (fun m_ a w1 => ∃ (q : Nat), m_ = 1 + (n9 - q) ∧ (0 < q ∧ q ≤ 2 * n9 + 20) ∧ Sl a 63 [(0, .slice (some ⟨g9, 0, none⟩) n9 c9), (1, .int .i64 (((n9 : Nat) : Int))), (2, .func (.func f) #[] cs.toArray), (6, .int .i64 (((q : Nat) : Int))), (10, .int .i64 20), (11, .int .i64 (((p + 20 : Nat) : Int))), (12, .int .i64 (((n9 : Nat) : Int))), (13, .bool false), (23, .slice (some ⟨g9, 0, none⟩) n9 c9), (24, .int .i64 (((p : Nat) : Int))), (25, .int .i64 (((n9 : Nat) : Int))), (26, .func (.func f) #[] cs.toArray), (27, .tuple #[])] ∧ Mg w0 w1 (.row 30 11 (.slice (some ⟨g9, 0, none⟩) n9 c9) n9 (cellsOf (srt (ltC c) q zs)) :: T)) _ ⟨20, rfl, ⟨by decide, by omega⟩, A.keep _ (by repeat' constructor), M⟩ ?_
  clear M A
  rintro m_ a w17 ⟨q, rfl, hinv19, A, M⟩ K18 hK18
  obtain ⟨hq0, hq1⟩ := hinv19
  refine wsk fun K20 hK20 => wsk fun K21 hK21 => wrl ?_
  iterate 2 refine sdm A λa A↦?_
  rcases tf (decide (((q : Nat) : Int) < ((n9 : Nat) : Int))) with hb22 | hb22
  ·
   have hb22' := of_decide_eq_true hb22
   refine sdc A qz hb22 λa A↦?_
   refine qa (hK21 _ _ (wp_cond_true (A.ev rfl) ?_))
   refine wp_skip (hK20 _ _ (wp_block (wsk fun K23 hK23 => wrl (sdm A λa A↦?_))))
   refine sdo (v := .int .i64 (((0 + 2 * q : Nat) : Int))) A (qf rfl rfl (qig ((in_i64 (by omega) (by omega)).trans (by omega)))) λa A↦?_
   iterate 2 refine sda A λa A↦?_
   refine qa (hK23 _ _ (wsk fun K24 hK24 => wp_block (zw (fun m_ a w1 => ∃ (p2 : Nat) (x2 : List Dt), m_ = 1 + (n9 - p2) ∧ (p2 ≤ n9 ∧ x2.length = p2 ∧ (∀ t ∈ x2 ++ srt (ltC c) q (zs.drop p2), t ∈ ts) ∧ x2 ++ srt (ltC c) (2 * q) (zs.drop p2) = srt (ltC c) (2 * q) zs) ∧ Sl a 63 [(0, .slice (some ⟨g9, 0, none⟩) n9 c9), (1, .int .i64 (((n9 : Nat) : Int))), (2, .func (.func f) #[] cs.toArray), (6, .int .i64 (((q : Nat) : Int))), (7, .int .i64 (((p2 : Nat) : Int))), (8, .int .i64 (((p2 + 2 * q : Nat) : Int))), (10, .int .i64 20), (11, .int .i64 (((p + 20 : Nat) : Int))), (12, .int .i64 (((n9 : Nat) : Int))), (13, .bool false), (23, .slice (some ⟨g9, 0, none⟩) n9 c9), (24, .int .i64 (((p : Nat) : Int))), (25, .int .i64 (((n9 : Nat) : Int))), (26, .func (.func f) #[] cs.toArray), (27, .tuple #[]), (28, .int .i64 (((q : Nat) : Int))), (29, .int .i64 (((n9 : Nat) : Int))), (30, .bool true), (31, .int .i64 (((q : Nat) : Int))), (32, .int .i64 (((0 + 2 * q : Nat) : Int)))] ∧ Mg w0 w1 (.row 30 11 (.slice (some ⟨g9, 0, none⟩) n9 c9) n9 (cellsOf (x2 ++ srt (ltC c) q (zs.drop p2))) :: T)) _ ⟨0, [], rfl, ⟨Nat.zero_le _, rfl, fun t ht => hsub t ((quf _ zs (Nat.le_refl _)).mem_iff.1 ht), rfl⟩, A.keep _ (by repeat' constructor), M⟩ ?_)))
   clear M A
   rintro m_ a w25 ⟨p2, x2, rfl, hinv27, A, M⟩ K26 hK26
   obtain ⟨hp2, hx2, hx2s, hX2⟩ := hinv27
   refine wsk fun K28 hK28 => wsk fun K29 hK29 => wrl ?_
   iterate 2 refine sdm A λa A↦?_
   rcases tf (decide (((p2 + 2 * q : Nat) : Int) ≤ ((n9 : Nat) : Int))) with hb30 | hb30
   ·
    have hb30' := of_decide_eq_true hb30
    refine sdc A ue hb30 λa A↦?_
    refine qa (hK29 _ _ (wp_cond_true (A.ev rfl) ?_))
    refine wp_skip (hK28 _ _ (wp_block (wsk fun K31 hK31 => wrl ?_)))
    iterate 4 refine sdm A λa A↦?_
    refine sdo (v := .int .i64 (((p2 + q : Nat) : Int))) A (qf rfl rfl (ar_add ((in_i64 (by omega) (by omega)).trans (by omega)))) λa A↦?_
    iterate 2 refine sdm A λa A↦?_
    obtain ⟨hv1, hv2, y2, hy1, hy2, hy3⟩ := zqh H hq0 hx2 (by omega) hX2
    refine sct A (ef rfl rfl) (qqi hl hF H _ (zs := (x2 ++ srt (ltC c) q (zs.drop p2))) (Nat.le_refl _) (by rw [List.length_append, qqe, List.length_drop]; omega) hx2s (by omega) (by omega) (by omega) hv1 hv2 M) ?_
    rintro _ w33 ⟨rfl, hM32⟩
    replace M : Mg w0 w33 (.row 30 11 (.slice (some ⟨g9, 0, none⟩) n9 c9) n9 (cellsOf (mg (ltC c) (x2 ++ srt (ltC c) q (zs.drop p2)) p2 (p2 + q) (p2 + 2 * q))) :: T) := hM32
    refine ⟨_, rfl, ?_⟩
    intro a A
    refine qa (hK31 _ _ (wsk fun K34 hK34 => wrl (sdm A λa A↦?_)))
    refine sda A λa A↦?_
    refine qa (hK34 _ _ (wrl ?_))
    iterate 2 refine sdm A λa A↦?_
    refine sdo (v := .int .i64 (((2 * q : Nat) : Int))) A (qf rfl rfl (qig ((in_i64 (by omega) (by omega)).trans (by omega)))) λa A↦?_
    refine sdo (v := .int .i64 ((((p2 + 2 * q) + (2 * q) : Nat) : Int))) A (qf rfl rfl (ar_add ((in_i64 (by omega) (by omega)).trans (by omega)))) λa A↦?_
    refine sda A λa A↦?_
    refine qa ?_
    have hy2s : ∀ t ∈ y2 ++ srt (ltC c) q (zs.drop (p2 + 2 * q)), t ∈ ts := fun t ht => hx2s t (zlc (by omega) (by omega) (by rw [List.length_append, qqe, List.length_drop]; omega) (hy2 ▸ ht))
    rw [hy2] at M
    refine hK26 _ _ _ (by omega) ⟨p2 + 2 * q, y2, rfl, ⟨by omega, hy1, hy2s, hy3⟩, A.keep _ (by repeat' constructor), M⟩
   ·
    have hb30' := of_decide_eq_false hb30
    refine sdc A ue hb30 λa A↦?_
    refine qa (hK29 _ _ (wp_cond_false (A.ev rfl) ?_))
    refine wp_exit (hK24 _ _ (wsk fun K35 hK35 => wsk fun K36 hK36 => wrl ?_))
    iterate 2 refine sdm A λa A↦?_
    refine sdo (v := .int .i64 (((p2 + q : Nat) : Int))) A (qf rfl rfl (ar_add ((in_i64 (by omega) (by omega)).trans (by omega)))) λa A↦?_
    refine sda A λa A↦?_
    refine qa (hK36 _ _ (wsk fun K37 hK37 => wrl ?_))
    iterate 2 refine sdm A λa A↦?_
    rcases tf (decide (((p2 + q : Nat) : Int) < ((n9 : Nat) : Int))) with hb38 | hb38
    ·
     have hb38' := of_decide_eq_true hb38
     refine sdc A qz hb38 λa A↦?_
     refine qa (hK37 _ _ (wp_cond_true (A.ev rfl) ?_))
     refine wrl ?_
     iterate 5 refine sdm A λa A↦?_
     have hr := zle H hq0 hx2 (by omega) (by omega) hX2
     rw [hzl] at hr
     refine sct A (ef rfl rfl) (qqi hl hF H _ (zs := (x2 ++ srt (ltC c) q (zs.drop p2))) (Nat.le_refl _) (by rw [List.length_append, qqe, List.length_drop]; omega) hx2s (by omega) (by omega) (by omega) hr.1 hr.2.1 M) ?_
     rintro _ w40 ⟨rfl, hM39⟩
     replace M : Mg w0 w40 (.row 30 11 (.slice (some ⟨g9, 0, none⟩) n9 c9) n9 (cellsOf (mg (ltC c) (x2 ++ srt (ltC c) q (zs.drop p2)) p2 (p2 + q) n9)) :: T) := hM39
     refine ⟨_, rfl, ?_⟩
     intro a A
     refine qa (hK35 _ _ (wrl (sdm A λa A↦?_)))
     refine sdo (v := .int .i64 (((2 * q : Nat) : Int))) A (qf rfl rfl (qig ((in_i64 (by omega) (by omega)).trans (by omega)))) λa A↦?_
     refine sda A λa A↦?_
     refine qa ?_
     rw [hr.2.2] at M
     refine hK18 _ _ _ (by omega) ⟨2 * q, rfl, ⟨by omega, by omega⟩, A.keep _ (by repeat' constructor), M⟩
    ·
     have hb38' := of_decide_eq_false hb38
     refine sdc A qz hb38 λa A↦?_
     refine qa (hK37 _ _ (wp_cond_false (A.ev rfl) ?_))
     refine wp_skip (hK35 _ _ (wrl (sdm A λa A↦?_)))
     refine sdo (v := .int .i64 (((2 * q : Nat) : Int))) A (qf rfl rfl (qig ((in_i64 (by omega) (by omega)).trans (by omega)))) λa A↦?_
     refine sda A λa A↦?_
     refine qa ?_
     rw [zlf (by omega) hX2] at M
     refine hK18 _ _ _ (by omega) ⟨2 * q, rfl, ⟨by omega, by omega⟩, A.keep _ (by repeat' constructor), M⟩
  ·
   have hb22' := of_decide_eq_false hb22
   refine sdc A qz hb22 λa A↦?_
   refine qa (hK21 _ _ (wp_cond_false (A.ev rfl) ?_))
   refine wp_exit (hnorm _ _ (vh (v := .tuple #[]) A rfl .nil rfl ?_))
   rw [yk (by omega)] at M
   exact ⟨rfl, M⟩
theorem qzc {w0 w : World} {g9 c9 n9 : Nat} {zs : List Dt} {T : List Ck} (hl : n9 ≤ 1000000000) (hzl : zs.length = n9) {f : FuncId} {cs : List Value} {c : Dt → Dt → Int} {ts : List Dt} (hF : Cmps Tryz.prog f cs w0 T ts c) (hsub : ∀ t ∈ zs, t ∈ ts) (H : Swo (ltC c)) (hM0 : Mg w0 w (.row 30 11 (.slice (some ⟨g9, 0, none⟩) n9 c9) n9 (cellsOf zs) :: T)) : Calls Tryz.prog 71 #[.slice (some ⟨g9, 0, none⟩) n9 c9, .func (.func f) #[] cs.toArray] w fun e w' => e = .returned (.tuple #[]) ∧ Mg w0 w' (.row 30 11 (.slice (some ⟨g9, 0, none⟩) n9 c9) n9 (cellsOf (zp (ltC c) zs)) :: T) := by
 have M : Mg w0 w (.row 30 11 (.slice (some ⟨g9, 0, none⟩) n9 c9) n9 (cellsOf zs) :: T) := hM0
 refine qm (l := [(0, .slice (some ⟨g9, 0, none⟩) n9 c9), (1, .func (.func f) #[] cs.toArray)]) Tryz.func71 rfl Tryz.ntmps71 rfl rfl ?_
 intro Q hret hnorm hP a A
 refine wrl ?_
 iterate 2 refine sdm A λa A↦?_
 refine sdo A (zf Tryz.underlying22 rfl) λa A↦?_
 refine sdm A λa A↦?_
 refine sct A (ef rfl rfl) (qzb hl hzl hF hsub H M) ?_
 rintro _ w2 ⟨rfl, hM1⟩
 replace M : Mg w0 w2 (.row 30 11 (.slice (some ⟨g9, 0, none⟩) n9 c9) n9 (cellsOf (zp (ltC c) zs)) :: T) := hM1
 refine ⟨_, rfl, ?_⟩
 intro a A
 refine qa (hnorm _ _ (vh (v := .tuple #[]) A rfl .nil rfl ?_))
 exact ⟨rfl, M⟩
theorem zqj {w : World} {so9 : Option Addr} {c9 : Nat} {fv : Value} : Calls Tryz.prog 103 #[.slice so9 0 c9, .int .i64 0, .int .i64 0, fv] w fun e w' => e = .returned (.tuple #[]) ∧ Below w.heap.size w w' := by
 have M : Mg w w ([]) := Mg.start w
 refine qm (l := [(0, .slice so9 0 c9), (1, .int .i64 0), (2, .int .i64 0), (3, fv)]) Tryz.func103 rfl Tryz.ntmps103 rfl rfl ?_
 intro Q hret hnorm hP a A
 refine wsk fun K1 hK1 => wrl (sdm A λa A↦?_)
 refine sdo (v := .int .i64 1) A (qf rfl rfl (fun w => by kernel_rfl)) λa A↦?_
 refine sda A λa A↦?_
 refine qa (hK1 _ _ (wp_block (wp_loop_rounds 12 ?_)))
 refine xk fun K2 hK2 => ?_
 refine wsk fun K3 hK3 => wsk fun K4 hK4 => wrl ?_
 iterate 2 refine sdm A λa A↦?_
 refine sdo (v := .bool false) A (qf rfl rfl (fun w => by kernel_rfl)) λa A↦?_
 refine qa (hK4 _ _ (wp_cond_false (A.ev rfl) ?_))
 refine wp_exit (hnorm _ _ (vh (v := .tuple #[]) A rfl .nil rfl ?_))
 exact ⟨rfl, M.bel⟩
theorem qzd {w : World} {so9 : Option Addr} {c9 : Nat} {fv : Value} : Calls Tryz.prog 86 #[.slice so9 0 c9, .int .i64 0, fv] w fun e w' => e = .returned (.tuple #[]) ∧ Below w.heap.size w w' := by
 have M : Mg w w ([]) := Mg.start w
 refine qm (l := [(0, .slice so9 0 c9), (1, .int .i64 0), (2, fv)]) Tryz.func86 rfl Tryz.ntmps86 rfl rfl ?_
 intro Q hret hnorm hP a A
 refine wsk fun K1 hK1 => wrl (sda A λa A↦?_)
 refine qa (hK1 _ _ (wsk fun K2 hK2 => wrl (sdm A λa A↦?_)))
 iterate 2 refine sda A λa A↦?_
 refine qa (hK2 _ _ (wsk fun K3 hK3 => wp_block (wp_loop_rounds 12 ?_)))
 refine xk fun K4 hK4 => ?_
 refine wsk fun K5 hK5 => wsk fun K6 hK6 => wrl ?_
 iterate 2 refine sdm A λa A↦?_
 refine sdo (v := .bool false) A (qf rfl rfl (fun w => by kernel_rfl)) λa A↦?_
 refine qa (hK6 _ _ (wp_cond_false (A.ev rfl) ?_))
 refine wp_exit (hK3 _ _ (wsk fun K7 hK7 => wrl ?_))
 iterate 4 refine sdm A λa A↦?_
 refine gcl A M (ef rfl rfl) (zqj) fun w9 hb8 M a A => ?_
 refine qa (hK7 _ _ (wp_block (wp_loop_rounds 12 ?_)))
 refine xk fun K10 hK10 => ?_
 refine wsk fun K11 hK11 => wsk fun K12 hK12 => wrl ?_
 iterate 2 refine sdm A λa A↦?_
 refine sdo (v := .bool false) A (qf rfl rfl (fun w => by kernel_rfl)) λa A↦?_
 refine qa (hK12 _ _ (wp_cond_false (A.ev rfl) ?_))
 refine wp_exit (hnorm _ _ (vh (v := .tuple #[]) A rfl .nil rfl ?_))
 exact ⟨rfl, M.bel⟩
theorem zgb {w : World} {so9 : Option Addr} {c9 : Nat} {fv : Value} : Calls Tryz.prog 71 #[.slice so9 0 c9, fv] w fun e w' => e = .returned (.tuple #[]) ∧ Below w.heap.size w w' := by
 have M : Mg w w ([]) := Mg.start w
 refine qm (l := [(0, .slice so9 0 c9), (1, fv)]) Tryz.func71 rfl Tryz.ntmps71 rfl rfl ?_
 intro Q hret hnorm hP a A
 refine wrl ?_
 iterate 2 refine sdm A λa A↦?_
 refine sdo A (zf Tryz.underlying22 rfl) λa A↦?_
 refine sdm A λa A↦?_
 refine gcl A M (ef rfl rfl) (qzd) fun w2 hb1 M a A => ?_
 refine qa (hnorm _ _ (vh (v := .tuple #[]) A rfl .nil rfl ?_))
 exact ⟨rfl, M.bel⟩
theorem zgc {w0 w : World} {so9 : Option Addr} {c9 : Nat} {zs : List Dt} {T : List Ck} (hl : zs.length ≤ 1000000000) {f : FuncId} {cs : List Value} {c : Dt → Dt → Int} {ts : List Dt} (hF : Cmps Tryz.prog f cs w0 T ts c) (hsub : ∀ t ∈ zs, t ∈ ts) (H : Swo (ltC c)) (hM0 : Mg w0 w (.row 30 11 (.slice so9 zs.length c9) zs.length (cellsOf zs) :: T)) : Calls Tryz.prog 71 #[.slice so9 zs.length c9, .func (.func f) #[] cs.toArray] w fun e w' => e = .returned (.tuple #[]) ∧ Mg w0 w' (.row 30 11 (.slice so9 zs.length c9) zs.length (cellsOf (zp (ltC c) zs)) :: T) := by
 by_cases h : zs = []
 ·
  subst h
  exact zgb.mono fun e w' h => ⟨h.1, hM0.call h.2⟩
 ·
  obtain ⟨g, c, e⟩ := qji (hM0.has 0 rfl) (fun k => h (List.length_eq_zero_iff.1 k))
  cases e
  exact qzc hl rfl hF hsub H hM0
theorem LiD_is1_22 : Is1 Tryz.prog 22 := ⟨⟨_, Tryz.underlying22, rfl⟩, by kernel_rfl⟩
theorem LiD_is1_3 : Is1 Tryz.prog 3 := ⟨⟨_, Tryz.underlying3, rfl⟩, by kernel_rfl⟩
theorem LiD_fld_30_0 : FieldAt Tryz.prog 30 0 0 := ⟨_, _, Tryz.underlying30, rfl, rfl, by kernel_rfl⟩
theorem LiD_fld_30_5 : FieldAt Tryz.prog 30 5 10 := ⟨_, _, Tryz.underlying30, rfl, rfl, by kernel_rfl⟩
theorem LiD_isS_30 : IsS Tryz.prog 30 11 := ⟨⟨_, Tryz.underlying30⟩, by kernel_rfl⟩
theorem zgd {w : World} {t t0 : Dt} (ht : t.rd w) (h0 : t.ts[0]? = some t0) : Calls Tryz.prog 49 #[.agg (t.d.cells t.ts.length).toArray] w fun e w' => e = .returned (.agg (t0.d.cells t0.ts.length).toArray) ∧ Below w.heap.size w w' := by
 have hlt : 0 < t.ts.length := (List.getElem?_eq_some_iff.1 h0).1
 have M : Mg w w ([]) := Mg.start w
 refine qm (l := [(0, .agg (t.d.cells t.ts.length).toArray)]) Tryz.func49 rfl Tryz.ntmps49 rfl rfl ?_
 intro Q hret hnorm hP a A
 refine wsk fun K1 hK1 => wrl (ja (vs := (t.d.cells t.ts.length)) (t := 30) A M rfl rfl rfl pg (qs rfl rfl) (by decide) ?_)
 intro g2 w3 M a A
 refine ja (vs := (qr.d.cells qr.ts.length)) (t := 30) A M rfl rfl rfl pg (qk (z := .agg (qr.d.cells qr.ts.length).toArray) (by kernel_rfl) rfl) (by decide) ?_
 intro g4 w5 M a A
 refine qa (hK1 _ _ (wsk fun K6 hK6 => ?_))
 obtain ⟨t1, bt1, ot1, it1, mt1, rt1_, lt1, Ht1⟩ := qhd ht (i := 0) hlt
 obtain rfl : t1 = t0 := by rw [it1] at h0; exact Option.some.inj h0
 refine wrl (sdo (v := .pointer (some ⟨g2, 10, none⟩)) A (qb LiD_fld_30_5 rfl rfl) λa A↦?_)
 refine sdo A (ql M LiD_is1_22 rfl 1 rfl rfl) λa A↦?_
 refine sdo (v := .pointer (some ⟨bt1, ot1 + 0 * 11, none⟩)) A (zl (k := 0) Tryz.underlying22 (by kernel_rfl) rfl rfl rfl lt1 hlt) λa A↦?_
 refine sdo A (jd M Ht1 LiD_isS_30 rfl rfl) λa A↦?_
 refine zu (us := (t1.d.cells t1.ts.length)) (L' := (.obj g4 (.cells (t1.d.cells t1.ts.length).toArray 30) :: .obj g2 (.cells (t.d.cells t.ts.length).toArray 30) :: [])) A M rfl rfl (ze rfl rfl rfl (by kernel_rfl) M 0 rfl rfl rfl) 0 rfl rfl rfl ?_
 intro w7 M
 refine qa (hK6 _ _ (wp_ret (hret _ _ (en1 A rfl (jr M LiD_isS_30 rfl 0 rfl (cs := [.int .i64 t1.d.k, .int .i64 t1.d.n, .bool t1.d.y.q.b1, .slice t1.d.y.o1 t1.d.y.q.t1.length t1.d.y.c1, .slice t1.d.y.o2 t1.d.y.q.q1.length t1.d.y.c2, .bool t1.d.y.q.b2, .slice t1.d.y.o3 t1.d.y.q.t2.length t1.d.y.c3, .slice t1.d.y.o4 t1.d.y.q.q2.length t1.d.y.c4, .string t1.d.s, .slice t1.d.ro t1.d.rl.length t1.d.rc, .slice t1.d.lo t1.ts.length t1.d.lc]) rfl rfl) ?_))))
 exact ⟨rfl, M.bel⟩
theorem zdb {w : World} : Calls Tryz.prog 35 #[] w fun e w' => e = .returned (.agg (qti.d.cells qti.ts.length).toArray) ∧ Below w.heap.size w w' := by
 have M : Mg w w ([]) := Mg.start w
 refine qm (l := []) Tryz.func35 rfl Tryz.ntmps35 rfl rfl ?_
 intro Q hret hnorm hP a A
 refine wsk fun K1 hK1 => wrl (ja (vs := (qr.d.cells qr.ts.length)) (t := 30) A M rfl rfl rfl pg (qk (z := .agg (qr.d.cells qr.ts.length).toArray) (by kernel_rfl) rfl) (by decide) ?_)
 intro g2 w3 M a A
 refine qa (hK1 _ _ (wsk fun K4 hK4 => wrl (sdo (v := .agg #[.int .i64 1, .int .i64 0, .bool false, .slice none 0 0, .slice none 0 0, .bool false, .slice none 0 0, .slice none 0 0, .string (⟨#[]⟩), .slice none 0 0, .slice none 0 0]) A (zv rfl (fun w => by kernel_rfl)) λa A↦?_)))
 refine zu (us := [.int .i64 1, .int .i64 0, .bool false, .slice none 0 0, .slice none 0 0, .bool false, .slice none 0 0, .slice none 0 0, .string (⟨#[]⟩), .slice none 0 0, .slice none 0 0]) (L' := (.obj g2 (.cells #[.int .i64 1, .int .i64 0, .bool false, .slice none 0 0, .slice none 0 0, .bool false, .slice none 0 0, .slice none 0 0, .string (⟨#[]⟩), .slice none 0 0, .slice none 0 0] 30) :: [])) A M rfl rfl (ze rfl rfl rfl (by kernel_rfl) M 0 rfl rfl rfl) 0 rfl rfl rfl ?_
 intro w5 M
 refine qa (hK4 _ _ (wp_ret (hret _ _ (en1 A rfl (jr M LiD_isS_30 rfl 0 rfl (cs := [.int .i64 1, .int .i64 0, .bool false, .slice none 0 0, .slice none 0 0, .bool false, .slice none 0 0, .slice none 0 0, .string (⟨#[]⟩), .slice none 0 0, .slice none 0 0]) rfl rfl) ?_))))
 exact ⟨rfl, M.bel⟩
theorem qha {w0 w : World} {t : Dt} (h0 : Below w0.heap.size w0 w) (ht : t.rd w0) (hs : xv qn t.tr = true) (hb : t.tr.bulk ≤ 1000000000) : Calls Tryz.prog 58 #[.agg (t.d.cells t.ts.length).toArray] w fun e w' => (∃ so' ca' xs, e = .returned (.tuple #[.slice so' (xs : List Dt).length ca', .int .i64 0]) ∧ (jp t.tr = some (xs.map Dt.tr) ∧ (∀ x ∈ xs, x.rd w0) ∧ xs.length ≤ t.tr.bulk) ∧ Mg w w' [.row 30 11 (.slice so' xs.length ca') xs.length (cellsOf xs)]) ∨ (e = .returned (.tuple #[.slice none 0 0, .int .i64 10]) ∧ jp t.tr = none ∧ Below w.heap.size w w') := by
 have M : Mg w w ([]) := Mg.start w
 refine qm (l := [(0, .agg (t.d.cells t.ts.length).toArray)]) Tryz.func58 rfl Tryz.ntmps58 rfl rfl ?_
 intro Q hret hnorm hP a A
 refine wsk fun K1 hK1 => wrl (ja (vs := (t.d.cells t.ts.length)) (t := 30) A M rfl rfl rfl pg (qs rfl rfl) (by decide) ?_)
 intro g2 w3 M a A
 iterate 2 refine sda A λa A↦?_
 refine qa (hK1 _ _ (wsk fun K4 hK4 => wrl (sda A λa A↦?_)))
 refine qa (hK4 _ _ (wsk fun K5 hK5 => wp_block ?_))
 replace M := M.nilRow (jj (by simp) (jg jn)) 30 11
 refine zw (fun m_ a w1 => ∃ (p : Dt) (xs : List Dt) (so_ : Option Addr) (ca_ : Nat), m_ = 1 + p.tr.bulk ∧ (p.rd w0 ∧ xv qn p.tr = true ∧ (∀ x ∈ xs, x.rd w0) ∧ t.tr = zn (xs.map Dt.tr) p.tr ∧ xs.length + p.tr.bulk ≤ t.tr.bulk) ∧ Sl a 21 [(0, .agg (t.d.cells t.ts.length).toArray), (1, .pointer (some ⟨g2, 0, none⟩)), (2, .slice none 0 0), (3, .int .i64 0), (4, .slice so_ xs.length ca_)] ∧ Mg w w1 (.row 30 11 (.slice so_ xs.length ca_) xs.length (cellsOf xs) :: .obj g2 (.cells (p.d.cells p.ts.length).toArray 30) :: [])) _ ⟨t, [], none, 0, rfl, ⟨ht, hs, (fun x h => by cases h), rfl, (by show 0 + t.tr.bulk ≤ t.tr.bulk; omega)⟩, A.keep _ ⟨rfl, rfl, rfl, rfl, rfl, trivial⟩, M⟩ ?_
 clear M A
 rintro m_ a w6 ⟨p, xs, so_, ca_, rfl, hinv8, A, M⟩ K7 hK7
 obtain ⟨hp, hps, hxs, htl, hbx⟩ := hinv8
 refine wsk fun K9 hK9 => wsk fun K10 hK10 => wrl (sdo (v := .pointer (some ⟨g2, 0, none⟩)) A (qb LiD_fld_30_0 rfl rfl) λa A↦?_)
 refine sdo A (ql M LiD_is1_3 rfl 1 rfl rfl) λa A↦?_
 rcases tf ((p.d.k == 8)) with hb11 | hb11
 ·
  have hb11' := eq_of_beq hb11
  refine sdc A qp hb11 λa A↦?_
  refine qa (hK10 _ _ (wp_cond_true (A.ev rfl) ?_))
  refine wp_skip (hK9 _ _ (wp_block (wsk fun K12 hK12 => ?_)))
  have l2p := (zcd hps hb11').1
  have hbp := zkg p
  obtain ⟨p0, bp0, op0, ip0, mp0, rp0_, lp0, Hp0⟩ := qhd hp (i := 0) (by omega)
  obtain ⟨p1, bp1, op1, ip1, mp1, rp1_, lp1, Hp1⟩ := qhd hp (i := 1) (by omega)
  replace Hp0 := Hp0.below h0
  replace Hp1 := Hp1.below h0
  refine wrl (sdm A λa A↦?_)
  refine sdo A (zg M LiD_isS_30 rfl 1 rfl (cs := (p.d.cells p.ts.length)) rfl rfl) λa A↦?_
  refine gcl A M (ef rfl rfl) (zgd (Dt.keep M.bel _ (Dt.keep h0 _ hp)) ip0) fun w14 hb13 M a A => ?_
  refine qxf (e := 30) (sz := 11) (m := 1) (vs := cellsOf [p0]) A M rfl rfl rfl (jv rfl (by kernel_rfl)) rfl rfl (.inl (by decide)) ?_
  intro g15 w16 M a A
  refine qba (e := 30) (sz := 11) (k := 1) (q := xs.length) (m := 1) (xs := cellsOf xs) (news := cellsOf [p0]) (L' := fun v17 => (.row 30 11 (.slice (some ⟨g15, 0, none⟩) 1 1) 1 (cellsOf [p0]) :: .row 30 11 (v17) (xs.length + 1) (cellsOf xs ++ cellsOf [p0]) :: .obj g2 (.cells (p.d.cells p.ts.length).toArray 30) :: [])) A rfl rfl rfl (qpg (z := .agg #[.int .i64 0, .int .i64 0, .bool false, .slice none 0 0, .slice none 0 0, .bool false, .slice none 0 0, .slice none 0 0, .string ⟨#[]⟩, .slice none 0 0, .slice none 0 0]) (sz := 11) (by_ := 192) Tryz.underlying22 (by kernel_rfl) rfl rfl rfl M 1 rfl rfl rfl rfl (zsh (M.has 0 rfl)) (qeg [p0]) (by omega)) (fun _ => rfl) ?_
  intro v17 w18 M a A
  replace M : Mg w w18 (.row 30 11 (.slice (some ⟨g15, 0, none⟩) 1 1) 1 (cellsOf [p0]) :: .row 30 11 (v17) ((xs ++ [p0]).length) (cellsOf (xs ++ [p0])) :: .obj g2 (.cells (p.d.cells p.ts.length).toArray 30) :: []) := by
   rw [ky, List.length_append]; exact M
  obtain ⟨so19, ca20, rfl⟩ := qeh (M.has 1 rfl)
  refine sda A λa A↦?_
  refine qa (hK12 _ _ (wrl (sdo (v := .pointer (some ⟨g2, 10, none⟩)) A (qb LiD_fld_30_5 rfl rfl) λa A↦?_)))
  refine sdo A (ql M LiD_is1_22 rfl 2 rfl rfl) λa A↦?_
  refine sdo (v := .pointer (some ⟨bp1, op1 + 1 * 11, none⟩)) A (zl (k := 1) Tryz.underlying22 (by kernel_rfl) rfl rfl rfl lp1 (by omega)) λa A↦?_
  refine sdo A (jd M Hp1 LiD_isS_30 rfl rfl) λa A↦?_
  refine zu (us := (p1.d.cells p1.ts.length)) (L' := (.row 30 11 (.slice (some ⟨g15, 0, none⟩) 1 1) 1 (cellsOf [p0]) :: .row 30 11 (.slice so19 ((xs ++ [p0]).length) ca20) ((xs ++ [p0]).length) (cellsOf (xs ++ [p0])) :: .obj g2 (.cells (p1.d.cells p1.ts.length).toArray 30) :: [])) A M rfl rfl (ze rfl rfl rfl (by kernel_rfl) M 2 rfl rfl rfl) 2 rfl rfl rfl ?_
  intro w21 M
  refine qa ?_
  replace M : Mg w w21 (.row 30 11 (.slice so19 ((xs ++ [p0]).length) ca20) ((xs ++ [p0]).length) (cellsOf (xs ++ [p0])) :: .obj g2 (.cells (p1.d.cells p1.ts.length).toArray 30) :: []) := by
   have h9 := M.sub (cn (cc (cc (.refl _))))
   exact h9
  refine hK7 _ _ _ (by have := qgg mp1; omega) ⟨p1, xs ++ [p0], so19, ca20, rfl, ⟨rp1_, (qyg hps).2 _ mp1, zkf hxs rp0_, zfh htl hps hb11' ip0 ip1, by have := qgg mp1; rw [List.length_append]; simp only [List.length_cons, List.length_nil]; omega⟩, A.keep _ ⟨rfl, rfl, rfl, rfl, rfl, trivial⟩, M⟩
 ·
  have hb11' := ne_of_beq_false hb11
  refine sdc A qp hb11 λa A↦?_
  refine qa (hK10 _ _ (wp_cond_false (A.ev rfl) ?_))
  refine wp_exit (hK5 _ _ (wsk fun K22 hK22 => wsk fun K23 hK23 => wrl (sdo (v := .pointer (some ⟨g2, 0, none⟩)) A (qb LiD_fld_30_0 rfl rfl) λa A↦?_)))
  refine sdo A (ql M LiD_is1_3 rfl 1 rfl rfl) λa A↦?_
  rcases tf ((p.d.k != 1)) with hb24 | hb24
  ·
   have hb24' := bne_iff_ne.1 hb24
   refine sdc A zm hb24 λa A↦?_
   refine qa (hK23 _ _ (wp_cond_true (A.ev rfl) ?_))
   refine wsk fun K25 hK25 => wrl ?_
   iterate 2 refine sda A λa A↦?_
   refine qa (hK25 _ _ (wp_ret (hret _ _ (en2 A rfl (qh rfl) (qh rfl) ?_))))
   exact .inr ⟨rfl, qyi htl hb11' hb24', M.bel⟩
  ·
   have hb24' := bne_eq_false_iff_eq.1 hb24
   refine sdc A zm hb24 λa A↦?_
   refine qa (hK23 _ _ (wp_cond_false (A.ev rfl) ?_))
   refine wp_skip (hK22 _ _ (wsk fun K26 hK26 => wrl (sdm A λa A↦?_)))
   iterate 2 refine sda A λa A↦?_
   refine qa (hK26 _ _ (wp_ret (hret _ _ (en2 A rfl (qh rfl) (qh rfl) ?_))))
   replace M : Mg w w6 (.row 30 11 (.slice so_ xs.length ca_) xs.length (cellsOf xs) :: []) := by
    have h9 := M.sub (cc (cn (.refl _)))
    exact h9
   exact .inl ⟨_, _, xs, rfl, ⟨qyh htl hps hb24', hxs, by omega⟩, M⟩
theorem qmd {w0 w : World} {t : Dt} (h0 : Below w0.heap.size w0 w) (ht : t.rd w0) (hs : xv qn t.tr = true) (hb : t.tr.bulk ≤ 1000000000) (h : (jp t.tr).isSome = true) : Calls Tryz.prog 58 #[.agg (t.d.cells t.ts.length).toArray] w fun e w' => ∃ so' ca' xs, e = .returned (.tuple #[.slice so' (xs : List Dt).length ca', .int .i64 0]) ∧ (jp t.tr = some (xs.map Dt.tr) ∧ (∀ x ∈ xs, x.rd w0) ∧ xs.length ≤ t.tr.bulk) ∧ Mg w w' [.row 30 11 (.slice so' xs.length ca') xs.length (cellsOf xs)] := by
 refine (qha h0 ht hs hb).mono ?_
 rintro e w' (h1 | ⟨_, h2, _⟩)
 ·
  exact h1
 ·
  rw [h2] at h; cases h
theorem qme {w0 w : World} {t : Dt} (h0 : Below w0.heap.size w0 w) (ht : t.rd w0) (hs : xv qn t.tr = true) (hb : t.tr.bulk ≤ 1000000000) (h : (jp t.tr).isSome = false) : Calls Tryz.prog 58 #[.agg (t.d.cells t.ts.length).toArray] w fun e w' => e = .returned (.tuple #[.slice none 0 0, .int .i64 10]) ∧ Below w.heap.size w w' := by
 refine (qha h0 ht hs hb).mono ?_
 rintro e w' (⟨_, _, xs, _, h1, _⟩ | ⟨h1, _, h3⟩)
 ·
  rw [h1.1] at h; cases h
 ·
  exact ⟨h1, h3⟩
section
variable {F : Fence} {m : Nat} {P : Program} {w0 w w' : World} {L : List Ck} {l : List (Nat × Value)} {ops : List Oper} {Q : Exit → Act → World → Prop} {a : Act} {n : Nat} {o : Oper} {rest : List Oper} {d : Nat} {v : Value}
/-- The slots, whatever waits for the function's end. -/
def Sd (a : Act) (n : Nat) (l : List (Nat × Value)) : Prop := Sl { a with defers := [] } n l
theorem qqj (hnd : ∀ c, o.op ≠ .defer c) (r : Option Nat) (ρ : Operand → Value) : o.semAt r ρ = execOp ρ o := by
  cases r with
  | none => rfl
  | some k => exact Oper.semAt_some k _ _ hnd
theorem ye (hF : ∀ f, F.fn f) (hA : Sd a n l) (hg : zq l ops o = true) (hdst : o.dst = some d) (hd : Nat.blt d n = true) (hnd : ∀ c, o.op ≠ .defer c) (he : Does P l o w v w')
    (hk : ∀ a', Sd a' n ((d, v) :: l) → a'.defers = a.defers → wpListIn F m P ops.toArray Q rest a' w') : wpListIn F m P ops.toArray Q (o :: rest) a w := by
  unfold wpListIn
  rw [if_pos (show Region.wanted o (yielded ops.toArray a.tmps) = true from hA.wanted hg)]
  refine ⟨fun f _ => hF f, ?_⟩
  rw [qqj hnd, he a.eval (fun x u hx => hA.ev hx), Oper.uponIn_value, hdst]
  exact hk _ (hA.put hd v) rfl
theorem zlh (hF : ∀ f, F.fn f) (hA : Sd a n l) (hg : zq l ops o = true) (hdst : o.dst = none) (hnd : ∀ c, o.op ≠ .defer c) (he : Sets P l o w w')
    (hk : wpListIn F m P ops.toArray Q rest a w') : wpListIn F m P ops.toArray Q (o :: rest) a w := by
  unfold wpListIn
  rw [if_pos (show Region.wanted o (yielded ops.toArray a.tmps) = true from hA.wanted hg)]
  refine ⟨fun f _ => hF f, ?_⟩
  rw [qqj hnd, he a.eval (fun x u hx => hA.ev hx), Oper.uponIn_skip, hdst]
  exact hk
theorem ztf (hF : ∀ f, F.fn f) (hd0 : F.depth = none) (hA : Sd a n l) (hg : zq l ops o = true) (hdst : o.dst = some d) (hd : Nat.blt d n = true) (hnd : ∀ c, o.op ≠ .defer c) {f : FuncId} {vs : List Value} (he : Enters P l o w f vs) {R : World → Prop} (hc : CallsIn F (m - 1) P f vs.toArray w fun e w' => e = .returned v ∧ R w')
    (hk : ∀ w', R w' → ∀ a', Sd a' n ((d, v) :: l) → a'.defers = a.defers → wpListIn F m P ops.toArray Q rest a' w') : wpListIn F m P ops.toArray Q (o :: rest) a w := by
  unfold wpListIn
  rw [if_pos (show Region.wanted o (yielded ops.toArray a.tmps) = true from hA.wanted hg)]
  refine ⟨fun f _ => hF f, ?_⟩
  rw [qqj hnd, he a.eval (fun x u hx => hA.ev hx), Oper.uponIn_enter]
  refine ⟨(fun h => by rw [hd0] at h; cases h), hc.mono ?_⟩
  rintro _ w' ⟨rfl, h⟩
  rw [hdst]
  exact hk w' h _ (hA.put hd v) rfl
/-- A loop of so many rounds. -/
theorem ztg {c : Code} (I : Nat → Act → World → Prop) (N : Nat) (h0 : I N a w) (round : ∀ k a w, I k a w → c.wpIn F m P (Exit.then (fun a' w' => ∃ j, k = j + 1 ∧ I j a' w') Q) a w) : (Code.loop c).wpIn F m P Q a w := by
  have key : ∀ k a w, I k a w → Code.roundsIn F m P c Q (k + 1) a w := by
    intro k
    induction k with
    | zero =>
      intro a w h
      refine wpIn_mono (round 0 a w h) (fun e a' w' hq => ?_)
      cases e with
      | normal => obtain ⟨j, hj, _⟩ := hq; omega
      | _ => exact hq
    | succ k ih =>
      intro a w h
      refine wpIn_mono (round (k + 1) a w h) (fun e a' w' hq => ?_)
      cases e with
      | normal =>
        obtain ⟨j, hj, hI⟩ := hq
        obtain rfl : k = j := by omega
        exact ih a' w' hI
      | _ => exact hq
  exact wpIn_loop_rounds (N + 1) (key N a w h0)
/-- A round of a loop is called. -/
theorem zra (hF : ∀ f, F.fn f) (hd0 : F.depth = none) (hA : Sd a n l) (hg : zq l ops o = true) (hdst : o.dst = some d) (hd : Nat.blt d n = true) (hnd : ∀ c, o.op ≠ .defer c) {k : Nat} {vs : List Value} (he : ∀ ρ : Operand → Value, (∀ x u, ev l x = some u → ρ x = u) → (execOp ρ o).run P w = (Instr.yield k vs.toArray).run P w) {R : Bool → World → Prop} (hy : YieldAt F (m - 1) P k vs.toArray w fun e w' => ∃ b, e = .returned (.bool b) ∧ R b w')
    (hk : ∀ b w', R b w' → ∀ a', Sd a' n ((d, .bool b) :: l) → a'.defers = a.defers → wpListIn F m P ops.toArray Q rest a' w') : wpListIn F m P ops.toArray Q (o :: rest) a w := by
  obtain ⟨fn, tmps, assign, body, h1, h2⟩ := hy
  unfold wpListIn
  rw [if_pos (show Region.wanted o (yielded ops.toArray a.tmps) = true from hA.wanted hg)]
  refine ⟨fun f _ => hF f, ?_⟩
  rw [qqj hnd, he a.eval (fun x u hx => hA.ev hx), h1, Oper.uponIn_round]
  refine ⟨(fun h => by rw [hd0] at h; cases h), h2.mono ?_⟩
  rintro _ w' ⟨b, rfl, h⟩
  rw [hdst]
  exact hk b w' h _ (hA.put hd (.bool b)) rfl
theorem qui {x : Operand} {k : Nat} {args : List Operand} {ts : Array TypeId} {vs : List Value} {dst : Option Tmp} {ty : TypeId} {pos : String} {after : Array Edge} {guard : Option (Nat × Bool)} (hx : ev l x = some (.func (.yield k) #[] #[])) (ha : evs l args = some vs) :
    ∀ ρ : Operand → Value, (∀ x u, ev l x = some u → ρ x = u) → (execOp ρ ⟨dst, .call ⟨.value x, args.toArray, ts⟩, ty, pos, after, guard⟩).run P w = (Instr.yield k vs.toArray).run P w := fun ρ h => by
  have e := qpb h args vs ha
  simp [execOp, resolve, invoke, h x _ hx, Deferred.ofValue, e]
theorem Sd.sl (h : Sd a n l) (hd : a.defers = []) : Sl a n l := ⟨h.size, h.holds, hd⟩
theorem Sd.ev (h : Sd a n l) {x : Operand} {v : Value} (hx : Go.Proofs.YtipikhcmieboaaaGreatDoor.G.ev l x = some v) : a.eval x = v := Sl.ev h hx
theorem Sd.keep (h : Sd a n l) (l' : List (Nat × Value)) (hs : AllIn l l') : Sd a n l' := Sl.keep h l' hs
theorem zth {f : FuncId} {fn : Func} {c : Code} {args : List Value} {Z : Ending → World → Prop} (hf : P.funcs[f]? = some fn) (hb : fn.body = some c) (hF : F.fn f) (hn : fn.ntmps = n) (hl : Nat.ble args.length n = true) (hs : (args.zipIdx.map fun p => (p.2, p.1)) = l) (hro : F.round = none)
    (h : ∀ Q : Exit → Act → World → Prop, (∀ a w, bodyPost P fn Z .ret a w → Q .ret a w) → (∀ a w, bodyPost P fn Z .ret a w → Q .normal a w) → ∀ a, Sd a n l → a.defers = [] → c.wpIn F m P Q a w) : CallsIn F m P f args.toArray w Z := by
  subst hs
  refine callsIn_of_wp hf hb hF (h _ (fun _ _ h => h) (fun _ _ h => h) _ ?_ rfl) hro
  rw [hn]
  exact Sl.enter (Nat.le_of_ble_eq_true hl)
theorem zrb {f : FuncId} {fn : Func} {c : Code} {args : List Value} {Z : Ending → World → Prop} (hf : P.funcs[f]? = some fn) (hb : fn.body = some c) (hF : F.fn f) (hn : fn.ntmps = n) (hl : Nat.ble args.length n = true) (hs : (args.zipIdx.map fun p => (p.2, p.1)) = l) (hro : F.round = none)
    (h : ∀ Q : Exit → Act → World → Prop, (∀ a w, bodyPostM F m P fn Z .ret a w → Q .ret a w) → ∀ a, Sd a n l → a.defers = [] → c.wpIn F m P Q a w) : CallsIn F m P f args.toArray w Z := by
  subst hs
  refine callsIn_of_wp_marks hf hb hF (h _ (fun _ _ h => h) _ ?_ rfl) hro
  rw [hn]
  exact Sl.enter (Nat.le_of_ble_eq_true hl)
theorem qfa {x y : Code} (h : ∀ K : Act → World → Prop, (∀ a w, y.wpIn F m P Q a w → K a w) → x.wpIn F m P (Exit.then K Q) a w) : (Code.seq x y).wpIn F m P Q a w := wpIn_seq (h _ (fun _ _ h => h))
theorem zli (hF : ∀ f, F.fn f) (hA : Sd a n l) (hM : Mg w0 w L) (hg : zq l ops o = true) (hdst : o.dst = some d) (hd : Nat.blt d n = true) (hnd : ∀ c, o.op ≠ .defer c) {vs : List Value} {t : TypeId} (val : Nat → Value) (he : Does P l o w (val w.heap.size) (w.alloc (.cells vs.toArray t))) (ht : t ≠ BY)
    (hk : ∀ g w', Mg w0 w' (.obj g (.cells vs.toArray t) :: L) → w.heap.size ≤ g → g < w'.heap.size → Below w.heap.size w w' → KeepsOthers w w' → ∀ a', Sd a' n ((d, val g) :: l) → a'.defers = a.defers → wpListIn F m P ops.toArray Q rest a' w') : wpListIn F m P ops.toArray Q (o :: rest) a w :=
  ye hF hA hg hdst hd hnd he (hk _ _ (hM.addObj _ (yj ht)) (Nat.le_refl _) (by simp) ((Below.refl _ w).alloc (Nat.le_refl _) _) (KeepsOthers.alloc _ _))
end
theorem uk (g : Nat) : ∀ (cs : List Value) (w : World) (o : Nat), KeepsOthers w (w.setCells g o cs)
  | [], w, o => KeepsOthers.refl w
  | c :: cs, w, o => (KeepsOthers.setCell w ⟨g, o, none⟩ c).trans (uk g cs _ _)
theorem qcj {B : Nat} (g : Nat) (hg : B ≤ g) : ∀ (cs : List Value) (w : World) (o : Nat), Below B w (w.setCells g o cs)
  | [], w, o => Below.refl _ w
  | c :: cs, w, o => ((Below.refl B w).setCell (p := ⟨g, o, none⟩) hg c).trans (qcj g hg cs _ _)
/-- A block that holds no cells is turned: all cells are kept. -/
theorem qga {w w' : World} {row : Option Nat} (hg : w.grownBy w' row) (hr : ∀ r, row = some r → ∃ o : Obj, w.heap[r]? = some o ∧ o.isCells = false) : Kept (fun _ => True) w w' := ⟨hg.size, fun b i v _ hc => by
  by_cases e : row = some b
  · obtain ⟨o, ho, hn⟩ := hr b e
    unfold World.cell? at hc
    simp only [ho] at hc
    cases o <;> simp_all [Obj.isCells]
  · exact hg.cell hc (fun k => e k.symm)⟩
theorem Mg.calm {w0 w w' : World} {L : List Ck} {row : Option Nat} (h : Mg w0 w L) (hg : w.grownBy w' row) (hr : ∀ r, row = some r → w0.heap.size ≤ r ∧ ∃ o : Obj, w.heap[r]? = some o ∧ o.isCells = false) (hL : ∀ c ∈ L, ∃ g vs t, c = .obj g (.cells vs t)) : Mg w0 w' L := by
  refine ⟨h.bel.grown hg h.bel.size (fun k e => (hr k e).1), fun c hc => ?_, h.dis⟩
  obtain ⟨g, vs, t, rfl⟩ := hL c hc
  have h2 := h.all _ hc
  refine ⟨h2.1, (hg.block g (Array.getElem?_eq_some_iff.1 h2.2).1 (fun e => ?_)).trans h2.2⟩
  obtain ⟨_, o, ho, hn⟩ := hr g e.symm
  rw [h2.2] at ho
  cases ho
  cases hn
theorem Dt.at_true : ∀ t : Dt, t.at_ (fun _ => True) := Dt.indT fun d ts ih => Dt.at_iff.2 ⟨⟨fun _ _ _ _ => trivial, fun _ _ _ _ => trivial, fun _ _ _ _ => trivial, fun _ _ _ _ => trivial, fun _ _ _ _ => trivial⟩, fun _ _ _ _ => trivial, ih⟩
theorem Here.kept {w w' : World} {b o : Nat} {cs : List Value} (h : Here w b o cs) (hk : Kept (fun _ => True) w w') : Here w' b o cs := ⟨Nat.lt_of_lt_of_le h.1 hk.1, fun j v hj => hk.2 _ _ _ trivial (h.2 j v hj)⟩
theorem qkd : Is1 Tryz.prog 22 := ⟨⟨_, Tryz.underlying22, rfl⟩, by kernel_rfl⟩
theorem yz : IsS Tryz.prog 30 11 := ⟨⟨_, Tryz.underlying30⟩, by kernel_rfl⟩
/-- What is handed to a round: a place, and a datum that was there. -/
def Al (w : World) : Type := { x : Int × Dt // x.2.rd w }
def zuh {w : World} (x : Al w) : Array Value := #[.int .i64 x.1.1, .agg (x.1.2.d.cells x.1.2.ts.length).toArray]
/-- What a round keeps: what lay there, and the iterator's own box. -/
def KpB (n₀ Bs : Nat) (W W' : World) : Prop := Below n₀ W W' ∧ ∀ v, W.cell? ⟨Bs, 0, none⟩ = some v → W'.cell? ⟨Bs, 0, none⟩ = some v
theorem KpB.refl (n₀ Bs : Nat) (W : World) : KpB n₀ Bs W W := ⟨Below.refl _ _, fun _ h => h⟩
theorem KpB.trans {n₀ Bs : Nat} {A B C : World} (h : KpB n₀ Bs A B) (k : KpB n₀ Bs B C) : KpB n₀ Bs A C := ⟨h.1.trans k.1, fun v hv => k.2 v (h.2 v hv)⟩
set_option maxRecDepth 100000 in
set_option maxHeartbeats 400000 in
theorem qze {wA w0 : World} {Bs : Nat} {so : Option Addr} {ca : Nat} {ts : List Dt} (hR : Rt wA so ts) (hD : ∀ t ∈ ts, t.rd wA) (hb : Below wA.heap.size wA w0) (hBs : w0.cell? ⟨Bs, 0, none⟩ = some (.slice so ts.length ca)) (hBl : Bs < w0.heap.size) (hl : ts.length ≤ 1000000000) (n : Nat) :
    SeqStopsK Fence.wide n Tryz.prog 98 #[.pointer (some ⟨Bs, 0, none⟩)] (zuh (w := wA)) (KpB wA.heap.size Bs) (fun ys => ys.map (fun x => x.1.2) = ts.reverse) (fun _ => True) ts.length w0 := by
  intro l J Jx W hW hJ hJx hY h0
  have hF : ∀ f, Fence.wide.fn f := fun _ => trivial
  rw [List.append_toArray]
  refine zth (l := [(0, .func (.yield l) #[] #[]), (1, .pointer (some ⟨Bs, 0, none⟩))]) Tryz.func98 rfl trivial rfl rfl rfl rfl ?_
  intro Q hret hnorm a hA hdf
  have hc : W.cell? ⟨Bs, 0, none⟩ = some (.slice so ts.length ca) := (hW.cell (p := ⟨Bs, 0, none⟩) hBl).trans hBs
  refine qfa fun K1 hK1 => wpIn_region_lit ?_
  refine ye (v := .slice so ts.length ca) hF hA rfl rfl rfl (by intro c h; cases h) (jq rfl (xz qkd hc)) fun a hA h2 => ?_
  refine ye (v := .int .i64 (ts.length : Nat)) hF hA rfl rfl rfl (by intro c h; cases h) (zf Tryz.underlying22 rfl) fun a hA h3 => ?_
  refine ye (v := .int .i64 ((ts.length : Int) - 1)) hF hA rfl rfl rfl (by intro c h; cases h) (qf rfl rfl (ar_sub (in_i64 (by omega) (by omega)))) fun a hA h4 => ?_
  refine ye (v := .int .i64 ((ts.length : Int) - 1)) hF hA rfl rfl rfl (by intro c h; cases h) (jk rfl) fun a hA h5 => ?_
  refine wpListIn_nil (hK1 _ _ (wpIn_block ?_))
  refine ztg (fun k a W' => k ≤ ts.length ∧ Sd a 19 [(0, .func (.yield l) #[] #[]), (1, .pointer (some ⟨Bs, 0, none⟩)), (3, .int .i64 ((k : Int) - 1))] ∧ a.defers = [] ∧ KpB wA.heap.size Bs W W' ∧ ∃ pre, J pre W' ∧ pre.map (fun x => x.1.2) = (ts.drop k).reverse) ts.length ⟨Nat.le_refl _, hA.keep _ ⟨rfl, rfl, rfl, trivial⟩, by rw [h5, h4, h3, h2, hdf], KpB.refl _ _ _, [], h0, by rw [List.drop_length]; rfl⟩ ?_
  rintro k a W' ⟨hk, hA, hd, hKp, pre, hJp, hpre⟩
  have hc' := hKp.2 _ hc
  refine qfa fun K2 hK2 => qfa fun K3 hK3 => wpIn_region_lit ?_
  refine ye (v := .int .i64 ((k : Int) - 1)) hF hA rfl rfl rfl (by intro c h; cases h) (qg rfl) fun a hA h2 => ?_
  refine ye (v := .bool (decide ((0 : Int) ≤ (k : Int) - 1))) hF hA rfl rfl rfl (by intro c h; cases h) (qf rfl rfl yh) fun a hA h3 => ?_
  refine wpListIn_nil (hK3 _ _ ?_)
  refine wpIn_cond_split (t := decide ((0 : Int) ≤ (k : Int) - 1)) (hA.ev rfl) (fun hq => ?_) (fun hq => ?_)
  · have hq' := of_decide_eq_true hq
    refine wpIn_skip (hK2 _ _ (qfa fun K4 hK4 => wpIn_block (qfa fun K5 hK5 => wpIn_region_lit ?_)))
    obtain ⟨t1, b1, o1, it1, mt1, rt1, lt1, Ht1⟩ := zfg hR hD (i := k - 1) (by omega)
    refine ye (v := .func (.yield l) #[] #[]) hF hA rfl rfl rfl (by intro c h; cases h) (qg rfl) fun a hA h4 => ?_
    refine ye (v := .int .i64 ((k : Int) - 1)) hF hA rfl rfl rfl (by intro c h; cases h) (qg rfl) fun a hA h5 => ?_
    refine ye (v := .slice so ts.length ca) hF hA rfl rfl rfl (by intro c h; cases h) (jq rfl (xz qkd hc')) fun a hA h6 => ?_
    refine ye (v := .int .i64 ((k : Int) - 1)) hF hA rfl rfl rfl (by intro c h; cases h) (qg rfl) fun a hA h7 => ?_
    refine ye (v := .pointer (some ⟨b1, o1 + (k - 1) * 11, none⟩)) hF hA rfl rfl rfl (by intro c h; cases h) (zl (k := k - 1) Tryz.underlying22 (by kernel_rfl) rfl rfl (by omega) lt1 (by omega)) fun a hA h8 => ?_
    have hbW : Below wA.heap.size wA W' := (hb.trans (hW.mono hb.size)).trans hKp.1
    refine ye (v := .agg (t1.d.cells t1.ts.length).toArray) hF hA rfl rfl rfl (by intro c h; cases h) (jq rfl (xm yz _ rfl (fun j v hj => (hbW.cell Ht1.1).trans (Ht1.2 j v hj)))) fun a hA h9 => ?_
    have hlen : pre.length < ts.length := by
      have := congrArg List.length hpre
      simp only [List.length_map, List.length_reverse, List.length_drop] at this
      omega
    refine zra (k := l) (vs := [.int .i64 ((k : Int) - 1), .agg (t1.d.cells t1.ts.length).toArray]) (R := fun b W2 => (b = true ∧ J (pre ++ [⟨((k : Int) - 1, t1), rt1⟩]) W2 ∧ KpB wA.heap.size Bs W' W2) ∨ (b = false ∧ Jx (pre ++ [⟨((k : Int) - 1, t1), rt1⟩]) W2)) hF rfl hA rfl rfl rfl (by intro c h; cases h) (qui rfl rfl) ?_ ?_
    · have := hY pre ⟨((k : Int) - 1, t1), rt1⟩ W' hJp hlen
      obtain ⟨fn, tmps, assign, body, e1, e2⟩ := this
      refine ⟨fn, tmps, assign, body, e1, e2.mono ?_⟩
      rintro e W2 (⟨rfl, h1, h2⟩ | ⟨rfl, h1⟩)
      · exact ⟨true, rfl, .inl ⟨rfl, h1, h2⟩⟩
      · exact ⟨false, rfl, .inr ⟨rfl, h1⟩⟩
    · rintro b W2 hR2 a hA h10
      refine ye (v := .bool (!b)) hF hA rfl rfl rfl (by intro c h; cases h) (zk rfl zx) fun a hA h11 => ?_
      refine wpListIn_nil (hK5 _ _ ?_)
      have hdd : a.defers = [] := by rw [h11, h10, h9, h8, h7, h6, h5, h4, h3, h2, hd]
      rcases hR2 with ⟨rfl, hJ2, hK2'⟩ | ⟨rfl, hJx2⟩
      · refine wpIn_cond_false (hA.ev rfl) (wpIn_skip (hK4 _ _ (wpIn_region_lit ?_)))
        refine ye (v := .int .i64 ((k : Int) - 1)) hF hA rfl rfl rfl (by intro c h; cases h) (qg rfl) fun a hA g1 => ?_
        refine ye (v := .int .i64 (((k - 1 : Nat) : Int) - 1)) hF hA rfl rfl rfl (by intro c h; cases h) (qf rfl rfl (ar_sub ((in_i64 (by omega) (by omega)).trans (by omega)))) fun a hA g2 => ?_
        refine ye (v := .int .i64 (((k - 1 : Nat) : Int) - 1)) hF hA rfl rfl rfl (by intro c h; cases h) (jk rfl) fun a hA g3 => ?_
        refine wpListIn_nil ?_
        refine ⟨k - 1, by omega, by omega, hA.keep _ ⟨rfl, rfl, rfl, trivial⟩, by rw [g3, g2, g1, hdd], hKp.trans hK2', _, hJ2, ?_⟩
        rw [List.map_append, hpre, List.drop_eq_getElem_cons (show k - 1 < ts.length by omega), List.reverse_cons, show k - 1 + 1 = k by omega]
        congr 1
        have := (List.getElem?_eq_some_iff.1 it1).2
        rw [this]
        rfl
      · refine wpIn_cond_true (hA.ev rfl) (wpIn_ret ?_)
        refine hret _ _ ?_
        exact vh (rs := []) (vs := []) (v := .tuple #[]) (hA.sl hdd) rfl .nil rfl ⟨⟨_, rfl⟩, .inr ⟨_, trivial, hJx2⟩⟩
  · have hq' := of_decide_eq_false hq
    refine wpIn_exit ?_
    obtain rfl : k = 0 := by omega
    refine hnorm _ _ ?_
    exact vh (rs := []) (vs := []) (v := .tuple #[]) (hA.sl (by rw [h3, h2, hd])) rfl .nil rfl ⟨⟨_, rfl⟩, .inl ⟨pre, hpre, hJp⟩⟩
theorem zlj {w : World} {so : Option Addr} {k ca : Nat} : Calls Tryz.prog 81 #[.slice so k ca] w fun e w' => e = .returned (.func (.func 98) #[] #[.pointer (some ⟨w.heap.size, 0, none⟩)]) ∧ w' = w.alloc (.cells #[.slice so k ca] 22) := by
  refine qm (l := [(0, .slice so k ca)]) Tryz.func81 rfl Tryz.ntmps81 rfl rfl ?_
  intro Q hret hnorm hP a hA
  refine wp_seq_k (fun K1 hK1 => ?_)
  refine wp_region_lit ?_
  refine ki (v := .pointer (some ⟨w.heap.size, 0, none⟩)) (w' := w.alloc (.cells #[.slice so k ca] 22)) hA rfl rfl rfl (qs (vs := [.slice so k ca]) rfl rfl) fun a hA => ?_
  refine ki hA rfl rfl rfl (jk rfl) fun a hA => ?_
  refine qa (hK1 _ _ (wp_seq_k (fun K2 hK2 => wp_region_lit ?_)))
  refine ki hA rfl rfl rfl (qca rfl) fun a hA => ?_
  refine ki hA rfl rfl rfl (jk rfl) fun a hA => ?_
  refine qa (hK2 _ _ (wp_ret (hret _ _ ?_)))
  exact vh (rs := [.tmp 2]) hA rfl (.cons (qh rfl) .nil) rfl ⟨rfl, rfl⟩
def ZC : List Value := [.int .i64 0, .int .i64 0, .bool false, .slice none 0 0, .slice none 0 0, .bool false, .slice none 0 0, .slice none 0 0, .string ⟨#[]⟩, .slice none 0 0, .slice none 0 0]
theorem quj {g1 g2 : Nat} {v1 v2 : Array Value} {t : TypeId} : ∀ c ∈ [Ck.obj g1 (.cells v1 t), Ck.obj g2 (.cells v2 t)], ∃ g vs t, c = Ck.obj g (.cells vs t) := by
  intro c hc
  simp only [List.mem_cons, List.not_mem_nil, or_false] at hc
  rcases hc with rfl | rfl
  · exact ⟨_, _, _, rfl⟩
  · exact ⟨_, _, _, rfl⟩
/-- The last datum so far lies in the box. -/
def LinkI (w : World) (g3 g4 : Nat) (u : Tr) (pre : List (Al w)) (W : World) : Prop := ∃ z : Dt, Mg w W [.obj g4 (.cells ZC.toArray 30), .obj g3 (.cells (z.d.cells z.ts.length).toArray 30)] ∧ z.rd W ∧ z.at_ (fun b => b ≠ g3 ∧ b ≠ g4) ∧ z.tr = zn ((pre.map (fun x => x.1.2.tr)).reverse) u
theorem zge (w : World) (g3 g4 : Nat) (u : Tr) (B : Nat) (hB : w.heap.size ≤ B) : OwnFrom B (LinkI w g3 g4 u) := by
  rintro pre W W' row ⟨z, hM, hr, ha, ht⟩ hg hrow
  exact ⟨z, hM.calm hg (fun r e => ⟨Nat.le_trans hB (hrow r e).1, (hrow r e).2⟩) quj, Dt.kept (qga hg (fun r e => (hrow r e).2)) _ hr (Dt.at_true _), ha, ht⟩
set_option maxRecDepth 100000 in
set_option maxHeartbeats 1000000 in
theorem qke {w : World} {so : Option Addr} {ca : Nat} {ts : List Dt} {u : Dt} (hR : Rt w so ts) (hD : ∀ t ∈ ts, t.rd w) (hu : u.rd w) (hl : ts.length ≤ 1000000000) : Calls Tryz.prog 63 #[.slice so ts.length ca, .agg (u.d.cells u.ts.length).toArray] w fun e w' => ∃ t2 : Dt, e = .returned (.agg (t2.d.cells t2.ts.length).toArray) ∧ (t2.rd w' ∧ t2.tr = zn (ts.map Dt.tr) u.tr) ∧ Below w.heap.size w w' := by
  refine (callsIn_wide (n := 5)).1 ?_
  have hF : ∀ f, Fence.wide.fn f := fun _ => trivial
  refine zrb (l := [(0, .slice so ts.length ca), (1, .agg (u.d.cells u.ts.length).toArray)]) Tryz.func63 rfl trivial rfl rfl rfl rfl ?_
  intro Q hret a hA hdf
  have hM : Mg w w [] := Mg.start w
  refine qfa fun K1 hK1 => wpIn_region_lit ?_
  refine zli (vs := u.d.cells u.ts.length) (t := 30) hF hA hM rfl rfl rfl (by intro c h; cases h) (fun g => .pointer (some ⟨g, 0, none⟩)) (qs rfl rfl) (by decide) ?_
  intro g3 W1 hM hg3 hg3' hB1 _ a hA h2
  refine zli (vs := ZC) (t := 30) hF hA hM rfl rfl rfl (by intro c h; cases h) (fun g => .pointer (some ⟨g, 0, none⟩)) (qk (z := .agg ZC.toArray) (by kernel_rfl) rfl) (by decide) ?_
  intro g4 W2 hM hg4 hg4' hB2 _ a hA h3
  refine wpListIn_nil (hK1 _ _ (qfa fun K2 hK2 => qfa fun K3 hK3 => wpIn_region_lit ?_))
  refine ye (v := .slice so ts.length ca) hF hA rfl rfl rfl (by intro c h; cases h) (qg rfl) fun a hA h4 => ?_
  refine ztf (R := fun W3 => W3 = W2.alloc (.cells #[.slice so ts.length ca] 22)) hF rfl hA rfl rfl rfl (by intro c h; cases h) (qj rfl rfl (fun w => by kernel_rfl)) (callsIn_wide.2 zlj) ?_
  rintro W3 hW3 a hA h5
  refine wpListIn_nil (hK3 _ _ (wpIn_block ?_))
  have hB3 : Below W2.heap.size W2 W3 := hW3 ▸ (Below.refl _ W2).alloc (Nat.le_refl _) _
  have hs3 : W3.heap.size = W2.heap.size + 1 := by rw [hW3]; simp
  have hc3 : W3.cell? ⟨W2.heap.size, 0, none⟩ = some (.slice so ts.length ca) := by
    rw [hW3, cell_of_row _ _ _ _ _ _ (heap_alloc_new W2 _)]; rfl
  replace hM := hM.call hB3
  have hw2 : w.heap.size ≤ W2.heap.size := by omega
  have hur : u.rd W3 := Dt.keep hM.bel _ hu
  have hua : u.at_ (fun b => b ≠ g3 ∧ b ≠ g4) := Dt.at_mono (fun b hb => by constructor <;> omega) _ (Dt.at_lt _ hu)
  refine wpIn_rangeFunc_ownH (F := Fence.wide) rfl (by decide) (gf := 98) (lb := #[.pointer (some ⟨W2.heap.size, 0, none⟩)]) (hA.ev rfl) trivial (fun us w => by kernel_rfl)
    (qze hR hD hM.bel hc3 (by omega) hl _) KpB.trans ?hkb (Below.refl _ _) (fun _ => rfl)
    (LinkI w g3 g4 u.tr) (fun _ _ _ => False) (zge w g3 g4 u.tr _ (by omega)) (fun _ _ _ _ _ hs _ _ => hs)
    ⟨u, hM, hur, hua, rfl⟩
    (fun x a' W => ∃ Bx, Sd a' 16 [(3, .pointer (some ⟨g3, 0, none⟩)), (4, .pointer (some ⟨g4, 0, none⟩)), (6, .pointer (some ⟨Bx, 0, none⟩))] ∧ Here W Bx 0 (x.1.2.d.cells x.1.2.ts.length))
    (fun x a' _ X Y row hs hg hr => by obtain ⟨Bx, h1, h2⟩ := hs; exact ⟨Bx, h1, h2.kept (qga hg (fun r e => (hr r e).2))⟩)
    ?assign ?body ?done ?stop
  case hkb =>
    intro W l o o' hl1 hl2 hl3 _
    refine ⟨⟨rfl, rfl, rfl, (grownBy_putObj' W l o').size, fun k hk => ?_⟩, fun v hv => ?_⟩
    · by_cases hk2 : k < W.heap.size
      · exact (grownBy_putObj' W l o').block k hk2 (fun e => by cases e; omega)
      · have := (Array.getElem?_eq_some_iff.1 hl2).1; omega
    · exact (grownBy_putObj' W l o').cell hv (fun e => by have e' : W2.heap.size = l := Option.some.inj e; omega)
  case assign =>
    rintro l pre x W K ⟨z, hMz, hrz, haz, htz⟩ hK
    have hA1 : Sd { tmps := (a.tmps.setIfInBounds 9 (.int .i64 x.1.1)).setIfInBounds 10 (.agg (x.1.2.d.cells x.1.2.ts.length).toArray), defers := [] } 16 _ := Sl.put (Sl.put hA (d := 9) rfl (.int .i64 x.1.1)) (d := 10) rfl (.agg (x.1.2.d.cells x.1.2.ts.length).toArray)
    have hF2 : ∀ f, (Fence.wide.inRound l).fn f := fun _ => trivial
    have hxr : x.1.2.rd W := Dt.keep hMz.bel _ x.2
    simp only [zuh, List.zip_toArray, List.zip_cons_cons, List.zip_nil_left, List.zip_nil_right, List.foldl_toArray', List.foldl_toArray, List.foldl_cons, List.foldl_nil]
    refine wpIn_region_lit ?_
    refine zli (a := { tmps := (a.tmps.setIfInBounds 9 (.int .i64 x.1.1)).setIfInBounds 10 (.agg (x.1.2.d.cells x.1.2.ts.length).toArray), defers := [] }) (vs := ZC) (t := 30) hF2 hA1 hMz rfl rfl rfl (by intro c h; cases h) (fun g => .pointer (some ⟨g, 0, none⟩)) (qk (z := .agg ZC.toArray) (by kernel_rfl) rfl) (by decide) ?_
    intro Bx W6 hM6 hBx hBx' hB6 hK6 a6 hA6 _
    refine zlh (w' := W6.setCells Bx 0 (x.1.2.d.cells x.1.2.ts.length)) hF2 hA6 rfl rfl (by intro c h; cases h) (ze rfl rfl rfl (by kernel_rfl) hM6 0 rfl rfl (jb x.1.2)) ?_
    have hM7 : Mg w (W6.setCells Bx 0 (x.1.2.d.cells x.1.2.ts.length)) (.obj Bx (.cells (x.1.2.d.cells x.1.2.ts.length).toArray 30) :: [.obj g4 (.cells ZC.toArray 30), .obj g3 (.cells (z.d.cells z.ts.length).toArray 30)]) := Mg.puts (x.1.2.d.cells x.1.2.ts.length) W6 _ ZC 0 hM6 0 rfl
    have hkp : Kept (· ≠ Bx) W6 (W6.setCells Bx 0 (x.1.2.d.cells x.1.2.ts.length)) := yx _ _ _ _
    have hks := hK6.trans (uk Bx (x.1.2.d.cells x.1.2.ts.length) W6 0)
    have hsW := hMz.bel.size
    have hbs := (hB6.mono hsW).trans (qcj (B := w.heap.size) Bx (by omega) (x.1.2.d.cells x.1.2.ts.length) W6 0)
    revert hkp hM7 hks hbs
    generalize W6.setCells Bx 0 (x.1.2.d.cells x.1.2.ts.length) = W7
    intro hM7 hkp hks hbs
    refine wpListIn_nil (hK _ _ (hks.from _) ⟨hbs, fun v hv => hkp.2 _ _ _ (show W2.heap.size ≠ Bx by have := cell_lt hv; omega) ((hB6.cell (p := ⟨W2.heap.size, 0, none⟩) (cell_lt hv)).trans hv)⟩ ⟨z, hM7.sub (cn (.refl _)), Dt.kept hkp _ (Dt.keep hB6 _ hrz) (Dt.at_mono (fun b hb => by intro e; omega) _ (Dt.at_lt _ hrz)), haz, htz⟩ ⟨Bx, hA6.keep _ ⟨rfl, rfl, rfl, trivial⟩, (Array.getElem?_eq_some_iff.1 (hM7.obj 0 rfl)).1, fun j v hj => by rw [Nat.zero_add]; exact hM7.cell 0 rfl j hj⟩)
  case body =>
    rintro l pre x a' W hl1 _ ⟨z, hMz, hrz, haz, htz⟩ ⟨Bx, hA, hH⟩ _
    have hF2 : ∀ f, (Fence.wide.inRound l).fn f := fun _ => trivial
    have hxr : x.1.2.rd W := Dt.keep hMz.bel _ x.2
    refine wpIn_block (wpIn_region_lit ?_)
    refine ye (v := .agg (x.1.2.d.cells x.1.2.ts.length).toArray) hF2 hA rfl rfl rfl (by intro c h; cases h) (jq rfl (xm yz _ rfl (fun j v hj => by have := hH.2 j v hj; rwa [Nat.zero_add] at this ⊢))) fun a hA h6 => ?_
    refine ye (v := .agg (z.d.cells z.ts.length).toArray) hF2 hA rfl rfl rfl (by intro c h; cases h) (zg hMz yz rfl 1 rfl (cs := z.d.cells z.ts.length) rfl rfl) fun a hA h7 => ?_
    refine ye (v := .slice (some ⟨W.heap.size, 0, none⟩) 2 2) (w' := W.alloc (.cells (cellsOf [x.1.2, z]).toArray 30)) hF2 hA rfl rfl rfl (by intro c h; cases h) (jv rfl (by kernel_rfl)) fun a hA h8 => ?_
    obtain ⟨z2, hz2⟩ : ∃ z2 : Dt, z2 = qei W.heap.size x.1.2 z := ⟨_, rfl⟩
    refine ye (v := .agg (z2.d.cells z2.ts.length).toArray) hF2 hA rfl rfl rfl (by intro c h; cases h) (by rw [hz2, qua]; exact zv rfl (fun w => by kernel_rfl)) fun a hA h9 => ?_
    have hB4 : Below W.heap.size W (W.alloc (.cells (cellsOf [x.1.2, z]).toArray 30)) := (Below.refl _ W).alloc (Nat.le_refl _) _
    have hM4 := hMz.call hB4
    have hnew := heap_alloc_new W (.cells (cellsOf [x.1.2, z]).toArray 30)
    have hK4 : KeepsOthers W (W.alloc (.cells (cellsOf [x.1.2, z]).toArray 30)) := KeepsOthers.alloc _ _
    have hs4 : (W.alloc (.cells (cellsOf [x.1.2, z]).toArray 30)).heap.size = W.heap.size + 1 := by simp
    have hg3W : g3 < W.heap.size := (Ck.lt (hMz.has 1 rfl) g3 rfl).2
    have hg4W : g4 < W.heap.size := (Ck.lt (hMz.has 0 rfl) g4 rfl).2
    have hsW := hMz.bel.size
    revert hB4 hM4 hnew hK4 hs4
    generalize W.alloc (.cells (cellsOf [x.1.2, z]).toArray 30) = W4
    intro hB4 hM4 hnew hK4 hs4
    refine zlh (w' := W4.setCells g3 0 (z2.d.cells z2.ts.length)) hF2 hA rfl rfl (by intro c h; cases h) (ze rfl rfl rfl (by kernel_rfl) hM4 1 rfl rfl (jb z2)) ?_
    refine wpListIn_nil ?_
    have hkp : Kept (· ≠ g3) W4 (W4.setCells g3 0 (z2.d.cells z2.ts.length)) := yx _ _ _ _
    have hM5 : Mg w (W4.setCells g3 0 (z2.d.cells z2.ts.length)) [.obj g4 (.cells ZC.toArray 30), .obj g3 (.cells (z2.d.cells z2.ts.length).toArray 30)] := Mg.puts (z2.d.cells z2.ts.length) W4 _ (z.d.cells z.ts.length) 0 hM4 1 rfl
    have hx5 : x.1.2.rd (W4.setCells g3 0 (z2.d.cells z2.ts.length)) := Dt.keep hM5.bel _ x.2
    have hz5 : z.rd (W4.setCells g3 0 (z2.d.cells z2.ts.length)) := Dt.kept hkp _ (Dt.keep hB4 _ hrz) (Dt.at_mono (fun b hb => hb.1) _ haz)
    have hxa : x.1.2.at_ (fun b => b ≠ g3 ∧ b ≠ g4) := Dt.at_mono (fun b hb => by constructor <;> omega) _ (Dt.at_lt _ x.2)
    have hks := hK4.trans (uk g3 (z2.d.cells z2.ts.length) W4 0)
    have hbs := (hB4.mono hsW).trans (qcj (B := w.heap.size) g3 (by omega) (z2.d.cells z2.ts.length) W4 0)
    revert hkp hM5 hx5 hz5 hks hbs
    generalize W4.setCells g3 0 (z2.d.cells z2.ts.length) = W5
    intro hkp hM5 hx5 hz5 hks hbs
    refine ⟨hks.from _, ⟨hbs, fun v hv => hkp.2 _ _ _ (show W2.heap.size ≠ g3 by omega) ((hB4.cell (p := ⟨W2.heap.size, 0, none⟩) (cell_lt hv)).trans hv)⟩, z2, hM5, ?_, ?_, ?_⟩
    · rw [hz2]
      refine zki (by have := hkp.1; omega) (fun p v hp => hkp.2 _ _ _ (show W.heap.size ≠ g3 by omega) ?_) hx5 hz5
      rw [cell_of_row _ _ _ _ _ _ hnew]
      simpa using hp
    · rw [hz2]
      exact zkj ⟨by omega, by omega⟩ hxa haz
    · rw [hz2, zkh, List.map_append, List.reverse_append]
      show Tr.mk 8 0 Q6.zero ⟨#[]⟩ [] [x.1.2.tr, z.tr] = zn (x.1.2.tr :: _) u.tr
      rw [htz]
      rfl
  case done =>
    rintro D xs W hD1 hS ⟨z, hMz, hrz, haz, htz⟩ hDf
    have hA2 : Sd { a with defers := { target := .collected D, args := #[] } :: a.defers } 16 _ := hA
    revert hA2
    generalize hae : ({ a with defers := { target := .collected D, args := #[] } :: a.defers } : Act) = a2
    intro hA2
    have had : a2.defers = [{ target := .collected D, args := #[] }] := by rw [← hae]; show _ :: a.defers = _; rw [h5, h4, h3, h2, hdf]
    refine hK2 _ _ (qfa fun K6 hK6 => wpIn_region_lit ?_)
    refine ye (v := .agg (z.d.cells z.ts.length).toArray) hF hA2 rfl rfl rfl (by intro c h; cases h) (zg hMz yz rfl 1 rfl (cs := z.d.cells z.ts.length) rfl rfl) fun a3 hA3 h6 => ?_
    refine zlh (w' := W.setCells g4 0 (z.d.cells z.ts.length)) hF hA3 rfl rfl (by intro c h; cases h) (ze rfl rfl rfl (by kernel_rfl) hMz 0 rfl rfl (jb z)) ?_
    have hM5 : Mg w (W.setCells g4 0 (z.d.cells z.ts.length)) [.obj g4 (.cells (z.d.cells z.ts.length).toArray 30), .obj g3 (.cells (z.d.cells z.ts.length).toArray 30)] := Mg.puts (z.d.cells z.ts.length) W _ ZC 0 hMz 0 rfl
    have hz5 : z.rd (W.setCells g4 0 (z.d.cells z.ts.length)) := Dt.kept (yx _ _ _ _) _ hrz (Dt.at_mono (fun b hb => hb.2) _ haz)
    have hD5 := (uk g4 (z.d.cells z.ts.length) W 0).same D _ hDf rfl
    have hgr := grownBy_putObj' (W.setCells g4 0 (z.d.cells z.ts.length)) D (.deferred none)
    have hM6 := hM5.calm hgr (fun r e => by cases e; exact ⟨by omega, _, hD5, rfl⟩) quj
    have hz6 := Dt.kept (qga hgr (fun r e => by cases e; exact ⟨_, hD5, rfl⟩)) _ hz5 (Dt.at_true _)
    refine wpListIn_nil (hK6 _ _ (wpIn_ret (hret _ _ ?_)))
    show LeavesInM _ _ _ _ _ _ a3.defers .returning _
    rw [h6, had]
    refine ⟨by simp, .inl ⟨D, _, rfl, run_takeDeferred hD5, ?_⟩⟩
    have hfin : (fun (e : Ending) (w' : World) => ∃ t2 : Dt, e = .returned (.agg (t2.d.cells t2.ts.length).toArray) ∧ (t2.rd w' ∧ t2.tr = zn (ts.map Dt.tr) u.tr) ∧ Below w.heap.size w w') (.returned (.agg (z.d.cells z.ts.length).toArray)) ((W.setCells g4 0 (z.d.cells z.ts.length)).putObj D (.deferred none)) := by
      refine ⟨z, rfl, ⟨hz6, ?_⟩, hM6.bel⟩
      rw [htz]
      have e1 : xs.map (fun x => x.1.2.tr) = (xs.map (fun x => x.1.2)).map Dt.tr := by rw [List.map_map]; rfl
      rw [e1, show xs.map (fun x => x.1.2) = ts.reverse from hS, List.map_reverse, List.reverse_reverse]
    exact (vh (P := Tryz.prog) (fn := Tryz.f63) (Z := (fun (e : Ending) (w' : World) => ∃ t2 : Dt, e = .returned (.agg (t2.d.cells t2.ts.length).toArray) ∧ (t2.rd w' ∧ t2.tr = zn (ts.map Dt.tr) u.tr) ∧ Below w.heap.size w w')) (v := .agg (z.d.cells z.ts.length).toArray) (rs := [.cell 4 30]) (vs := [.agg (z.d.cells z.ts.length).toArray]) hA3 rfl (.cons (jr hM6 yz rfl 0 rfl (cs := z.d.cells z.ts.length) rfl rfl) .nil) rfl hfin).2
  case stop =>
    rintro D c pre W _ _ h _
    exact h.elim
mutual
/-- How many nodes. -/
def yf : Tr → Nat
  | .mk _ _ _ _ _ ts => 1 + ju ts
def ju : List Tr → Nat
  | [] => 0
  | t :: ts => yf t + ju ts
end
mutual
/-- Not too deep. -/
def kh (dp : Int) : Tr → Bool
  | .mk k _ _ _ _ ts => decide (dp ≤ 200) && qag dp (decide (k = 8)) 0 ts
def qag (dp : Int) (pr : Bool) (i : Nat) : List Tr → Bool
  | [] => true
  | t :: ts => kh (if pr = true ∧ i = 1 then dp else dp + 1) t && qag dp pr (i + 1) ts
end
def FitC (t : Tr) : Prop := ∀ dp left : Int, ((jt dp left t).1 = true ↔ kh dp t = true ∧ (yf t : Int) ≤ left) ∧ ((jt dp left t).1 = true → (jt dp left t).2 = left - yf t)
theorem qni {dp : Int} {pr : Bool} : ∀ {ts : List Tr}, (∀ t ∈ ts, FitC t) → ∀ (i : Nat) (m : Int), 0 ≤ m → ((yq dp pr i m ts).1 = true ↔ qag dp pr i ts = true ∧ (ju ts : Int) ≤ m) ∧ ((yq dp pr i m ts).1 = true → (yq dp pr i m ts).2 = m - ju ts)
  | [], _, i, m, hm => by simp [yq, qag, ju, hm]
  | t :: ts, h, i, m, hm => by
    have h1 := h t List.mem_cons_self (if pr = true ∧ i = 1 then dp else dp + 1) m
    have hp := qhf t (if pr = true ∧ i = 1 then dp else dp + 1) m
    rw [yq, qag, ju]
    generalize (if pr = true ∧ i = 1 then dp else dp + 1) = D at h1 hp ⊢
    by_cases hc : (jt D m t).1 = true
    · rw [if_pos hc]
      have h2 := qni (dp := dp) (pr := pr) (fun x hx => h x (List.mem_cons_of_mem _ hx)) (i + 1) _ (hp hc)
      have h3 := h1.1.1 hc
      have h4 := h1.2 hc
      rw [h4] at h2 ⊢
      rw [Bool.and_eq_true, h3.1]
      refine ⟨⟨fun k => ?_, fun k => ?_⟩, fun k => ?_⟩
      · have := h2.1.1 k; exact ⟨⟨rfl, this.1⟩, by have := this.2; push_cast; omega⟩
      · exact h2.1.2 ⟨k.1.2, by have := k.2; push_cast at this; omega⟩
      · rw [h2.2 k]; push_cast; omega
    · rw [if_neg hc]
      refine ⟨⟨(fun k => by cases k), fun k => absurd (h1.1.2 ⟨?_, ?_⟩) hc⟩, (fun k => by cases k)⟩
      · have := k.1; rw [Bool.and_eq_true] at this; exact this.1
      · have := k.2; push_cast at this; omega
theorem zma : ∀ t : Tr, FitC t := by
  refine Tr.indT fun k n q s rl ts ih dp left => ?_
  rw [jt, kh, yf]
  by_cases hc : left - 1 < 0 ∨ 200 < dp
  · rw [if_pos hc]
    refine ⟨⟨(fun k => by cases k), fun k => ?_⟩, (fun k => by cases k)⟩
    have h1 := k.1
    have h2 := k.2
    rw [Bool.and_eq_true, decide_eq_true_eq] at h1
    push_cast at h2
    omega
  · rw [if_neg hc]
    have h2 := qni (dp := dp) (pr := decide (k = 8)) ih 0 (left - 1) (by omega)
    rw [decide_eq_true (show dp ≤ 200 by omega), Bool.true_and]
    refine ⟨⟨fun k => ?_, fun k => ?_⟩, fun k => ?_⟩
    · have := h2.1.1 k; exact ⟨this.1, by have := this.2; push_cast; omega⟩
    · exact h2.1.2 ⟨k.1, by have := k.2; push_cast at this; omega⟩
    · rw [h2.2 k]; push_cast; omega
theorem qkf : ∀ (xs : List Tr) (z : Tr), yf (zn xs z) = ju xs + xs.length + yf z
  | [], z => by simp [zn, ju]
  | x :: xs, z => by rw [zn, yf, ju, ju, ju, qkf xs z, ju, List.length_cons]; omega
theorem qnj : ∀ (xs : List Tr) (z : Tr), kh 1 (zn xs z) = (xs.all (kh 2) && kh 1 z)
  | [], z => by simp [zn]
  | x :: xs, z => by
    rw [zn, kh, qag, qag, qag, List.all_cons]
    have : (if decide ((8 : Int) = 8) = true ∧ 0 = 1 then (1 : Int) else 1 + 1) = 2 := by decide
    rw [this]
    have : (if decide ((8 : Int) = 8) = true ∧ 0 + 1 = 1 then (1 : Int) else 1 + 1) = 1 := by decide
    rw [this, qnj xs z]
    simp [Bool.and_assoc]
theorem qva : ∀ (xs : List Tr) (z : Tr), xv qn (zn xs z) = (xs.all (xv qn) && xv qn z)
  | [], z => by simp [zn]
  | x :: xs, z => by
    rw [zn, xv, uy, uy, uy, List.all_cons, qva xs z]
    have : qn (.mk 8 0 Q6.zero ⟨#[]⟩ [] [x, zn xs z]) = true := by rfl
    rw [this]
    simp [Bool.and_assoc]
theorem qkg (t : Tr) : zd qn t = true ↔ kh 1 t = true ∧ yf t ≤ 20000 ∧ xv qn t = true := by
  unfold zd
  rw [Bool.and_eq_true, (zma t 1 20000).1]
  constructor
  · rintro ⟨⟨h1, h2⟩, h3⟩; exact ⟨h1, by omega, h3⟩
  · rintro ⟨h1, h2, h3⟩; exact ⟨⟨h1, by omega⟩, h3⟩
theorem qda (xs : List Tr) (z : Tr) : zd qn (zn xs z) = true ↔ (xs.all (kh 2) = true ∧ kh 1 z = true) ∧ ju xs + xs.length + yf z ≤ 20000 ∧ xs.all (xv qn) = true ∧ xv qn z = true := by
  rw [qkg, qnj, qkf, qva, Bool.and_eq_true, Bool.and_eq_true]
theorem qra {xs : List Tr} {z : Tr} (h : 20000 < xs.length) : zd qn (zn xs z) = false := by
  apply Bool.eq_false_iff.2
  intro k
  have := ((qda xs z).1 k).2.1
  omega
/-! ### What the calls answer -/
def fitS (xs : List Tr) (z : Tr) : Tr × Int := if zd qn (zn xs z) = true then (zn xs z, 0) else (kz, 4)
def ofS (xs : List Tr) : Tr := (fitS xs nilT).1
noncomputable def qrb (t : Tr) : Tr × Int :=
  if zd qn t = false then (kz, 2) else match jp t with
    | none => (kz, 10)
    | some xs => (zn xs.reverse nilT, 0)
theorem zgf {xs : List Tr} {z : Tr} (h : 20000 < xs.length) : fitS xs z = (kz, 4) := by unfold fitS; rw [if_neg (by rw [qra h]; decide)]
theorem qvb {xs : List Tr} {z : Tr} (h : zd qn (zn xs z) = true) : fitS xs z = (zn xs z, 0) := by unfold fitS; rw [if_pos h]
theorem qrc {xs : List Tr} {z : Tr} (h : zd qn (zn xs z) = false) : fitS xs z = (kz, 4) := by unfold fitS; rw [if_neg (by rw [h]; decide)]
theorem Rt.take {w : World} {so : Option Addr} {ts : List Dt} (h : Rt w so ts) (n : Nat) : Rt w so (ts.take n) := fun hne => by
  obtain ⟨b, o, e, h2⟩ := h (fun k => hne (by rw [k]; simp))
  refine ⟨b, o, e, fun i t hi => h2 i t ?_⟩
  rw [List.getElem?_take] at hi
  split at hi
  · exact hi
  · cases hi
theorem ym {t : Tr} {xs : List Tr} (h : jp t = some xs) : Tr.bulks xs + xs.length + 1 = t.bulk := by
  rw [qgj h, vy]
  rfl
/-! ### The other way round -/
/-- So many from both vh are exchanged. -/
def RevI (ys zs : List Dt) (i : Nat) : Prop := zs.length = ys.length ∧ ∀ k, k < ys.length → zs[k]? = if k < i ∨ ys.length < k + 1 + i then ys[ys.length - 1 - k]? else ys[k]?
theorem zgg (ys : List Dt) : RevI ys ys 0 := ⟨rfl, fun k hk => by rw [if_neg (by omega)]⟩
theorem zmb {ys zs : List Dt} {i : Nat} (h : RevI ys zs i) (hi : ys.length ≤ i + i + 1) : zs = ys.reverse := by
  apply List.ext_getElem?
  intro k
  by_cases hk : k < ys.length
  · rw [h.2 k hk, List.getElem?_reverse hk]
    by_cases hc : k < i ∨ ys.length < k + 1 + i
    · rw [if_pos hc]
    · rw [if_neg hc, show ys.length - 1 - k = k by omega]
  · rw [List.getElem?_eq_none (by rw [h.1]; omega), List.getElem?_eq_none (by rw [List.length_reverse]; omega)]
theorem qoa {ys zs : List Dt} {i : Nat} {a b : Dt} (h : RevI ys zs i) (hi : i + i + 1 < ys.length) (ha : zs[i]? = some a) (hb : zs[ys.length - 1 - i]? = some b) : RevI ys ((zs.set i b).set (ys.length - 1 - i) a) (i + 1) := by
  refine ⟨by rw [List.length_set, List.length_set, h.1], fun k hk => ?_⟩
  have h1 := h.1
  rw [List.getElem?_set, List.getElem?_set, List.length_set]
  have ha2 := h.2 i (by omega)
  have hb2 := h.2 (ys.length - 1 - i) (by omega)
  rw [if_neg (by omega), ha] at ha2
  rw [if_neg (by omega), hb] at hb2
  by_cases e1 : ys.length - 1 - i = k
  · subst e1
    rw [if_pos rfl, if_pos (by omega), if_pos (by omega), ha2, show ys.length - 1 - (ys.length - 1 - i) = i by omega]
  · rw [if_neg e1]
    by_cases e2 : i = k
    · subst e2
      rw [if_pos rfl, if_pos (by omega), if_pos (by omega), hb2]
    · rw [if_neg e2, h.2 k hk]
      by_cases hc : k < i ∨ ys.length < k + 1 + i
      · rw [if_pos hc, if_pos (by omega)]
      · rw [if_neg hc, if_neg (by omega)]
theorem LiE_isS_30 : IsS Tryz.prog 30 11 := ⟨⟨_, Tryz.underlying30⟩, by kernel_rfl⟩
theorem qdb {w : World} {so : Option Addr} {ca : Nat} {ts : List Dt} (hR : Rt w so ts) (hD : ∀ t ∈ ts, t.rd w) (hl : ts.length ≤ 1000000000) (hT : Tabs8 w) {b : Bool} (h : (ts.all fun t => zd qn t.tr) = b) : Calls Tryz.prog 34 #[.slice so ts.length ca] w fun e w' => e = .returned (.bool b) ∧ Below w.heap.size w w' := h ▸ qqa hR hD hl hT
theorem qfb {w : World} {so : Option Addr} {ca : Nat} {t : Dt} (hR : Rt w so [t]) (ht : t.rd w) (hT : Tabs8 w) {b : Bool} (h : zd qn t.tr = b) : Calls Tryz.prog 34 #[.slice so 1 ca] w fun e w' => e = .returned (.bool b) ∧ Below w.heap.size w w' :=
 qdb (ts := [t]) hR (fun u hu => by rw [List.mem_singleton.1 hu]; exact ht) (by simp) hT (by rw [List.all_cons, List.all_nil, Bool.and_true]; exact h)
theorem qdc {w0 w : World} {t : Dt} (h0 : Below w0.heap.size w0 w) (ht0 : t.rd w0) {so : Option Addr} {ca : Nat} {ts : List Dt} (hR : Rt w so ts) (hD : ∀ t ∈ ts, t.rd w) (hl : ts.length ≤ 1000000000) (hb : t.tr.bulk ≤ 1000000000) (hT : Tabs8 w) : Calls Tryz.prog 31 #[.agg (t.d.cells t.ts.length).toArray, .slice so ts.length ca] w fun e w' => (∃ so' ca' ys, e = .returned (.tuple #[.slice so' (ys : List Dt).length ca', .int .i64 0]) ∧ ((zd qn t.tr && (ts.all fun t => zd qn t.tr)) = true ∧ jp t.tr = some (ys.map Dt.tr) ∧ (∀ x ∈ ys, x.rd w0) ∧ ys.length ≤ t.tr.bulk) ∧ Mg w w' [.row 30 11 (.slice so' ys.length ca') ys.length (cellsOf ys)]) ∨ (e = .returned (.tuple #[.slice none 0 0, .int .i64 10]) ∧ ((zd qn t.tr && (ts.all fun t => zd qn t.tr)) = true ∧ jp t.tr = none) ∧ Below w.heap.size w w') ∨ (e = .returned (.tuple #[.slice none 0 0, .int .i64 2]) ∧ (zd qn t.tr && (ts.all fun t => zd qn t.tr)) = false ∧ Below w.heap.size w w') := by
 have ht := Dt.keep h0 _ ht0
 have M : Mg w w ([]) := Mg.start w
 refine qm (l := [(0, .agg (t.d.cells t.ts.length).toArray), (1, .slice so ts.length ca)]) Tryz.func31 rfl Tryz.ntmps31 rfl rfl ?_
 intro Q hret hnorm hP a A
 refine wsk fun K1 hK1 => wrl (ja (vs := (t.d.cells t.ts.length)) (t := 30) A M rfl rfl rfl pg (qs rfl rfl) (by decide) ?_)
 intro g2 w3 M a A
 iterate 2 refine sda A λa A↦?_
 refine qa (hK1 _ _ (wsk fun K4 hK4 => wsk fun K5 hK5 => wrl (sdo A (zg M LiE_isS_30 rfl 0 rfl (cs := (t.d.cells t.ts.length)) rfl rfl) λa A↦?_)))
 refine qxf (e := 30) (sz := 11) (m := 1) (vs := cellsOf [t]) A M rfl rfl rfl (jv rfl (by kernel_rfl)) rfl rfl (.inl (by decide)) ?_
 intro g6 w7 M a A
 rcases tf (zd qn t.tr) with hb8 | hb8
 ·
  refine gcl A M (ef rfl rfl) (qfb (qab (M.has 0 rfl)).1 (Dt.keep M.bel _ ht) (hT.below M.bel) hb8) fun w10 hb9 M a A => ?_
  refine sdo (v := .bool false) A (zk rfl zx) λa A↦?_
  iterate 2 refine sdm A λa A↦?_
  rcases tf ((ts.all fun t => zd qn t.tr)) with hb11 | hb11
  ·
   refine gcl A M (ef rfl rfl) (qdb (hR.below M.bel) (fun t ht => Dt.keep M.bel _ (hD t ht)) hl (hT.below M.bel) hb11) fun w13 hb12 M a A => ?_
   refine sdo (v := .bool false) A (zk rfl zx) λa A↦?_
   refine sdk (v := .bool false) A λa A↦?_
   refine qa (hK5 _ _ (wp_cond_false (A.ev rfl) ?_))
   refine wp_skip (hK4 _ _ (wsk fun K14 hK14 => wrl (sdo A (zg M LiE_isS_30 rfl 1 rfl (cs := (t.d.cells t.ts.length)) rfl rfl) λa A↦?_)))
   rcases tf ((jp t.tr).isSome) with hb15 | hb15
   ·
    refine sct A (ef rfl rfl) (qmd (h0.trans (M.bel.mono h0.size)) ht0 (qng hb8) hb hb15) ?_
    rintro _ w17 ⟨so7, ca7, ys, rfl, ⟨hy1, hy2, hy3⟩, hM7⟩
    replace M : Mg w w17 (.row 30 11 (.slice so7 ys.length ca7) ys.length (cellsOf ys) :: .row 30 11 (.slice (some ⟨g6, 0, none⟩) 1 1) 1 (cellsOf [t]) :: .obj g2 (.cells (t.d.cells t.ts.length).toArray 30) :: []) := (M.both hM7 (jj (by simp) (jj (by simp) (jg jn))) (jj (by simp) (jg jn)))
    refine ⟨_, rfl, ?_⟩
    intro a A
    iterate 2 refine sdo A (zj (vs := [.slice so7 ys.length ca7, .int .i64 0]) rfl rfl) λa A↦?_
    iterate 2 refine sda A λa A↦?_
    refine qa (hK14 _ _ (wp_ret (hret _ _ (en2 A rfl (qh rfl) (qh rfl) ?_))))
    replace M : Mg w w17 (.row 30 11 (.slice so7 ys.length ca7) ys.length (cellsOf ys) :: []) := by
     have h9 := M.sub (cc (cn (cn (.refl _))))
     exact h9
    exact .inl ⟨_, _, ys, rfl, ⟨(by rw [hb8, hb11]; rfl), hy1, hy2, hy3⟩, M⟩
   ·
    refine gcl A M (ef rfl rfl) (qme (h0.trans (M.bel.mono h0.size)) ht0 (qng hb8) hb hb15) fun w19 hb18 M a A => ?_
    iterate 2 refine sdo A (zj (vs := [.slice none 0 0, .int .i64 10]) rfl rfl) λa A↦?_
    iterate 2 refine sda A λa A↦?_
    refine qa (hK14 _ _ (wp_ret (hret _ _ (en2 A rfl (qh rfl) (qh rfl) ?_))))
    exact .inr (.inl ⟨rfl, ⟨(by rw [hb8, hb11]; rfl), Option.isSome_eq_false_iff.1 hb15 |> Option.isNone_iff_eq_none.1⟩, M.bel⟩)
  ·
   refine gcl A M (ef rfl rfl) (qdb (hR.below M.bel) (fun t ht => Dt.keep M.bel _ (hD t ht)) hl (hT.below M.bel) hb11) fun w21 hb20 M a A => ?_
   refine sdo (v := .bool true) A (zk rfl zx) λa A↦?_
   refine sdk (v := .bool true) A λa A↦?_
   refine qa (hK5 _ _ (wp_cond_true (A.ev rfl) ?_))
   refine wsk fun K22 hK22 => wrl ?_
   iterate 2 refine sda A λa A↦?_
   refine qa (hK22 _ _ (wp_ret (hret _ _ (en2 A rfl (qh rfl) (qh rfl) ?_))))
   exact .inr (.inr ⟨rfl, by rw [hb8, hb11]; rfl, M.bel⟩)
 ·
  refine gcl A M (ef rfl rfl) (qfb (qab (M.has 0 rfl)).1 (Dt.keep M.bel _ ht) (hT.below M.bel) hb8) fun w24 hb23 M a A => ?_
  refine sdo (v := .bool true) A (zk rfl zx) λa A↦?_
  refine sdm A λa A↦?_
  iterate 3 refine qx A rfl rfl rfl λa A↦?_
  refine sdk (v := .bool true) A λa A↦?_
  refine qa (hK5 _ _ (wp_cond_true (A.ev rfl) ?_))
  refine wsk fun K25 hK25 => wrl ?_
  iterate 2 refine sda A λa A↦?_
  refine qa (hK25 _ _ (wp_ret (hret _ _ (en2 A rfl (qh rfl) (qh rfl) ?_))))
  exact .inr (.inr ⟨rfl, by rw [hb8]; rfl, M.bel⟩)
theorem qdd {w0 w : World} {t : Dt} (h0 : Below w0.heap.size w0 w) (ht : t.rd w0) (hb : t.tr.bulk ≤ 1000000000) (hT : Tabs8 w) (hs : zd qn t.tr = true) (h : (jp t.tr).isSome = true) : Calls Tryz.prog 31 #[.agg (t.d.cells t.ts.length).toArray, .slice none 0 0] w fun e w' => ∃ so' ca' ys, e = .returned (.tuple #[.slice so' (ys : List Dt).length ca', .int .i64 0]) ∧ (jp t.tr = some (ys.map Dt.tr) ∧ (∀ x ∈ ys, x.rd w0) ∧ ys.length ≤ t.tr.bulk) ∧ Mg w w' [.row 30 11 (.slice so' ys.length ca') ys.length (cellsOf ys)] := by
 refine (qdc (ts := []) h0 ht (so := none) (ca := 0) (fun k => absurd rfl k) (fun t h => by cases h) (by decide) hb hT).mono ?_
 rintro e w' (⟨so', ca', ys, h1, h2, h3⟩ | ⟨_, h2, _⟩ | ⟨_, h2, _⟩)
 ·
  exact ⟨so', ca', ys, h1, h2.2, h3⟩
 ·
  rw [h2.2] at h; cases h
 ·
  rw [hs] at h2; cases h2
theorem qkh {w0 w : World} {t : Dt} (h0 : Below w0.heap.size w0 w) (ht : t.rd w0) (hb : t.tr.bulk ≤ 1000000000) (hT : Tabs8 w) (hs : zd qn t.tr = true) (h : (jp t.tr).isSome = false) : Calls Tryz.prog 31 #[.agg (t.d.cells t.ts.length).toArray, .slice none 0 0] w fun e w' => e = .returned (.tuple #[.slice none 0 0, .int .i64 10]) ∧ Below w.heap.size w w' := by
 refine (qdc (ts := []) h0 ht (so := none) (ca := 0) (fun k => absurd rfl k) (fun t h => by cases h) (by decide) hb hT).mono ?_
 rintro e w' (⟨so', ca', ys, h1, h2, h3⟩ | ⟨h1, h2, h3⟩ | ⟨_, h2, _⟩)
 ·
  rw [h2.2.1] at h; cases h
 ·
  exact ⟨h1, h3⟩
 ·
  rw [hs] at h2; cases h2
theorem qgb {w0 w : World} {t : Dt} (h0 : Below w0.heap.size w0 w) (ht : t.rd w0) (hb : t.tr.bulk ≤ 1000000000) (hT : Tabs8 w) (hs : zd qn t.tr = false) : Calls Tryz.prog 31 #[.agg (t.d.cells t.ts.length).toArray, .slice none 0 0] w fun e w' => e = .returned (.tuple #[.slice none 0 0, .int .i64 2]) ∧ Below w.heap.size w w' := by
 refine (qdc (ts := []) h0 ht (so := none) (ca := 0) (fun k => absurd rfl k) (fun t h => by cases h) (by decide) hb hT).mono ?_
 rintro e w' (⟨so', ca', ys, h1, h2, h3⟩ | ⟨h1, h2, h3⟩ | ⟨h1, h2, h3⟩)
 ·
  rw [hs] at h2; cases h2.1
 ·
  rw [hs] at h2; cases h2.1
 ·
  exact ⟨h1, h3⟩
theorem LiF_isS_30 : IsS Tryz.prog 30 11 := ⟨⟨_, Tryz.underlying30⟩, by kernel_rfl⟩
theorem qki {w : World} {so : Option Addr} {ca : Nat} {ts : List Dt} (hR : Rt w so ts) (hD : ∀ t ∈ ts, t.rd w) (hb : Tr.bulks (ts.map Dt.tr) ≤ 400000000) : Calls Tryz.prog 42 #[.slice so ts.length ca] w fun e w' => ∃ t2 : Dt, e = .returned (.agg (t2.d.cells t2.ts.length).toArray) ∧ (t2.rd w' ∧ t2.at_ (w.heap.size ≤ ·) ∧ t2.tr = zn (ts.map Dt.tr) nilT) ∧ Below w.heap.size w w' := by
 have hbl := vx ts
 have hnb : qti.tr.bulk = 1 := by rw [qic]; rfl
 have M : Mg w w ([]) := Mg.start w
 refine qm (l := [(0, .slice so ts.length ca)]) Tryz.func42 rfl Tryz.ntmps42 rfl rfl ?_
 intro Q hret hnorm hP a A
 refine wsk fun K1 hK1 => wrl (ja (vs := (qr.d.cells qr.ts.length)) (t := 30) A M rfl rfl rfl pg (qk (z := .agg (qr.d.cells qr.ts.length).toArray) (by kernel_rfl) rfl) (by decide) ?_)
 intro g2 w3 M a A
 refine qa (hK1 _ _ (wsk fun K4 hK4 => wrl (sdm A λa A↦?_)))
 refine gcl A M (ef rfl rfl) (zdb) fun w6 hb5 M a A => ?_
 have hlt7 := (Ck.lt (M.has 0 rfl) g2 rfl).2
 have hzt3 := M.bel.size
 refine sct A (ef rfl rfl) (qke (hR.below M.bel) (fun t ht => Dt.keep M.bel _ (hD t ht)) (zcc _) (by omega)) ?_
 rintro _ w9 ⟨t3, rfl, ⟨hrt3, htt3⟩, hb8⟩
 replace M := M.call hb8
 refine ⟨_, rfl, ?_⟩
 intro a A
 have hlt10 := (Ck.lt (M.has 0 rfl) g2 rfl).2
 have hzt2 := M.bel.size
 refine sct A (ef rfl rfl) (qch t3 hrt3 (by rw [htt3, vy, List.length_map]; omega)) ?_
 rintro _ w12 ⟨t2, rfl, ⟨hrt2, hat2, htt2⟩, hb11⟩
 replace M := M.call hb11
 refine ⟨_, rfl, ?_⟩
 intro a A
 refine vq (us := (t2.d.cells t2.ts.length)) (L' := (.obj g2 (.cells (t2.d.cells t2.ts.length).toArray 30) :: [])) A M rfl rfl (ze rfl rfl rfl (by kernel_rfl) M 0 rfl rfl rfl) 0 rfl rfl rfl ?_
 intro w13 M hK14
 replace hrt2 := Dt.kept hK14 _ hrt2 (Dt.at_mono (fun b hb => by rintro rfl; omega) _ hat2)
 refine qa (hK4 _ _ (wp_ret (hret _ _ (en1 A rfl (jr M LiF_isS_30 rfl 0 rfl (cs := [.int .i64 t2.d.k, .int .i64 t2.d.n, .bool t2.d.y.q.b1, .slice t2.d.y.o1 t2.d.y.q.t1.length t2.d.y.c1, .slice t2.d.y.o2 t2.d.y.q.q1.length t2.d.y.c2, .bool t2.d.y.q.b2, .slice t2.d.y.o3 t2.d.y.q.t2.length t2.d.y.c3, .slice t2.d.y.o4 t2.d.y.q.q2.length t2.d.y.c4, .string t2.d.s, .slice t2.d.ro t2.d.rl.length t2.d.rc, .slice t2.d.lo t2.ts.length t2.d.lc]) rfl rfl) ?_))))
 exact ⟨t2, rfl, ⟨hrt2, Dt.at_mono (fun b hb => Nat.le_trans hzt2 hb) _ hat2, by rw [htt2, htt3, qic]⟩, M.bel⟩
theorem qvc {w : World} {so : Option Addr} {ca : Nat} {ts : List Dt} (hR : Rt w so ts) (hD : ∀ t ∈ ts, t.rd w) {u : Dt} (hu : u.rd w) (hb : Tr.bulks (ts.map Dt.tr) + u.tr.bulk ≤ 400000000) (hT : Tabs8 w) : Calls Tryz.prog 37 #[.slice so ts.length ca, .agg (u.d.cells u.ts.length).toArray] w fun e w' => ∃ (t2 : Dt) (k : Int), e = .returned (.tuple #[.agg (t2.d.cells t2.ts.length).toArray, .int .i64 k]) ∧ (t2.rd w' ∧ t2.at_ (w.heap.size ≤ ·) ∧ (t2.tr, k) = fitS (ts.map Dt.tr) u.tr) ∧ Below w.heap.size w w' := by
 have hbl := vx ts
 have M : Mg w w ([]) := Mg.start w
 refine qm (l := [(0, .slice so ts.length ca), (1, .agg (u.d.cells u.ts.length).toArray)]) Tryz.func37 rfl Tryz.ntmps37 rfl rfl ?_
 intro Q hret hnorm hP a A
 refine wsk fun K1 hK1 => wrl (ja (vs := (u.d.cells u.ts.length)) (t := 30) A M rfl rfl rfl pg (qs rfl rfl) (by decide) ?_)
 intro g2 w3 M a A
 refine ja (vs := (qr.d.cells qr.ts.length)) (t := 30) A M rfl rfl rfl pg (qk (z := .agg (qr.d.cells qr.ts.length).toArray) (by kernel_rfl) rfl) (by decide) ?_
 intro g4 w5 M a A
 refine sda A λa A↦?_
 refine qa (hK1 _ _ (wsk fun K6 hK6 => wsk fun K7 hK7 => wrl (sdm A λa A↦?_)))
 refine sdo A (zf Tryz.underlying22 rfl) λa A↦?_
 rcases tf (decide (20000 < ((ts.length : Nat) : Int))) with hb8 | hb8
 ·
  have hb8' := of_decide_eq_true hb8
  refine sdc A js hb8 λa A↦?_
  refine qa (hK7 _ _ (wp_cond_true (A.ev rfl) ?_))
  refine wsk fun K9 hK9 => wrl (sdo (v := .agg (qr.d.cells qr.ts.length).toArray) A (zv rfl (fun w => by kernel_rfl)) λa A↦?_)
  refine zu (us := (qr.d.cells qr.ts.length)) (L' := (.obj g4 (.cells (qr.d.cells qr.ts.length).toArray 30) :: .obj g2 (.cells (u.d.cells u.ts.length).toArray 30) :: [])) A M rfl rfl (ze rfl rfl rfl (by kernel_rfl) M 0 rfl rfl rfl) 0 rfl rfl rfl ?_
  intro w10 M
  refine sda A λa A↦?_
  refine qa (hK9 _ _ (wp_ret (hret _ _ (en2 A rfl (jr M LiF_isS_30 rfl 0 rfl (cs := [.int .i64 0, .int .i64 0, .bool false, .slice none 0 0, .slice none 0 0, .bool false, .slice none 0 0, .slice none 0 0, .string (⟨#[]⟩), .slice none 0 0, .slice none 0 0]) rfl rfl) (qh rfl) ?_))))
  exact ⟨qr, 4, rfl, ⟨qad _, qae _, by rw [zgf (by rw [List.length_map]; omega), qac]⟩, M.bel⟩
 ·
  have hb8' := of_decide_eq_false hb8
  refine sdc A js hb8 λa A↦?_
  refine qa (hK7 _ _ (wp_cond_false (A.ev rfl) ?_))
  refine wp_skip (hK6 _ _ (wsk fun K11 hK11 => wrl (sdm A λa A↦?_)))
  refine sdo A (zg M LiF_isS_30 rfl 1 rfl (cs := (u.d.cells u.ts.length)) rfl rfl) λa A↦?_
  have hlt12 := (Ck.lt (M.has 0 rfl) g4 rfl).2
  have hlt13 := (Ck.lt (M.has 1 rfl) g2 rfl).2
  have hzt3 := M.bel.size
  refine sct A (ef rfl rfl) (qke (hR.below M.bel) (fun t ht => Dt.keep M.bel _ (hD t ht)) (Dt.keep M.bel _ hu) (by omega)) ?_
  rintro _ w15 ⟨t3, rfl, ⟨hrt3, htt3⟩, hb14⟩
  replace M := M.call hb14
  refine ⟨_, rfl, ?_⟩
  intro a A
  refine qyb (vs := (qr.d.cells qr.ts.length)) (t := 30) A M rfl rfl rfl pg (qk (z := .agg (qr.d.cells qr.ts.length).toArray) (by kernel_rfl) rfl) (by decide) ?_
  intro g16 w17 M hg18 hb19 a A
  have hnt3g16 := Dt.at_mono (q := (· ≠ g16)) (fun b hb => by intro e; omega) _ (Dt.at_lt _ hrt3)
  replace hrt3 := Dt.keep hb19 _ hrt3
  refine vq (us := (t3.d.cells t3.ts.length)) (L' := (.obj g16 (.cells (t3.d.cells t3.ts.length).toArray 30) :: .obj g4 (.cells (qr.d.cells qr.ts.length).toArray 30) :: .obj g2 (.cells (u.d.cells u.ts.length).toArray 30) :: [])) A M rfl rfl (ze rfl rfl rfl (by kernel_rfl) M 0 rfl rfl rfl) 0 rfl rfl rfl ?_
  intro w20 M hK21
  replace hrt3 := Dt.kept hK21 _ hrt3 hnt3g16
  refine qa (hK11 _ _ (wsk fun K22 hK22 => wsk fun K23 hK23 => wrl (sdo A (zg M LiF_isS_30 rfl 0 rfl (cs := (t3.d.cells t3.ts.length)) rfl rfl) λa A↦?_)))
  rcases tf (zd qn t3.tr) with hb24 | hb24
  ·
   refine sct A (ef rfl rfl) ((hb24 ▸ sound_any (t := t3) hrt3 (hT.below M.bel))) ?_
   rintro _ w26 ⟨rfl, hb25⟩
   replace hrt3 := Dt.keep hb25 _ hrt3
   replace M := M.call hb25
   refine ⟨_, rfl, ?_⟩
   intro a A
   refine sdo (v := .bool false) A (zk rfl zx) λa A↦?_
   refine qa (hK23 _ _ (wp_cond_false (A.ev rfl) ?_))
   refine wp_skip (hK22 _ _ (wsk fun K27 hK27 => wrl (sdo A (zg M LiF_isS_30 rfl 0 rfl (cs := (t3.d.cells t3.ts.length)) rfl rfl) λa A↦?_)))
   have hlt28 := (Ck.lt (M.has 0 rfl) g16 rfl).2
   have hlt29 := (Ck.lt (M.has 1 rfl) g4 rfl).2
   have hlt30 := (Ck.lt (M.has 2 rfl) g2 rfl).2
   have hzt2 := M.bel.size
   refine sct A (ef rfl rfl) (qch t3 hrt3 (by rw [htt3, vy, List.length_map]; omega)) ?_
   rintro _ w32 ⟨t2, rfl, ⟨hrt2, hat2, htt2⟩, hb31⟩
   replace M := M.call hb31
   refine ⟨_, rfl, ?_⟩
   intro a A
   refine vq (us := (t2.d.cells t2.ts.length)) (L' := (.obj g16 (.cells (t3.d.cells t3.ts.length).toArray 30) :: .obj g4 (.cells (t2.d.cells t2.ts.length).toArray 30) :: .obj g2 (.cells (u.d.cells u.ts.length).toArray 30) :: [])) A M rfl rfl (ze rfl rfl rfl (by kernel_rfl) M 1 rfl rfl rfl) 1 rfl rfl rfl ?_
   intro w33 M hK34
   replace hrt2 := Dt.kept hK34 _ hrt2 (Dt.at_mono (fun b hb => by rintro rfl; omega) _ hat2)
   refine sda A λa A↦?_
   refine qa (hK27 _ _ (wp_ret (hret _ _ (en2 A rfl (jr M LiF_isS_30 rfl 1 rfl (cs := [.int .i64 t2.d.k, .int .i64 t2.d.n, .bool t2.d.y.q.b1, .slice t2.d.y.o1 t2.d.y.q.t1.length t2.d.y.c1, .slice t2.d.y.o2 t2.d.y.q.q1.length t2.d.y.c2, .bool t2.d.y.q.b2, .slice t2.d.y.o3 t2.d.y.q.t2.length t2.d.y.c3, .slice t2.d.y.o4 t2.d.y.q.q2.length t2.d.y.c4, .string t2.d.s, .slice t2.d.ro t2.d.rl.length t2.d.rc, .slice t2.d.lo t2.ts.length t2.d.lc]) rfl rfl) (qh rfl) ?_))))
   exact ⟨t2, 0, rfl, ⟨hrt2, Dt.at_mono (fun b hb => Nat.le_trans hzt2 hb) _ hat2, by rw [htt3] at hb24; rw [qvb hb24, htt2, htt3]⟩, M.bel⟩
  ·
   refine sct A (ef rfl rfl) ((hb24 ▸ sound_any (t := t3) hrt3 (hT.below M.bel))) ?_
   rintro _ w36 ⟨rfl, hb35⟩
   replace hrt3 := Dt.keep hb35 _ hrt3
   replace M := M.call hb35
   refine ⟨_, rfl, ?_⟩
   intro a A
   refine sdo (v := .bool true) A (zk rfl zx) λa A↦?_
   refine qa (hK23 _ _ (wp_cond_true (A.ev rfl) ?_))
   refine wsk fun K37 hK37 => wrl (sdo (v := .agg (qr.d.cells qr.ts.length).toArray) A (zv rfl (fun w => by kernel_rfl)) λa A↦?_)
   refine vq (us := (qr.d.cells qr.ts.length)) (L' := (.obj g16 (.cells (t3.d.cells t3.ts.length).toArray 30) :: .obj g4 (.cells (qr.d.cells qr.ts.length).toArray 30) :: .obj g2 (.cells (u.d.cells u.ts.length).toArray 30) :: [])) A M rfl rfl (ze rfl rfl rfl (by kernel_rfl) M 1 rfl rfl rfl) 1 rfl rfl rfl ?_
   intro w38 M hK39
   refine sda A λa A↦?_
   refine qa (hK37 _ _ (wp_ret (hret _ _ (en2 A rfl (jr M LiF_isS_30 rfl 1 rfl (cs := [.int .i64 0, .int .i64 0, .bool false, .slice none 0 0, .slice none 0 0, .bool false, .slice none 0 0, .slice none 0 0, .string (⟨#[]⟩), .slice none 0 0, .slice none 0 0]) rfl rfl) (qh rfl) ?_))))
   exact ⟨qr, 4, rfl, ⟨qad _, qae _, by rw [htt3] at hb24; rw [qrc hb24, qac]⟩, M.bel⟩
theorem LiG_isS_30 : IsS Tryz.prog 30 11 := ⟨⟨_, Tryz.underlying30⟩, by kernel_rfl⟩
theorem zmc {w0 w : World} {g9 c9 : Nat} {ys : List Dt} {T : List Ck} (hl : ys.length ≤ 1000000000) (hne : ys ≠ []) (hM0 : Mg w0 w (.row 30 11 (.slice (some ⟨g9, 0, none⟩) ys.length c9) ys.length (cellsOf ys) :: T)) : Calls Tryz.prog 41 #[.slice (some ⟨g9, 0, none⟩) ys.length c9] w fun e w' => e = .returned (.tuple #[]) ∧ Mg w0 w' (.row 30 11 (.slice (some ⟨g9, 0, none⟩) ys.length c9) ys.length (cellsOf ys.reverse) :: T) := by
 have hpos : 0 < ys.length := List.length_pos_iff.2 hne
 have M : Mg w0 w (.row 30 11 (.slice (some ⟨g9, 0, none⟩) ys.length c9) ys.length (cellsOf ys) :: T) := hM0
 refine qm (l := [(0, .slice (some ⟨g9, 0, none⟩) ys.length c9)]) Tryz.func41 rfl Tryz.ntmps41 rfl rfl ?_
 intro Q hret hnorm hP a A
 refine wsk fun K1 hK1 => wrl (sdm A λa A↦?_)
 refine sdo A (zf Tryz.underlying22 rfl) λa A↦?_
 refine sdo (v := .int .i64 (((ys.length : Nat) : Int) - 1 - ((0 : Nat) : Int))) A (qf rfl rfl (ar_sub ((in_i64 (by omega) (by omega)).trans (by omega)))) λa A↦?_
 iterate 2 refine sda A λa A↦?_
 refine qa (hK1 _ _ (wp_block (zw (fun m_ a w1 => ∃ (i : Nat) (zs : List Dt), m_ = 1 + (ys.length - i) ∧ (i ≤ ys.length ∧ RevI ys zs i) ∧ Sl a 28 [(0, .slice (some ⟨g9, 0, none⟩) ys.length c9), (2, .int .i64 (((i : Nat) : Int))), (3, .int .i64 (((ys.length : Nat) : Int) - 1 - ((i : Nat) : Int))), (4, .slice (some ⟨g9, 0, none⟩) ys.length c9), (5, .int .i64 (((ys.length : Nat) : Int))), (6, .int .i64 (((ys.length : Nat) : Int) - 1 - ((0 : Nat) : Int)))] ∧ Mg w0 w1 (.row 30 11 (.slice (some ⟨g9, 0, none⟩) ys.length c9) ys.length (cellsOf zs) :: T)) _ ⟨0, ys, rfl, ⟨Nat.zero_le _, zgg ys⟩, A.keep _ (by repeat' constructor), M⟩ ?_)))
 clear M A
 rintro m_ a w2 ⟨i, zs, rfl, hinv4, A, M⟩ K3 hK3
 obtain ⟨hi0, hrv⟩ := hinv4
 refine wsk fun K5 hK5 => wsk fun K6 hK6 => wrl ?_
 iterate 2 refine sdm A λa A↦?_
 rcases tf (decide (((i : Nat) : Int) < ((ys.length : Nat) : Int) - 1 - ((i : Nat) : Int))) with hb7 | hb7
 ·
  have hb7' := of_decide_eq_true hb7
  refine sdc A qz hb7 λa A↦?_
  refine qa (hK6 _ _ (wp_cond_true (A.ev rfl) ?_))
  refine wp_skip (hK5 _ _ (wsk fun K8 hK8 => wp_block ?_))
  have hzl := hrv.1
  obtain ⟨a1, hza⟩ : ∃ a, zs[i]? = some a := ⟨_, List.getElem?_eq_getElem (by omega)⟩
  obtain ⟨b1, hzb⟩ : ∃ b, zs[ys.length - 1 - i]? = some b := ⟨_, List.getElem?_eq_getElem (by omega)⟩
  refine jc (S := fun w1 => Mg w0 w1 ([])) (by kernel_rfl) ?_
  replace M := M.drew
  refine qe A 0 rfl rfl rfl rfl hP (M.sub (cn (List.nil_sublist _))) (fun w1 M => qg rfl) λa A↦?_
  refine qe A 1 rfl rfl rfl rfl hP (M.sub (cn (List.nil_sublist _))) (fun w1 M => qg rfl) λa A↦?_
  refine qe A 2 rfl rfl rfl rfl hP (M.sub (cn (List.nil_sublist _))) (fun w1 M => qg rfl) λa A↦?_
  refine qe A 3 rfl rfl rfl rfl hP (M.sub (cn (List.nil_sublist _))) (fun w1 M => qg rfl) λa A↦?_
  refine qe A 4 rfl rfl rfl rfl hP (M.sub (cn (List.nil_sublist _))) (fun w1 M => qg rfl) λa A↦?_
  refine qe A 5 rfl rfl rfl rfl hP (M.sub (cn (List.nil_sublist _))) (fun w1 M => qg rfl) λa A↦?_
  refine qe (v := .pointer (some ⟨g9, (ys.length - 1 - i) * 11, none⟩)) A 6 rfl rfl rfl rfl hP (M.sub (cn (List.nil_sublist _))) (fun w1 M => qt (k := (ys.length - 1 - i)) Tryz.underlying22 (by kernel_rfl) rfl rfl (by omega) (by omega)) λa A↦?_
  refine qe A 8 rfl rfl rfl rfl hP (M.sub (cn (List.nil_sublist _))) (fun w1 M => qg rfl) λa A↦?_
  refine qe A 9 rfl rfl rfl rfl hP (M.sub (cn (List.nil_sublist _))) (fun w1 M => qg rfl) λa A↦?_
  refine qe (v := .pointer (some ⟨g9, i * 11, none⟩)) A 10 rfl rfl rfl rfl hP (M.sub (cn (List.nil_sublist _))) (fun w1 M => qt (k := i) Tryz.underlying22 (by kernel_rfl) rfl rfl (by omega) (by omega)) λa A↦?_
  refine jl (rs := [7, 11]) (by kernel_rfl) (by simp) ⟨?_, ?_, trivial⟩
  ·
   refine xd A 7 rfl rfl rfl rfl (zy (o := (ys.length - 1 - i) * 11) (cs := b1.d.cells b1.ts.length) M 0 rfl LiG_isS_30 (zh hzb) rfl rfl) (M.sub (cn (List.nil_sublist _))) λa A↦?_
   refine qi (by kernel_rfl) (xd A 11 rfl rfl rfl rfl (zy (o := i * 11) (cs := a1.d.cells a1.ts.length) M 0 rfl LiG_isS_30 (zh hza) rfl rfl) (M.sub (cn (List.nil_sublist _))) ?_)
   intro a A
   refine qe (v := .pointer (some ⟨g9, i * 11, none⟩)) A 12 rfl rfl rfl rfl hP (M.sub (cn (List.nil_sublist _))) (fun w1 M => qt (k := i) Tryz.underlying22 (by kernel_rfl) rfl rfl (by omega) (by omega)) λa A↦?_
   refine qi (by kernel_rfl) (jf (us := cellsOf (zs.set i b1)) (L' := (.row 30 11 (.slice (some ⟨g9, 0, none⟩) ys.length c9) ys.length (cellsOf (zs.set i b1)) :: T)) A M 13 rfl rfl rfl (jh (cs := b1.d.cells b1.ts.length) rfl rfl rfl (by kernel_rfl) M 0 rfl (by show _ + 11 ≤ _; omega) (jb b1)) 0 rfl (ji (by rw [hzl]; omega) rfl) rfl ?_)
   intro w9 M
   refine ⟨(M.sub (cn (List.nil_sublist _))), ?_⟩
   refine qe (v := .pointer (some ⟨g9, (ys.length - 1 - i) * 11, none⟩)) A 14 rfl rfl rfl rfl hP (M.sub (cn (List.nil_sublist _))) (fun w1 M => qt (k := (ys.length - 1 - i)) Tryz.underlying22 (by kernel_rfl) rfl rfl (by omega) (by omega)) λa A↦?_
   refine qi (by kernel_rfl) (jf (us := cellsOf ((zs.set i b1).set (ys.length - 1 - i) a1)) (L' := (.row 30 11 (.slice (some ⟨g9, 0, none⟩) ys.length c9) ys.length (cellsOf ((zs.set i b1).set (ys.length - 1 - i) a1)) :: T)) A M 15 rfl rfl rfl (jh (cs := a1.d.cells a1.ts.length) rfl rfl rfl (by kernel_rfl) M 0 rfl (by show _ + 11 ≤ _; omega) (jb a1)) 0 rfl (ji (by rw [List.length_set, hzl]; omega) rfl) rfl ?_)
   intro w10 M
   refine ⟨(M.sub (cn (List.nil_sublist _))), ?_⟩
   refine zb (by kernel_rfl) ?_
   refine hK8 _ _ (wrl (sdm A λa A↦?_))
   refine sdo (v := .int .i64 (((i + 1 : Nat) : Int))) A (qf rfl rfl (ar_add ((in_i64 (by omega) (by omega)).trans (by omega)))) λa A↦?_
   refine sdm A λa A↦?_
   refine sdo (v := .int .i64 (((ys.length : Nat) : Int) - 1 - ((i + 1 : Nat) : Int))) A (qf rfl rfl (ar_sub ((in_i64 (by omega) (by omega)).trans (by omega)))) λa A↦?_
   iterate 2 refine sda A λa A↦?_
   refine qa ?_
   refine hK3 _ _ _ (by omega) ⟨i + 1, ((zs.set i b1).set (ys.length - 1 - i) a1), rfl, ⟨by omega, qoa hrv (by omega) hza hzb⟩, A.keep _ (by repeat' constructor), M⟩
  ·
   refine xd A 11 rfl rfl rfl rfl (zy (o := i * 11) (cs := a1.d.cells a1.ts.length) M 0 rfl LiG_isS_30 (zh hza) rfl rfl) (M.sub (cn (List.nil_sublist _))) λa A↦?_
   refine qi (by kernel_rfl) (xd A 7 rfl rfl rfl rfl (zy (o := (ys.length - 1 - i) * 11) (cs := b1.d.cells b1.ts.length) M 0 rfl LiG_isS_30 (zh hzb) rfl rfl) (M.sub (cn (List.nil_sublist _))) ?_)
   intro a A
   refine qe (v := .pointer (some ⟨g9, i * 11, none⟩)) A 12 rfl rfl rfl rfl hP (M.sub (cn (List.nil_sublist _))) (fun w1 M => qt (k := i) Tryz.underlying22 (by kernel_rfl) rfl rfl (by omega) (by omega)) λa A↦?_
   refine qi (by kernel_rfl) (jf (us := cellsOf (zs.set i b1)) (L' := (.row 30 11 (.slice (some ⟨g9, 0, none⟩) ys.length c9) ys.length (cellsOf (zs.set i b1)) :: T)) A M 13 rfl rfl rfl (jh (cs := b1.d.cells b1.ts.length) rfl rfl rfl (by kernel_rfl) M 0 rfl (by show _ + 11 ≤ _; omega) (jb b1)) 0 rfl (ji (by rw [hzl]; omega) rfl) rfl ?_)
   intro w11 M
   refine ⟨(M.sub (cn (List.nil_sublist _))), ?_⟩
   refine qe (v := .pointer (some ⟨g9, (ys.length - 1 - i) * 11, none⟩)) A 14 rfl rfl rfl rfl hP (M.sub (cn (List.nil_sublist _))) (fun w1 M => qt (k := (ys.length - 1 - i)) Tryz.underlying22 (by kernel_rfl) rfl rfl (by omega) (by omega)) λa A↦?_
   refine qi (by kernel_rfl) (jf (us := cellsOf ((zs.set i b1).set (ys.length - 1 - i) a1)) (L' := (.row 30 11 (.slice (some ⟨g9, 0, none⟩) ys.length c9) ys.length (cellsOf ((zs.set i b1).set (ys.length - 1 - i) a1)) :: T)) A M 15 rfl rfl rfl (jh (cs := a1.d.cells a1.ts.length) rfl rfl rfl (by kernel_rfl) M 0 rfl (by show _ + 11 ≤ _; omega) (jb a1)) 0 rfl (ji (by rw [List.length_set, hzl]; omega) rfl) rfl ?_)
   intro w12 M
   refine ⟨(M.sub (cn (List.nil_sublist _))), ?_⟩
   refine zb (by kernel_rfl) ?_
   refine hK8 _ _ (wrl (sdm A λa A↦?_))
   refine sdo (v := .int .i64 (((i + 1 : Nat) : Int))) A (qf rfl rfl (ar_add ((in_i64 (by omega) (by omega)).trans (by omega)))) λa A↦?_
   refine sdm A λa A↦?_
   refine sdo (v := .int .i64 (((ys.length : Nat) : Int) - 1 - ((i + 1 : Nat) : Int))) A (qf rfl rfl (ar_sub ((in_i64 (by omega) (by omega)).trans (by omega)))) λa A↦?_
   iterate 2 refine sda A λa A↦?_
   refine qa ?_
   refine hK3 _ _ _ (by omega) ⟨i + 1, ((zs.set i b1).set (ys.length - 1 - i) a1), rfl, ⟨by omega, qoa hrv (by omega) hza hzb⟩, A.keep _ (by repeat' constructor), M⟩
 ·
  have hb7' := of_decide_eq_false hb7
  refine sdc A qz hb7 λa A↦?_
  refine qa (hK6 _ _ (wp_cond_false (A.ev rfl) ?_))
  refine wp_exit (hnorm _ _ (vh (v := .tuple #[]) A rfl .nil rfl ?_))
  rw [zmb hrv (by omega)] at M
  exact ⟨rfl, M⟩
theorem zrc {w0 w : World} {so9 : Option Addr} {c9 : Nat} {T : List Ck} (hM0 : Mg w0 w (.row 30 11 (.slice so9 ([] : List Dt).length c9) ([] : List Dt).length (cellsOf []) :: T)) : Calls Tryz.prog 41 #[.slice so9 (([] : List Dt).length) c9] w fun e w' => e = .returned (.tuple #[]) ∧ Mg w0 w' (.row 30 11 (.slice so9 ([] : List Dt).length c9) ([] : List Dt).length (cellsOf ([] : List Dt).reverse) :: T) := by
 have M : Mg w0 w (.row 30 11 (.slice so9 (([] : List Dt).length) c9) (([] : List Dt).length) (cellsOf []) :: T) := hM0
 refine qm (l := [(0, .slice so9 (([] : List Dt).length) c9)]) Tryz.func41 rfl Tryz.ntmps41 rfl rfl ?_
 intro Q hret hnorm hP a A
 refine wsk fun K1 hK1 => wrl (sdm A λa A↦?_)
 refine sdo A (zf Tryz.underlying22 rfl) λa A↦?_
 refine sdo (v := .int .i64 (-1)) A (qf rfl rfl (ar_sub (by rfl))) λa A↦?_
 iterate 2 refine sda A λa A↦?_
 refine qa (hK1 _ _ (wp_block (wp_loop_rounds 12 ?_)))
 refine xk fun K2 hK2 => ?_
 refine wsk fun K3 hK3 => wsk fun K4 hK4 => wrl ?_
 iterate 2 refine sdm A λa A↦?_
 refine sdo (v := .bool false) A (qf rfl rfl (fun w => by kernel_rfl)) λa A↦?_
 refine qa (hK4 _ _ (wp_cond_false (A.ev rfl) ?_))
 refine wp_exit (hnorm _ _ (vh (v := .tuple #[]) A rfl .nil rfl ?_))
 exact ⟨rfl, M⟩
theorem zrd {w0 w : World} {so9 : Option Addr} {c9 : Nat} {ys : List Dt} {T : List Ck} (hl : ys.length ≤ 1000000000) (hM0 : Mg w0 w (.row 30 11 (.slice so9 ys.length c9) ys.length (cellsOf ys) :: T)) : Calls Tryz.prog 41 #[.slice so9 ys.length c9] w fun e w' => e = .returned (.tuple #[]) ∧ Mg w0 w' (.row 30 11 (.slice so9 ys.length c9) ys.length (cellsOf ys.reverse) :: T) := by
 by_cases h : ys = []
 ·
  subst h; exact zrc hM0
 ·
  obtain ⟨g, c, e⟩ := qji (hM0.has 0 rfl) (fun k => h (List.length_eq_zero_iff.1 k))
  cases e
  exact zmc hl h hM0
theorem zdc {α : Type} {x : Option α} (h : x.isSome = false) : x = none := Option.isNone_iff_eq_none.1 (Option.isSome_eq_false_iff.1 h)
theorem of_any {w : World} {so : Option Addr} {ca : Nat} {ts : List Dt} (hR : Rt w so ts) (hD : ∀ t ∈ ts, t.rd w) (hb : Tr.bulks (ts.map Dt.tr) ≤ 300000000) (hT : Tabs8 w) : Calls Tryz.prog 17 #[.slice so ts.length ca] w fun e w' => ∃ t2 : Dt, e = .returned (.agg (t2.d.cells t2.ts.length).toArray) ∧ (t2.rd w' ∧ t2.at_ (w.heap.size ≤ ·) ∧ t2.tr = ofS (ts.map Dt.tr)) ∧ Below w.heap.size w w' := by
 have hnb : qti.tr.bulk = 1 := by rw [qic]; rfl
 have M : Mg w w ([]) := Mg.start w
 refine qm (l := [(0, .slice so ts.length ca)]) Tryz.func17 rfl Tryz.ntmps17 rfl rfl ?_
 intro Q hret hnorm hP a A
 refine wsk fun K1 hK1 => wrl (ja (vs := (qr.d.cells qr.ts.length)) (t := 30) A M rfl rfl rfl pg (qk (z := .agg (qr.d.cells qr.ts.length).toArray) (by kernel_rfl) rfl) (by decide) ?_)
 intro g2 w3 M a A
 refine qa (hK1 _ _ (wsk fun K4 hK4 => wrl (sdm A λa A↦?_)))
 refine gcl A M (ef rfl rfl) (zdb) fun w6 hb5 M a A => ?_
 have hlt7 := (Ck.lt (M.has 0 rfl) g2 rfl).2
 have hzt2 := M.bel.size
 refine sct A (ef rfl rfl) (qvc (u := qti) (hR.below M.bel) (fun t ht => Dt.keep M.bel _ (hD t ht)) (zcc _) (by omega) (hT.below M.bel)) ?_
 rintro _ w9 ⟨t2, k2, rfl, ⟨hrt2, hat2, htt2⟩, hb8⟩
 replace M := M.call hb8
 refine ⟨_, rfl, ?_⟩
 intro a A
 refine sdm A λa A↦?_
 iterate 2 refine sdo A (zj (vs := [.agg (t2.d.cells t2.ts.length).toArray, .int .i64 k2]) rfl rfl) λa A↦?_
 refine qyb (vs := (qr.d.cells qr.ts.length)) (t := 30) A M rfl rfl rfl pg (qk (z := .agg (qr.d.cells qr.ts.length).toArray) (by kernel_rfl) rfl) (by decide) ?_
 intro g10 w11 M hg12 hb13 a A
 have hnt2g10 := Dt.at_mono (q := (· ≠ g10)) (fun b hb => by intro e; omega) _ (Dt.at_lt _ hrt2)
 replace hrt2 := Dt.keep hb13 _ hrt2
 refine vq (us := (t2.d.cells t2.ts.length)) (L' := (.obj g10 (.cells (t2.d.cells t2.ts.length).toArray 30) :: .obj g2 (.cells (qr.d.cells qr.ts.length).toArray 30) :: [])) A M rfl rfl (ze rfl rfl rfl (by kernel_rfl) M 0 rfl rfl rfl) 0 rfl rfl rfl ?_
 intro w14 M hK15
 replace hrt2 := Dt.kept hK15 _ hrt2 hnt2g10
 refine sda A λa A↦?_
 refine qa (hK4 _ _ (wsk fun K16 hK16 => wrl (sdo A (zg M LiG_isS_30 rfl 0 rfl (cs := (t2.d.cells t2.ts.length)) rfl rfl) λa A↦?_)))
 refine vq (us := (t2.d.cells t2.ts.length)) (L' := (.obj g10 (.cells (t2.d.cells t2.ts.length).toArray 30) :: .obj g2 (.cells (t2.d.cells t2.ts.length).toArray 30) :: [])) A M rfl rfl (ze rfl rfl rfl (by kernel_rfl) M 1 rfl rfl rfl) 1 rfl rfl rfl ?_
 intro w17 M hK18
 replace hrt2 := Dt.kept hK18 _ hrt2 (Dt.at_mono (fun b hb => by rintro rfl; omega) _ hat2)
 refine qa (hK16 _ _ (wp_ret (hret _ _ (en1 A rfl (jr M LiG_isS_30 rfl 1 rfl (cs := [.int .i64 t2.d.k, .int .i64 t2.d.n, .bool t2.d.y.q.b1, .slice t2.d.y.o1 t2.d.y.q.t1.length t2.d.y.c1, .slice t2.d.y.o2 t2.d.y.q.q1.length t2.d.y.c2, .bool t2.d.y.q.b2, .slice t2.d.y.o3 t2.d.y.q.t2.length t2.d.y.c3, .slice t2.d.y.o4 t2.d.y.q.q2.length t2.d.y.c4, .string t2.d.s, .slice t2.d.ro t2.d.rl.length t2.d.rc, .slice t2.d.lo t2.ts.length t2.d.lc]) rfl rfl) ?_))))
 exact ⟨t2, rfl, ⟨hrt2, Dt.at_mono (fun b hb => Nat.le_trans hzt2 hb) _ hat2, by unfold ofS; rw [← qic, ← htt2]⟩, M.bel⟩
theorem qob : ∀ ts : List Tr, Tr.bulks ts.reverse = Tr.bulks ts
 | [] => rfl
 | t :: ts => by rw [List.reverse_cons, kp, qob ts, Tr.bulks, Tr.bulks, Tr.bulks]; omega
theorem qzf {w : World} {so : Option Addr} {ca : Nat} {ys : List Dt} (hR : Rt w so ys.reverse) (hD : ∀ t ∈ ys.reverse, t.rd w) (hb : Tr.bulks (ys.reverse.map Dt.tr) ≤ 400000000) : Calls Tryz.prog 42 #[.slice so ys.length ca] w fun e w' => ∃ t2 : Dt, e = .returned (.agg (t2.d.cells t2.ts.length).toArray) ∧ (t2.rd w' ∧ t2.at_ (w.heap.size ≤ ·) ∧ t2.tr = zn (ys.reverse.map Dt.tr) nilT) ∧ Below w.heap.size w w' := by
 have := qki (ca := ca) hR hD hb
 rwa [List.length_reverse] at this
theorem qah {w : World} {t : Dt} (ht : t.rd w) (hb : t.tr.bulk ≤ 300000000) (hT : Tabs8 w) : Calls Tryz.prog 11 #[.agg (t.d.cells t.ts.length).toArray] w fun e w' => ∃ (t2 : Dt) (k : Int), e = .returned (.tuple #[.agg (t2.d.cells t2.ts.length).toArray, .int .i64 k]) ∧ (t2.rd w' ∧ t2.at_ (w.heap.size ≤ ·) ∧ (t2.tr, k) = qrb t.tr) ∧ Below w.heap.size w w' := by
 have M : Mg w w ([]) := Mg.start w
 refine qm (l := [(0, .agg (t.d.cells t.ts.length).toArray)]) Tryz.func11 rfl Tryz.ntmps11 rfl rfl ?_
 intro Q hret hnorm hP a A
 refine wsk fun K1 hK1 => wrl (ja (vs := (t.d.cells t.ts.length)) (t := 30) A M rfl rfl rfl pg (qs rfl rfl) (by decide) ?_)
 intro g2 w3 M a A
 refine ja (vs := (qr.d.cells qr.ts.length)) (t := 30) A M rfl rfl rfl pg (qk (z := .agg (qr.d.cells qr.ts.length).toArray) (by kernel_rfl) rfl) (by decide) ?_
 intro g4 w5 M a A
 refine sda A λa A↦?_
 refine qa (hK1 _ _ (wsk fun K6 hK6 => wrl (sdo A (zg M LiG_isS_30 rfl 1 rfl (cs := (t.d.cells t.ts.length)) rfl rfl) λa A↦?_)))
 rcases tf (zd qn t.tr) with hb7 | hb7
 ·
  rcases tf ((jp t.tr).isSome) with hb9 | hb9
  ·
   refine sct A (ef rfl rfl) (qdd M.bel ht (by omega) (hT.below M.bel) hb7 hb9) ?_
   rintro _ w11 ⟨so7, ca7, ys, rfl, ⟨hy1, hy2, hy3⟩, hM7⟩
   have hyb := ym hy1
   replace M : Mg w w11 (.row 30 11 (.slice so7 ys.length ca7) ys.length (cellsOf ys) :: .obj g4 (.cells (qr.d.cells qr.ts.length).toArray 30) :: .obj g2 (.cells (t.d.cells t.ts.length).toArray 30) :: []) := (M.both hM7 (jj (by simp) (jj (by simp) (jg jn))) (jj (by simp) (jg jn)))
   refine ⟨_, rfl, ?_⟩
   intro a A
   refine sdm A λa A↦?_
   iterate 2 refine sdo A (zj (vs := [.slice so7 ys.length ca7, .int .i64 0]) rfl rfl) λa A↦?_
   iterate 2 refine sda A λa A↦?_
   refine qa (hK6 _ _ (wsk fun K12 hK12 => wsk fun K13 hK13 => wrl (sdm A λa A↦?_)))
   refine sdo (v := .bool false) A (qf rfl rfl (fun w => by kernel_rfl)) λa A↦?_
   refine qa (hK13 _ _ (wp_cond_false (A.ev rfl) ?_))
   refine wp_skip (hK12 _ _ (wsk fun K14 hK14 => wrl (sdm A λa A↦?_)))
   refine sct A (ef rfl rfl) (zrd (by omega) M) ?_
   rintro _ w15 ⟨rfl, hM8⟩
   replace M : Mg w w15 (.row 30 11 (.slice so7 ys.length ca7) ys.length (cellsOf ys.reverse) :: .obj g4 (.cells (qr.d.cells qr.ts.length).toArray 30) :: .obj g2 (.cells (t.d.cells t.ts.length).toArray 30) :: []) := hM8
   refine ⟨_, rfl, ?_⟩
   intro a A
   refine qa (hK14 _ _ (wsk fun K16 hK16 => wrl (sdm A λa A↦?_)))
   have hlt17 := (Ck.lt (M.has 1 rfl) g4 rfl).2
   have hlt18 := (Ck.lt (M.has 2 rfl) g2 rfl).2
   have hzt2 := M.bel.size
   refine sct A (ef rfl rfl) (qzf (qab (M.has 0 rfl)).1 (fun t ht => Dt.keep M.bel _ (hy2 t (List.mem_reverse.1 ht))) (by rw [List.map_reverse, qob]; omega)) ?_
   rintro _ w20 ⟨t2, rfl, ⟨hrt2, hat2, htt2⟩, hb19⟩
   replace M := M.call hb19
   refine ⟨_, rfl, ?_⟩
   intro a A
   refine vq (us := (t2.d.cells t2.ts.length)) (L' := (.row 30 11 (.slice so7 ys.length ca7) ys.length (cellsOf ys.reverse) :: .obj g4 (.cells (t2.d.cells t2.ts.length).toArray 30) :: .obj g2 (.cells (t.d.cells t.ts.length).toArray 30) :: [])) A M rfl rfl (ze rfl rfl rfl (by kernel_rfl) M 1 rfl rfl rfl) 1 rfl rfl rfl ?_
   intro w21 M hK22
   replace hrt2 := Dt.kept hK22 _ hrt2 (Dt.at_mono (fun b hb => by rintro rfl; omega) _ hat2)
   refine sda A λa A↦?_
   refine qa (hK16 _ _ (wp_ret (hret _ _ (en2 A rfl (jr M LiG_isS_30 rfl 1 rfl (cs := [.int .i64 t2.d.k, .int .i64 t2.d.n, .bool t2.d.y.q.b1, .slice t2.d.y.o1 t2.d.y.q.t1.length t2.d.y.c1, .slice t2.d.y.o2 t2.d.y.q.q1.length t2.d.y.c2, .bool t2.d.y.q.b2, .slice t2.d.y.o3 t2.d.y.q.t2.length t2.d.y.c3, .slice t2.d.y.o4 t2.d.y.q.q2.length t2.d.y.c4, .string t2.d.s, .slice t2.d.ro t2.d.rl.length t2.d.rc, .slice t2.d.lo t2.ts.length t2.d.lc]) rfl rfl) (qh rfl) ?_))))
   exact ⟨t2, 0, rfl, ⟨hrt2, Dt.at_mono (fun b hb => Nat.le_trans hzt2 hb) _ hat2, by unfold qrb; rw [if_neg (by rw [hb7]; decide), hy1]; rw [htt2, List.map_reverse]⟩, M.bel⟩
  ·
   refine gcl A M (ef rfl rfl) (qkh M.bel ht (by omega) (hT.below M.bel) hb7 hb9) fun w24 hb23 M a A => ?_
   refine sdm A λa A↦?_
   iterate 2 refine sdo A (zj (vs := [.slice none 0 0, .int .i64 10]) rfl rfl) λa A↦?_
   iterate 2 refine sda A λa A↦?_
   refine qa (hK6 _ _ (wsk fun K25 hK25 => wsk fun K26 hK26 => wrl (sdm A λa A↦?_)))
   refine sdo (v := .bool true) A (qf rfl rfl (fun w => by kernel_rfl)) λa A↦?_
   refine qa (hK26 _ _ (wp_cond_true (A.ev rfl) ?_))
   refine wsk fun K27 hK27 => wrl (sdo (v := .agg (qr.d.cells qr.ts.length).toArray) A (zv rfl (fun w => by kernel_rfl)) λa A↦?_)
   refine sdm A λa A↦?_
   refine zu (us := (qr.d.cells qr.ts.length)) (L' := (.obj g4 (.cells (qr.d.cells qr.ts.length).toArray 30) :: .obj g2 (.cells (t.d.cells t.ts.length).toArray 30) :: [])) A M rfl rfl (ze rfl rfl rfl (by kernel_rfl) M 0 rfl rfl rfl) 0 rfl rfl rfl ?_
   intro w28 M
   refine sda A λa A↦?_
   refine qa (hK27 _ _ (wp_ret (hret _ _ (en2 A rfl (jr M LiG_isS_30 rfl 0 rfl (cs := [.int .i64 0, .int .i64 0, .bool false, .slice none 0 0, .slice none 0 0, .bool false, .slice none 0 0, .slice none 0 0, .string (⟨#[]⟩), .slice none 0 0, .slice none 0 0]) rfl rfl) (qh rfl) ?_))))
   exact ⟨qr, 10, rfl, ⟨qad _, qae _, by unfold qrb; rw [if_neg (by rw [hb7]; decide), zdc hb9, qac]⟩, M.bel⟩
 ·
  refine gcl A M (ef rfl rfl) (qgb M.bel ht (by omega) (hT.below M.bel) hb7) fun w30 hb29 M a A => ?_
  refine sdm A λa A↦?_
  iterate 2 refine sdo A (zj (vs := [.slice none 0 0, .int .i64 2]) rfl rfl) λa A↦?_
  iterate 2 refine sda A λa A↦?_
  refine qa (hK6 _ _ (wsk fun K31 hK31 => wsk fun K32 hK32 => wrl (sdm A λa A↦?_)))
  refine sdo (v := .bool true) A (qf rfl rfl (fun w => by kernel_rfl)) λa A↦?_
  refine qa (hK32 _ _ (wp_cond_true (A.ev rfl) ?_))
  refine wsk fun K33 hK33 => wrl (sdo (v := .agg (qr.d.cells qr.ts.length).toArray) A (zv rfl (fun w => by kernel_rfl)) λa A↦?_)
  refine sdm A λa A↦?_
  refine zu (us := (qr.d.cells qr.ts.length)) (L' := (.obj g4 (.cells (qr.d.cells qr.ts.length).toArray 30) :: .obj g2 (.cells (t.d.cells t.ts.length).toArray 30) :: [])) A M rfl rfl (ze rfl rfl rfl (by kernel_rfl) M 0 rfl rfl rfl) 0 rfl rfl rfl ?_
  intro w34 M
  refine sda A λa A↦?_
  refine qa (hK33 _ _ (wp_ret (hret _ _ (en2 A rfl (jr M LiG_isS_30 rfl 0 rfl (cs := [.int .i64 0, .int .i64 0, .bool false, .slice none 0 0, .slice none 0 0, .bool false, .slice none 0 0, .slice none 0 0, .string (⟨#[]⟩), .slice none 0 0, .slice none 0 0]) rfl rfl) (qh rfl) ?_))))
  exact ⟨qr, 2, rfl, ⟨qad _, qae _, by unfold qrb; rw [if_pos hb7, qac]⟩, M.bel⟩

/-- A list is sound. -/
def OkL (L : List Tr) : Prop := L.all (kh 2) = true ∧ ju L + L.length + 1 ≤ 20000 ∧ L.all (xv qn) = true
theorem ul (L : List Tr) : zd qn (zn L nilT) = true ↔ OkL L := by
  rw [qda]
  have h1 : kh 1 nilT = true := by rfl
  have h2 : xv qn nilT = true := by rfl
  have h3 : yf nilT = 1 := by rfl
  rw [h3]
  unfold OkL
  constructor
  · rintro ⟨⟨a, _⟩, b, c, _⟩; exact ⟨a, b, c⟩
  · rintro ⟨a, b, c⟩; exact ⟨⟨a, h1⟩, b, c, h2⟩
theorem OkL.of {L M : List Tr} (h : OkL L) (hm : ∀ x ∈ M, x ∈ L) (hn : ju M + M.length ≤ ju L + L.length) : OkL M := ⟨List.all_eq_true.2 fun x hx => List.all_eq_true.1 h.1 x (hm x hx), by have := h.2.1; omega, List.all_eq_true.2 fun x hx => List.all_eq_true.1 h.2.2 x (hm x hx)⟩
theorem qrd : zd qn kz = false := by rfl
theorem qre {A : List Tr} (h : OkL A) : ofS A = zn A nilT := by unfold ofS; rw [qvb ((ul A).2 h)]
theorem zgh {A : List Tr} (h : zd qn (ofS A) = true) : OkL A ∧ ofS A = zn A nilT := by
  by_cases hc : zd qn (zn A nilT) = true
  · exact ⟨(ul A).1 hc, qre ((ul A).1 hc)⟩
  · unfold ofS at h
    rw [qrc (Bool.eq_false_iff.2 hc), qrd] at h
    cases h
theorem qzg {A : List Tr} (h : OkL A) : qrb (zn A nilT) = (zn A.reverse nilT, 0) := by
  unfold qrb
  rw [if_neg (by rw [(ul A).2 h]; decide), vm]
/-! ### How much the answers hold -/
theorem zmd (xs : List Tr) (z : Tr) : (fitS xs z).1.bulk ≤ Tr.bulks xs + xs.length + z.bulk + 1 := by
  unfold fitS
  split
  · show (zn xs z).bulk ≤ _; rw [vy]; omega
  · show kz.bulk ≤ _; rw [show kz.bulk = 1 from rfl]; omega
theorem zui : ∀ xs : List Tr, xs.length ≤ Tr.bulks xs
  | [] => Nat.le_refl _
  | t :: xs => by
    have := zui xs
    have h2 : 1 ≤ t.bulk := by cases t; rw [vu]; omega
    rw [Tr.bulks, List.length_cons]; omega
theorem zdd (xs : List Tr) : (ofS xs).bulk ≤ Tr.bulks xs + Tr.bulks xs + 2 := by
  have h1 := zmd xs nilT
  have h2 := zui xs
  rw [show nilT.bulk = 1 from rfl] at h1
  unfold ofS
  omega
theorem zme (t : Tr) : (qrb t).1.bulk ≤ t.bulk + 1 := by
  unfold qrb
  split
  · show kz.bulk ≤ _; rw [show kz.bulk = 1 from rfl]; omega
  · cases h : jp t with
    | none => show kz.bulk ≤ _; rw [show kz.bulk = 1 from rfl]; omega
    | some xs =>
      have h1 := ym h
      have h2 : Tr.bulks xs.reverse = Tr.bulks xs := by
        have key : ∀ ts : List Tr, Tr.bulks ts.reverse = Tr.bulks ts := by
          intro ts
          induction ts with
          | nil => rfl
          | cons t ts ih => rw [List.reverse_cons, kp, ih, Tr.bulks, Tr.bulks, Tr.bulks]; omega
        exact key xs
      show (zn _ _).bulk ≤ _
      rw [vy, h2, List.length_reverse, show nilT.bulk = 1 from rfl]
      omega
/-- The items of a datum, and the error. -/
noncomputable def qkj (t : Tr) : List Tr × Int :=
  if zd qn t = false then ([], 2) else match jp t with
    | none => ([], 10)
    | some xs => (xs, 0)
theorem zgi {t : Tr} (h : zd qn t = false) : qkj t = ([], 2) := by unfold qkj; rw [if_pos h]
theorem qzh {t : Tr} (h : zd qn t = true) (ha : jp t = none) : qkj t = ([], 10) := by unfold qkj; rw [if_neg (by rw [h]; decide), ha]
theorem qla {t : Tr} {xs : List Tr} (h : zd qn t = true) (ha : jp t = some xs) : qkj t = (xs, 0) := by unfold qkj; rw [if_neg (by rw [h]; decide), ha]
/-! ### A fixed fact -/
def ve (k : Int) : Dt := .mk ⟨k, 0, ⟨Q6.zero, none, 0, none, 0, none, 0, none, 0⟩, ⟨#[]⟩, none, 0, [], none, 0⟩ []
theorem zmf : qrb (ofS [(ve 2).tr, (ve 10).tr]) = (zn [(ve 10).tr, (ve 2).tr] nilT, 0) := by
  have h : OkL [(ve 2).tr, (ve 10).tr] := by
    unfold ve
    rw [Dt.tr_mk, Dt.tr_mk]
    exact ⟨by rfl, by decide, by rfl⟩
  rw [qre h, qzg h]
  rfl
theorem zmg (w : World) : ∀ t ∈ [ve 2, ve 10], t.rd w := fun t ht => by
  rcases List.mem_cons.1 ht with h | h
  · rw [h]; exact qid w 2 (by decide) (by decide)
  · rw [List.mem_singleton.1 h]; exact qid w 10 (by decide) (by decide)
theorem zgj {t : Dt} {a b : Tr} (h : t.tr = .mk 8 0 Q6.zero ⟨#[]⟩ [] [a, b]) : t.d.k = 8 ∧ t.ts.length = 2 ∧ ∀ u, t.ts[0]? = some u → u.tr = a := by
  cases t with
  | mk d ts =>
    rw [Dt.tr_mk] at h
    injection h with h1 _ _ _ _ h2
    refine ⟨h1, ?_, fun u hu => ?_⟩
    · have := congrArg List.length h2; rw [List.length_map] at this; exact this
    · have := congrArg (fun l => l[0]?) h2
      simp only [List.getElem?_map] at this
      simp only [Dt.ts] at hu
      rw [hu] at this
      simpa using this
theorem qrf {α β : Type} {lt : α → α → Bool} {lt' : β → β → Bool} {f : α → β} (h : ∀ x y, lt x y = lt' (f x) (f y)) : ∀ xs ys : List α, (mrg lt xs ys).map f = mrg lt' (xs.map f) (ys.map f)
 | [], ys => by rw [vd, List.map_nil, vd]
 | x :: xs, [] => by rw [vn, List.map_nil, vn]
 | x :: xs, y :: ys => by
  rw [List.map_cons, List.map_cons]
  cases h9 : lt y x with
  | true => rw [kf h9, kf (by rw [← h]; exact h9), List.map_cons, qrf h (x :: xs) ys, List.map_cons]
  | false => rw [ya h9, ya (by rw [← h]; exact h9), List.map_cons, qrf h xs (y :: ys), List.map_cons]
termination_by xs ys => xs.length + ys.length
theorem qoc {α β : Type} {lt : α → α → Bool} {lt' : β → β → Bool} {f : α → β} (h : ∀ x y, lt x y = lt' (f x) (f y)) : ∀ xs : List α, (zp lt xs).map f = zp lt' (xs.map f)
 | [] => rfl
 | x :: xs => by
  show (mrg lt [x] (zp lt xs)).map f = mrg lt' [f x] (zp lt' (xs.map f))
  rw [qrf h, qoc h xs]; rfl
theorem qlb {xs ys : List Tr} (h : xs.Perm ys) : Tr.bulks xs = Tr.bulks ys := by
 induction h with
 | nil => rfl
 | cons x _ ih => show x.bulk + _ = x.bulk + _; rw [ih]
 | swap x y l => show y.bulk + (x.bulk + _) = x.bulk + (y.bulk + _); omega
 | trans _ _ h1 h2 => rw [h1, h2]
open Go.RowKit Go.Lib
theorem qod {P : Program} {w : World} {b : Nat} : ∀ (l : List UInt8) (off : Nat) (acc : ByteArray), (∀ j, j < l.length → w.cell? ⟨b, off + j, none⟩ = some (.int .u8 (((l.getD j 0).toNat : Nat) : Int))) → (Extern.Bytes.loadBytes ⟨b, off, none⟩ l.length acc).run P w = .ok ⟨acc.data ++ l.toArray⟩ w
  | [], off, acc, _ => by
    simp [Extern.Bytes.loadBytes]
  | x :: l, off, acc, h => by
    have h0 := h 0 (by simp)
    have hl : (load ⟨b, off, none⟩).run P w = .ok (.int .u8 ((x.toNat : Nat) : Int)) w := by
      rw [Nat.add_zero] at h0
      have h1 : w.cell? ⟨b, off, none⟩ = some (.int .u8 ((x.toNat : Nat) : Int)) := by simpa using h0
      simp [go_sem, h1]
    have hn : ∀ j, j < l.length → w.cell? ⟨b, off + 1 + j, none⟩ = some (.int .u8 (((l.getD j 0).toNat : Nat) : Int)) := by
      intro j hj
      have h3 := h (j + 1) (by simpa using hj)
      rw [show off + (j + 1) = off + 1 + j by omega] at h3
      simpa using h3
    have ih := qod (P := P) l (off + 1) (acc.push x) hn
    rw [List.length_cons, Extern.Bytes.loadBytes, Sem.run_bind, hl]
    simp only [Result.andThen_ok, xt, Int.toNat_natCast, UInt8.ofNat_toNat]
    rw [ih]
    congr 2
    simp
theorem qlc {P : Program} {w : World} {so : Option Addr} {l : List UInt8} {ca : Nat} (h : Rb w so l) : (Extern.Bytes.bytesOf (.slice so l.length ca)).run P w = .ok ⟨l.toArray⟩ w := by
  by_cases hl : l = []
  · subst hl
    cases so with
    | none => simp [Extern.Bytes.bytesOf]; rfl
    | some a => simp [Extern.Bytes.bytesOf, Extern.Bytes.loadBytes]; rfl
  · obtain ⟨b, off, rfl, _, h2⟩ := h.pos hl
    have := qod (P := P) l off .empty h2
    simp only [Extern.Bytes.bytesOf]
    rw [this]
    simp
theorem qrg {P : Program} {w : World} {so sp : Option Addr} {a b : List UInt8} {ca cb : Nat} (ha : Rb w so a) (hb : Rb w sp b) : (Extern.BytealgCompare.compare #[.slice so a.length ca, .slice sp b.length cb]).run P w = .ok (.int .i64 (compareBytes a b)) w := by
  change Sem.run P (do pure (goInt (Extern.BytealgCompare.cmp (← Extern.Bytes.bytesOf (.slice so a.length ca)) (← Extern.Bytes.bytesOf (.slice sp b.length cb))))) w = _
  simp only [Sem.run_bind, Sem.run_pure, Result.andThen, qlc ha, qlc hb]
  rw [Go.Lib.cmp_eq]
  rfl
set_option maxHeartbeats 1000000 in
set_option maxRecDepth 100000 in
theorem zmh {w : World} {so sp : Option Addr} {a b : List UInt8} {ca cb : Nat} (ha : Rb w so a) (hb : Rb w sp b) : Calls Tryz.prog 77 #[.slice so a.length ca, .slice sp b.length cb] w fun e w' => e = .returned (.int .i64 (compareBytes a b)) ∧ Below w.heap.size w w' := by
  go_enter Tryz.func77, Tryz.ntmps77
  go_wp2
  rw [run_callFunc_extern Tryz.func94 (by kernel_rfl) (by kernel_rfl) (by kernel_rfl) (e := Extern.BytealgCompare.compare) (by kernel_rfl), qrg ha hb]
  simp only [Result.andThen]
  rw [Oper.upon_value]
  go_wp2
  go_ret
  exact ⟨rfl, Below.refl _ _⟩
theorem qld {w : World} {s t : ByteArray} : Calls Tryz.prog 76 #[.string s, .string t] w fun e w' => e = .returned (.int .i64 (compareBytes s.data.toList t.data.toList)) ∧ Below w.heap.size w w' := (Tryz.strings_Compare s t w).mono fun e w' ⟨h, e2⟩ => ⟨h, e2 ▸ Below.refl _ _⟩
open Go.Lib
theorem zde {w : World} {so : Option Addr} {l : List UInt8} {i : Nat} (h : Rb w so l) (hi : i < l.length) : ∃ b off, so = some ⟨b, off, none⟩ ∧ b < w.heap.size ∧ ∀ j, j < l.length → w.cell? ⟨b, off + j, none⟩ = some (.int .u8 (((l.getD j 0).toNat : Nat) : Int)) :=
 h.pos (fun k => by rw [k] at hi; exact absurd hi (Nat.not_lt_zero _))
section
variable {P : Program} {w0 w : World} {L : List Ck} {l : List (Nat × Value)} {dst : Option Tmp} {ty : TypeId} {pos : String} {after : Array Edge} {guard : Option (Nat × Bool)} {v : Value}
end
section
variable {P : Program} {w0 w : World} {L : List Ck} {l : List (Nat × Value)} {ops : List Oper} {Q : Exit → Act → World → Prop} {a : Act} {n : Nat} {rest : List Oper} {d : Nat} {dst : Option Tmp} {ty : TypeId} {pos : String} {after : Array Edge} {guard : Option (Nat × Bool)}
end
/-! ### Encode -/
section
variable {k n : Int} {q : Q6} {s : ByteArray} {mr ml : Nat}
end
end Go.Proofs.YtipikhcmieboaaaGreatDoor.G
namespace Go.Proofs.YtipikhcmieboaaaGreatDoor
open Go.RowKit
set_option linter.unusedVariables false
set_option linter.unusedSimpArgs false
set_option maxRecDepth 100000
theorem EqN_is1_23 : Is1 Tryz.prog 23 := ⟨⟨_, Tryz.underlying23, rfl⟩, by kernel_rfl⟩
theorem EqN_is1_4 : Is1 Tryz.prog 4 := ⟨⟨_, Tryz.underlying4, rfl⟩, by kernel_rfl⟩
theorem EqN_fld_25_0 : FieldAt Tryz.prog 25 0 0 := ⟨_, _, Tryz.underlying25, rfl, rfl, by kernel_rfl⟩
theorem EqN_fld_25_1 : FieldAt Tryz.prog 25 1 1 := ⟨_, _, Tryz.underlying25, rfl, rfl, by kernel_rfl⟩
theorem EqN_fld_25_2 : FieldAt Tryz.prog 25 2 2 := ⟨_, _, Tryz.underlying25, rfl, rfl, by kernel_rfl⟩
theorem EqN_fld_27_0 : FieldAt Tryz.prog 27 0 0 := ⟨_, _, Tryz.underlying27, rfl, rfl, by kernel_rfl⟩
theorem EqN_fld_27_1 : FieldAt Tryz.prog 27 1 3 := ⟨_, _, Tryz.underlying27, rfl, rfl, by kernel_rfl⟩
theorem EqN_isS_25 : IsS Tryz.prog 25 3 := ⟨⟨_, Tryz.underlying25⟩, by kernel_rfl⟩
theorem EqN_isS_27 : IsS Tryz.prog 27 6 := ⟨⟨_, Tryz.underlying27⟩, by kernel_rfl⟩
theorem qlf (u : Rat) : Q6.rat u 0 = ⟨rb u.num, words u.num.natAbs, words u.den, false, [], [1]⟩ := by
 unfold Q6.rat
 have h0 : words (0 : Rat).num.natAbs = [] := by show words 0 = []; exact words_zero
 have h1 : words (0 : Rat).den = [1] := by show words 1 = [1]; exact vj
 rw [h0, h1]
 rfl
theorem znc {u x : Rat} (hu : xg u) (hx : xg x) : zee ⟨rb u.num, words u.num.natAbs, words u.den, false, [], [1]⟩ ⟨rb x.num, words x.num.natAbs, words x.den, false, [], [1]⟩ = (xw u x, 0) := by
 rw [← qlf, ← qlf, zjb hu hx]
theorem znd : xg 0 := by
 refine ⟨?_, ?_⟩
 ·
  show (words 0).length ≤ 512; rw [words_zero]; decide
 ·
  show (words 1).length ≤ 512; rw [vj]; decide
theorem qve {u : Rat} (hu : xg u) : LenQ ⟨rb u.num, words u.num.natAbs, words u.den, false, [], [1]⟩ := by rw [← qlf]; exact qjg hu znd
theorem zha {u x : Rat} (h : xf (rb u.num) (words u.num.natAbs) (words u.den) (rb x.num) (words x.num.natAbs) (words x.den) = true) : xw u x = 0 := by
 unfold xf at h
 simp only [Bool.and_eq_true, beq_iff_eq, decide_eq_true_eq] at h
 rw [zpb h.1 h.2.1 h.2.2]
 unfold xw
 rw [if_neg Rat.lt_irrefl, if_pos rfl]
theorem qhb {w : World} {b b' : Bool} {t q t' q' : List Nat} {a1 a2 : Option Addr} {ac1 ac2 : Nat} (ha1 : Sc w a1 ac1 t) (ha2 : Sc w a2 ac2 q) {u1 u2 : Option Addr} {uc1 uc2 : Nat} (hu1 : Sc w u1 uc1 t') (hu2 : Sc w u2 uc2 q') (l1 : t.length ≤ 9223372036854775807) (l2 : q.length ≤ 9223372036854775807) (l3 : t'.length ≤ 9223372036854775807) (l4 : q'.length ≤ 9223372036854775807) {r : Bool} (hr : xf b t q b' t' q' = r) :
  Calls Tryz.prog 107 #[.agg #[.bool b, .slice a1 t.length ac1, .slice a2 q.length ac2], .agg #[.bool b', .slice u1 t'.length uc1, .slice u2 q'.length uc2]] w fun e w' => e = .returned (.bool r) ∧ Below w.heap.size w w' := by
 have V : St w w [] [(u2, q'), (u1, t'), (a2, q), (a1, t)] [] := ((((St.start w).addR ha1.rd).addR ha2.rd).addR hu1.rd).addR hu2.rd
 refine qm (l := [(0, .agg #[.bool b, .slice a1 t.length ac1, .slice a2 q.length ac2]), (1, .agg #[.bool b', .slice u1 t'.length uc1, .slice u2 q'.length uc2])]) Tryz.func107 rfl Tryz.ntmps107 rfl rfl ?_
 intro Q hret hnorm hP a A
 refine wsk fun K1 hK1 => wrl (zt A V rfl rfl rfl pg (qs rfl rfl) rfl ?_)
 intro g2 w3 V a A
 refine zt A V rfl rfl rfl pg (qs rfl rfl) rfl ?_
 intro g4 w5 V a A
 refine sda A λa A↦?_
 refine qa (hK1 _ _ (wsk fun K6 hK6 => wrl (sdo (v := .pointer (some ⟨g2, 0, none⟩)) A (qb EqN_fld_25_0 rfl rfl) λa A↦?_)))
 refine sdo A (qy V EqN_is1_4 rfl 1 rfl rfl) λa A↦?_
 refine sdo (v := .pointer (some ⟨g4, 0, none⟩)) A (qb EqN_fld_25_0 rfl rfl) λa A↦?_
 refine sdo A (qy V EqN_is1_4 rfl 0 rfl rfl) λa A↦?_
 rcases tf ((b == b')) with hb7 | hb7
 ·
  have hb7' := eq_of_beq hb7
  refine sdo (v := .bool true) A (qf rfl rfl (fun w => ((yv Tryz.underlying4) w).trans (by rw [hb7]))) λa A↦?_
  refine sdm A λa A↦?_
  refine sdo (v := .pointer (some ⟨g2, 1, none⟩)) A (qb EqN_fld_25_1 rfl rfl) λa A↦?_
  refine sdo A (qy V EqN_is1_23 rfl 1 rfl rfl) λa A↦?_
  refine sdo (v := .pointer (some ⟨g4, 1, none⟩)) A (qb EqN_fld_25_1 rfl rfl) λa A↦?_
  refine sdo A (qy V EqN_is1_23 rfl 0 rfl rfl) λa A↦?_
  rcases tf (decide (t = t')) with hb8 | hb8
  ·
   have hb8' := of_decide_eq_true hb8
   refine sct A (ef rfl rfl) (uf _ _ (V.rd 3 rfl) (V.rd 1 rfl) l1 l3 hb8) ?_
   rintro _ w10 ⟨rfl, hb9⟩
   replace V := V.call hb9
   refine ⟨_, rfl, ?_⟩
   intro a A
   refine sdk (v := .bool true) A λa A↦?_
   refine sdm A λa A↦?_
   refine sdo (v := .pointer (some ⟨g2, 2, none⟩)) A (qb EqN_fld_25_2 rfl rfl) λa A↦?_
   refine sdo A (qy V EqN_is1_23 rfl 1 rfl rfl) λa A↦?_
   refine sdo (v := .pointer (some ⟨g4, 2, none⟩)) A (qb EqN_fld_25_2 rfl rfl) λa A↦?_
   refine sdo A (qy V EqN_is1_23 rfl 0 rfl rfl) λa A↦?_
   rcases tf (decide (q = q')) with hb11 | hb11
   ·
    have hb11' := of_decide_eq_true hb11
    refine sct A (ef rfl rfl) (uf _ _ (V.rd 2 rfl) (V.rd 0 rfl) l2 l4 hb11) ?_
    rintro _ w13 ⟨rfl, hb12⟩
    replace V := V.call hb12
    refine ⟨_, rfl, ?_⟩
    intro a A
    refine sdk (v := .bool true) A λa A↦?_
    refine sda A λa A↦?_
    refine qa (hK6 _ _ (wp_ret (hret _ _ (en1 A rfl (qh rfl) ?_))))
    subst hr
    exact ⟨by unfold xf; rw [hb7, hb8, hb11]; try rfl, V.bel⟩
   ·
    have hb11' := of_decide_eq_false hb11
    refine sct A (ef rfl rfl) (uf _ _ (V.rd 2 rfl) (V.rd 0 rfl) l2 l4 hb11) ?_
    rintro _ w15 ⟨rfl, hb14⟩
    replace V := V.call hb14
    refine ⟨_, rfl, ?_⟩
    intro a A
    refine sdk (v := .bool false) A λa A↦?_
    refine sda A λa A↦?_
    refine qa (hK6 _ _ (wp_ret (hret _ _ (en1 A rfl (qh rfl) ?_))))
    subst hr
    exact ⟨by unfold xf; rw [hb7, hb8, hb11]; try rfl, V.bel⟩
  ·
   have hb8' := of_decide_eq_false hb8
   refine sct A (ef rfl rfl) (uf _ _ (V.rd 3 rfl) (V.rd 1 rfl) l1 l3 hb8) ?_
   rintro _ w17 ⟨rfl, hb16⟩
   replace V := V.call hb16
   refine ⟨_, rfl, ?_⟩
   intro a A
   refine sdk (v := .bool false) A λa A↦?_
   refine sdm A λa A↦?_
   iterate 5 refine qx A rfl rfl rfl λa A↦?_
   refine sdk (v := .bool false) A λa A↦?_
   refine sda A λa A↦?_
   refine qa (hK6 _ _ (wp_ret (hret _ _ (en1 A rfl (qh rfl) ?_))))
   subst hr
   exact ⟨by unfold xf; rw [hb7, hb8]; try rfl, V.bel⟩
 ·
  have hb7' := ne_of_beq_false hb7
  refine sdo (v := .bool false) A (qf rfl rfl (fun w => ((yv Tryz.underlying4) w).trans (by rw [hb7]))) λa A↦?_
  refine sdm A λa A↦?_
  iterate 5 refine qx A rfl rfl rfl λa A↦?_
  refine sdk (v := .bool false) A λa A↦?_
  refine sdm A λa A↦?_
  iterate 5 refine qx A rfl rfl rfl λa A↦?_
  refine sdk (v := .bool false) A λa A↦?_
  refine sda A λa A↦?_
  refine qa (hK6 _ _ (wp_ret (hret _ _ (en1 A rfl (qh rfl) ?_))))
  subst hr
  exact ⟨by unfold xf; rw [hb7]; try rfl, V.bel⟩
theorem qoe {w : World} {b : Bool} {t q : List Nat} {a1 a2 : Option Addr} {ac1 ac2 : Nat} (ha1 : Sc w a1 ac1 t) (ha2 : Sc w a2 ac2 q) : Calls Tryz.prog 109 #[.agg #[.bool b, .slice a1 t.length ac1, .slice a2 q.length ac2]] w (AnsV w ⟨b, t, q, false, [], [1]⟩) := by
 have V : St w w [] [(a2, q), (a1, t)] [] := ((St.start w).addR ha1.rd).addR ha2.rd
 refine qm (l := [(0, .agg #[.bool b, .slice a1 t.length ac1, .slice a2 q.length ac2])]) Tryz.func109 rfl Tryz.ntmps109 rfl rfl ?_
 intro Q hret hnorm hP a A
 refine wsk fun K1 hK1 => wrl (zt A V rfl rfl rfl pg (qs rfl rfl) rfl ?_)
 intro g2 w3 V a A
 refine zt (vs := [.bool false, .slice none 0 0, .slice none 0 0, .bool false, .slice none 0 0, .slice none 0 0]) (t := 27) A V rfl rfl rfl pg (qk (z := .agg #[.bool false, .slice none 0 0, .slice none 0 0, .bool false, .slice none 0 0, .slice none 0 0]) (by kernel_rfl) rfl) rfl ?_
 intro g4 w5 V a A
 refine qa (hK1 _ _ (wsk fun K6 hK6 => jc (S := fun w1 => St w w1 [(g2, [.bool b, .slice a1 t.length ac1, .slice a2 q.length ac2])] [(a2, q), (a1, t)] []) (by kernel_rfl) ?_))
 replace V := V.drew
 refine qe A 0 rfl rfl rfl rfl hP (V.partD (cn (cc .slnil)) 0 rfl (.refl _)) (fun w1 V => zi V EqN_isS_25 rfl 0 rfl (cs := [.bool b, .slice a1 t.length ac1, .slice a2 q.length ac2]) rfl rfl) λa A↦?_
 refine qi (by kernel_rfl) (za A 1 rfl rfl rfl rfl (qj  rfl rfl (fun w => by kernel_rfl)) ((show Calls Tryz.prog 126 #[.int .i64 (0)] _ (AnsV _ (Q6.whole false 0)) from zmi (k := 0) (by decide))) ?_)
 rintro _ w10 ⟨p7_1, p7_c1, p7_2, p7_c2, p7_3, p7_c3, p7_4, p7_c4, rfl, hn8, hb9⟩
 replace V := V.call hb9
 replace V := V.addR hn8.s1.rd
 replace V := V.addR hn8.s2.rd
 replace V := V.addR hn8.s3.rd
 replace V := V.addR hn8.s4.rd
 refine ⟨_, rfl, (V.partD (cn (cc .slnil)) 4 rfl (.refl _)), ?_⟩
 intro a A
 refine qe (v := .agg #[.bool false, .slice p7_3 0 p7_c3, .slice p7_4 1 p7_c4]) A 2 rfl rfl rfl rfl hP (V.partD (cn (cc .slnil)) 4 rfl (.refl _)) (fun w1 V => qrj rfl (fun w => by kernel_rfl)) λa A↦?_
 refine qe (v := .agg #[.bool b, .slice a1 t.length ac1, .slice a2 q.length ac2, .bool false, .slice p7_3 0 p7_c3, .slice p7_4 1 p7_c4]) A 3 rfl rfl rfl rfl hP (V.partD (cn (cc .slnil)) 4 rfl (.refl _)) (fun w1 V => zv rfl (fun w => by kernel_rfl)) λa A↦?_
 refine qi (by kernel_rfl) (zr (us := [.bool b, .slice a1 t.length ac1, .slice a2 q.length ac2, .bool false, .slice p7_3 0 p7_c3, .slice p7_4 1 p7_c4]) A V 4 rfl rfl rfl (qw rfl rfl rfl (by kernel_rfl) V 0 rfl rfl rfl) 0 rfl rfl rfl rfl ?_)
 intro w11 V
 refine ⟨(V.partD (cn (cc .slnil)) 4 rfl (.refl _)), ?_⟩
 refine zb (by kernel_rfl) ?_
 refine hK6 _ _ (wp_ret (hret _ _ (en1 A rfl (xj V EqN_isS_27 rfl 0 rfl (cs := [.bool b, .slice a1 t.length ac1, .slice a2 q.length ac2, .bool false, .slice p7_3 0 p7_c3, .slice p7_4 1 p7_c4]) rfl rfl) ?_)))
 exact ⟨a1, ac1, a2, ac2, p7_3, p7_c3, p7_4, p7_c4, rfl, ⟨⟨(V.rd 5 rfl), ha1.nil, ha1.cap⟩, ⟨(V.rd 4 rfl), ha2.nil, ha2.cap⟩, ⟨(V.rd 1 rfl), hn8.s3.nil, hn8.s3.cap⟩, ⟨(V.rd 0 rfl), hn8.s4.nil, hn8.s4.cap⟩⟩, V.bel⟩
theorem qof {w : World} {u x : Rat} (hu : xg u) (hx : xg x) {a1 a2 : Option Addr} {ac1 ac2 : Nat} (ha1 : Sc w a1 ac1 (words u.num.natAbs)) (ha2 : Sc w a2 ac2 (words u.den)) {e1 e2 : Option Addr} {ec1 ec2 : Nat} (he1 : Sc w e1 ec1 (words x.num.natAbs)) (he2 : Sc w e2 ec2 (words x.den)) : Calls Tryz.prog 92 #[.agg #[.bool ((rb u.num)), .slice a1 (words u.num.natAbs).length ac1, .slice a2 (words u.den).length ac2], .agg #[.bool ((rb x.num)), .slice e1 (words x.num.natAbs).length ec1, .slice e2 (words x.den).length ec2]] w fun e w' => e = .returned (.int .i64 (xw u x)) ∧ Below w.heap.size w w' := by
 have V : St w w [] [(e2, words x.den), (e1, words x.num.natAbs), (a2, words u.den), (a1, words u.num.natAbs)] [] := ((((St.start w).addR ha1.rd).addR ha2.rd).addR he1.rd).addR he2.rd
 refine qm (l := [(0, .agg #[.bool ((rb u.num)), .slice a1 ((words u.num.natAbs).length) ac1, .slice a2 ((words u.den).length) ac2]), (1, .agg #[.bool ((rb x.num)), .slice e1 ((words x.num.natAbs).length) ec1, .slice e2 ((words x.den).length) ec2])]) Tryz.func92 rfl Tryz.ntmps92 rfl rfl ?_
 intro Q hret hnorm hP a A
 refine wsk fun K1 hK1 => wrl (zt A V rfl rfl rfl pg (qs rfl rfl) rfl ?_)
 intro g2 w3 V a A
 refine zt A V rfl rfl rfl pg (qs rfl rfl) rfl ?_
 intro g4 w5 V a A
 refine sda A λa A↦?_
 refine qa (hK1 _ _ (wsk fun K6 hK6 => wsk fun K7 hK7 => wrl (sdo A (zi V EqN_isS_25 rfl 1 rfl (cs := [.bool ((rb u.num)), .slice a1 ((words u.num.natAbs).length) ac1, .slice a2 ((words u.den).length) ac2]) rfl rfl) λa A↦?_)))
 refine sdo A (zi V EqN_isS_25 rfl 0 rfl (cs := [.bool ((rb x.num)), .slice e1 ((words x.num.natAbs).length) ec1, .slice e2 ((words x.den).length) ec2]) rfl rfl) λa A↦?_
 rcases tf (xf (rb u.num) (words u.num.natAbs) (words u.den) (rb x.num) (words x.num.natAbs) (words x.den)) with hb8 | hb8
 ·
  refine sct A (ef rfl rfl) (qhb ⟨(V.rd 3 rfl), ha1.nil, ha1.cap⟩ ⟨(V.rd 2 rfl), ha2.nil, ha2.cap⟩ ⟨(V.rd 1 rfl), he1.nil, he1.cap⟩ ⟨(V.rd 0 rfl), he2.nil, he2.cap⟩ (Nat.le_trans hu.1 (by decide)) (Nat.le_trans hu.2 (by decide)) (Nat.le_trans hx.1 (by decide)) (Nat.le_trans hx.2 (by decide)) hb8) ?_
  rintro _ w10 ⟨rfl, hb9⟩
  replace V := V.call hb9
  refine ⟨_, rfl, ?_⟩
  intro a A
  refine qa (hK7 _ _ (wp_cond_true (A.ev rfl) ?_))
  refine wsk fun K11 hK11 => wrl (sda A λa A↦?_)
  refine qa (hK11 _ _ (wp_ret (hret _ _ (en1 A rfl (qh rfl) ?_))))
  exact ⟨by rw [zha hb8], V.bel⟩
 ·
  refine sct A (ef rfl rfl) (qhb ⟨(V.rd 3 rfl), ha1.nil, ha1.cap⟩ ⟨(V.rd 2 rfl), ha2.nil, ha2.cap⟩ ⟨(V.rd 1 rfl), he1.nil, he1.cap⟩ ⟨(V.rd 0 rfl), he2.nil, he2.cap⟩ (Nat.le_trans hu.1 (by decide)) (Nat.le_trans hu.2 (by decide)) (Nat.le_trans hx.1 (by decide)) (Nat.le_trans hx.2 (by decide)) hb8) ?_
  rintro _ w13 ⟨rfl, hb12⟩
  replace V := V.call hb12
  refine ⟨_, rfl, ?_⟩
  intro a A
  refine qa (hK7 _ _ (wp_cond_false (A.ev rfl) ?_))
  refine wp_skip (hK6 _ _ (wsk fun K14 hK14 => jc (S := fun w1 => St w w1 [(g4, [.bool ((rb x.num)), .slice e1 ((words x.num.natAbs).length) ec1, .slice e2 ((words x.den).length) ec2]), (g2, [.bool ((rb u.num)), .slice a1 ((words u.num.natAbs).length) ac1, .slice a2 ((words u.den).length) ac2])] [(e2, words x.den), (e1, words x.num.natAbs), (a2, words u.den), (a1, words u.num.natAbs)] []) (by kernel_rfl) ?_))
  replace V := V.drew
  refine qe A 0 rfl rfl rfl rfl hP V (fun w1 V => zi V EqN_isS_25 rfl 1 rfl (cs := [.bool ((rb u.num)), .slice a1 ((words u.num.natAbs).length) ac1, .slice a2 ((words u.den).length) ac2]) rfl rfl) λa A↦?_
  refine qe A 2 rfl rfl rfl rfl hP V (fun w1 V => zi V EqN_isS_25 rfl 0 rfl (cs := [.bool ((rb x.num)), .slice e1 ((words x.num.natAbs).length) ec1, .slice e2 ((words x.den).length) ec2]) rfl rfl) λa A↦?_
  refine qi (by kernel_rfl) (za A 1 rfl rfl rfl rfl (qj  rfl rfl (fun w => by kernel_rfl)) (qoe ⟨(V.rd 3 rfl), ha1.nil, ha1.cap⟩ ⟨(V.rd 2 rfl), ha2.nil, ha2.cap⟩) ?_)
  rintro _ w18 ⟨p15_1, p15_c1, p15_2, p15_c2, p15_3, p15_c3, p15_4, p15_c4, rfl, hn16, hb17⟩
  replace V := V.call hb17
  replace V := V.addR hn16.s1.rd
  replace V := V.addR hn16.s2.rd
  replace V := V.addR hn16.s3.rd
  replace V := V.addR hn16.s4.rd
  refine ⟨_, rfl, (V.partD (.refl _) 4 rfl (.refl _)), ?_⟩
  intro a A
  refine qi (by kernel_rfl) (za A 3 rfl rfl rfl rfl (qj  rfl rfl (fun w => by kernel_rfl)) (qoe ⟨(V.rd 5 rfl), he1.nil, he1.cap⟩ ⟨(V.rd 4 rfl), he2.nil, he2.cap⟩) ?_)
  rintro _ w22 ⟨p19_1, p19_c1, p19_2, p19_c2, p19_3, p19_c3, p19_4, p19_c4, rfl, hn20, hb21⟩
  replace V := V.call hb21
  replace V := V.addR hn20.s1.rd
  replace V := V.addR hn20.s2.rd
  replace V := V.addR hn20.s3.rd
  replace V := V.addR hn20.s4.rd
  refine ⟨_, rfl, (V.partD (.refl _) 8 rfl (.refl _)), ?_⟩
  intro a A
  refine qi (by kernel_rfl) (za A 4 rfl rfl rfl rfl (qj  rfl rfl (fun w => by kernel_rfl)) (((znc hu hx) ▸ znb (show Nm _ ⟨rb u.num, words u.num.natAbs, words u.den, false, [], [1]⟩ p15_1 p15_c1 p15_2 p15_c2 p15_3 p15_c3 p15_4 p15_c4 from ⟨⟨(V.rd 7 rfl), hn16.s1.nil, hn16.s1.cap⟩, ⟨(V.rd 6 rfl), hn16.s2.nil, hn16.s2.cap⟩, ⟨(V.rd 5 rfl), hn16.s3.nil, hn16.s3.cap⟩, ⟨(V.rd 4 rfl), hn16.s4.nil, hn16.s4.cap⟩⟩) (qve hu) (show Nm _ ⟨rb x.num, words x.num.natAbs, words x.den, false, [], [1]⟩ p19_1 p19_c1 p19_2 p19_c2 p19_3 p19_c3 p19_4 p19_c4 from ⟨⟨(V.rd 3 rfl), hn20.s1.nil, hn20.s1.cap⟩, ⟨(V.rd 2 rfl), hn20.s2.nil, hn20.s2.cap⟩, ⟨(V.rd 1 rfl), hn20.s3.nil, hn20.s3.cap⟩, ⟨(V.rd 0 rfl), hn20.s4.nil, hn20.s4.cap⟩⟩) (qve hx))) ?_)
  rintro _ w24 ⟨rfl, hb23⟩
  replace V := V.call hb23
  refine ⟨_, rfl, (V.partD (.refl _) 8 rfl (.refl _)), ?_⟩
  intro a A
  refine qe A 5 rfl rfl rfl rfl hP (V.partD (.refl _) 8 rfl (.refl _)) (fun w1 V => qg rfl) λa A↦?_
  refine qe (v := .int .i64 (xw u x)) A 6 rfl rfl rfl rfl hP (V.partD (.refl _) 8 rfl (.refl _)) (fun w1 V => zj (vs := [.int .i64 (xw u x), .int .i64 0]) rfl rfl) λa A↦?_
  refine qe (v := .int .i64 0) A 7 rfl rfl rfl rfl hP (V.partD (.refl _) 8 rfl (.refl _)) (fun w1 V => zj (vs := [.int .i64 (xw u x), .int .i64 0]) rfl rfl) λa A↦?_
  refine qe A 8 rfl rfl rfl rfl hP (V.partD (.refl _) 8 rfl (.refl _)) (fun w1 V => jk rfl) λa A↦?_
  refine qe A 9 rfl rfl rfl rfl hP (V.partD (.refl _) 8 rfl (.refl _)) (fun w1 V => jk rfl) λa A↦?_
  refine zb (by kernel_rfl) ?_
  refine hK14 _ _ (wsk fun K25 hK25 => wrl (sdm A λa A↦?_))
  refine sda A λa A↦?_
  refine qa (hK25 _ _ (wp_ret (hret _ _ (en1 A rfl (qh rfl) ?_))))
  exact ⟨rfl, V.bel⟩
theorem zaa {w : World} {u v x y : Rat} {a1 a2 a3 a4 : Option Addr} {ac1 ac2 ac3 ac4 : Nat} (ha : Nm w (Q6.rat u v) a1 ac1 a2 ac2 a3 ac3 a4 ac4) {u1 u2 u3 u4 : Option Addr} {uc1 uc2 uc3 uc4 : Nat} (hb : Nm w (Q6.rat x y) u1 uc1 u2 uc2 u3 uc3 u4 uc4) (hu : xg u) (hv : xg v) (hx : xg x) (hy : xg y) : Calls Tryz.prog 75 #[qce (Q6.rat u v) a1 ac1 a2 ac2 a3 ac3 a4 ac4, qce (Q6.rat x y) u1 uc1 u2 uc2 u3 uc3 u4 uc4] w fun e w' => e = .returned (.int .i64 (if xw u x = 0 then xw v y else xw u x)) ∧ Below w.heap.size w w' := by
 have V : St w w [] [(u4, words y.den), (u3, words y.num.natAbs), (u2, words x.den), (u1, words x.num.natAbs), (a4, words v.den), (a3, words v.num.natAbs), (a2, words u.den), (a1, words u.num.natAbs)] [] := ((((((((St.start w).addR ha.s1.rd).addR ha.s2.rd).addR ha.s3.rd).addR ha.s4.rd).addR hb.s1.rd).addR hb.s2.rd).addR hb.s3.rd).addR hb.s4.rd
 refine qm (l := [(0, .agg #[.bool (rb u.num), .slice a1 ((words u.num.natAbs).length) ac1, .slice a2 ((words u.den).length) ac2, .bool (rb v.num), .slice a3 ((words v.num.natAbs).length) ac3, .slice a4 ((words v.den).length) ac4]), (1, .agg #[.bool (rb x.num), .slice u1 ((words x.num.natAbs).length) uc1, .slice u2 ((words x.den).length) uc2, .bool (rb y.num), .slice u3 ((words y.num.natAbs).length) uc3, .slice u4 ((words y.den).length) uc4])]) Tryz.func75 rfl Tryz.ntmps75 rfl rfl ?_
 intro Q hret hnorm hP a A
 refine wsk fun K1 hK1 => wrl (zt A V rfl rfl rfl pg (qs rfl rfl) rfl ?_)
 intro g2 w3 V a A
 refine zt A V rfl rfl rfl pg (qs rfl rfl) rfl ?_
 intro g4 w5 V a A
 refine sda A λa A↦?_
 refine qa (hK1 _ _ (wsk fun K6 hK6 => wsk fun K7 hK7 => wrl (sdo (v := .pointer (some ⟨g2, 0, none⟩)) A (qb EqN_fld_27_0 rfl rfl) λa A↦?_)))
 refine sdo A (zi V EqN_isS_25 rfl 1 rfl (cs := [.bool (rb u.num), .slice a1 ((words u.num.natAbs).length) ac1, .slice a2 ((words u.den).length) ac2]) rfl rfl) λa A↦?_
 refine sdo (v := .pointer (some ⟨g4, 0, none⟩)) A (qb EqN_fld_27_0 rfl rfl) λa A↦?_
 refine sdo A (zi V EqN_isS_25 rfl 0 rfl (cs := [.bool (rb x.num), .slice u1 ((words x.num.natAbs).length) uc1, .slice u2 ((words x.den).length) uc2]) rfl rfl) λa A↦?_
 refine sct A (ef rfl rfl) (qof hu hx ⟨(V.rd 7 rfl), ha.s1.nil, ha.s1.cap⟩ ⟨(V.rd 6 rfl), ha.s2.nil, ha.s2.cap⟩ ⟨(V.rd 3 rfl), hb.s1.nil, hb.s1.cap⟩ ⟨(V.rd 2 rfl), hb.s2.nil, hb.s2.cap⟩) ?_
 rintro _ w9 ⟨rfl, hb8⟩
 replace V := V.call hb8
 refine ⟨_, rfl, ?_⟩
 intro a A
 refine sda A λa A↦?_
 refine qa (hK7 _ _ (wsk fun K10 hK10 => wrl (sdm A λa A↦?_)))
 rcases tf ((xw u x != 0)) with hb11 | hb11
 ·
  have hb11' := bne_iff_ne.1 hb11
  refine sdc A zm hb11 λa A↦?_
  refine qa (hK10 _ _ (wp_cond_true (A.ev rfl) ?_))
  refine wsk fun K12 hK12 => wrl (sdm A λa A↦?_)
  refine sda A λa A↦?_
  refine qa (hK12 _ _ (wp_ret (hret _ _ (en1 A rfl (qh rfl) ?_))))
  exact ⟨by rw [if_neg hb11'], V.bel⟩
 ·
  have hb11' := bne_eq_false_iff_eq.1 hb11
  refine sdc A zm hb11 λa A↦?_
  refine qa (hK10 _ _ (wp_cond_false (A.ev rfl) ?_))
  refine wp_skip (hK6 _ _ (wsk fun K13 hK13 => wrl (sdo (v := .pointer (some ⟨g2, 3, none⟩)) A (qb EqN_fld_27_1 rfl rfl) λa A↦?_)))
  refine sdo A (zi V EqN_isS_25 rfl 1 rfl (cs := [.bool (rb v.num), .slice a3 ((words v.num.natAbs).length) ac3, .slice a4 ((words v.den).length) ac4]) rfl rfl) λa A↦?_
  refine sdo (v := .pointer (some ⟨g4, 3, none⟩)) A (qb EqN_fld_27_1 rfl rfl) λa A↦?_
  refine sdo A (zi V EqN_isS_25 rfl 0 rfl (cs := [.bool (rb y.num), .slice u3 ((words y.num.natAbs).length) uc3, .slice u4 ((words y.den).length) uc4]) rfl rfl) λa A↦?_
  refine sct A (ef rfl rfl) (qof hv hy ⟨(V.rd 5 rfl), ha.s3.nil, ha.s3.cap⟩ ⟨(V.rd 4 rfl), ha.s4.nil, ha.s4.cap⟩ ⟨(V.rd 1 rfl), hb.s3.nil, hb.s3.cap⟩ ⟨(V.rd 0 rfl), hb.s4.nil, hb.s4.cap⟩) ?_
  rintro _ w15 ⟨rfl, hb14⟩
  replace V := V.call hb14
  refine ⟨_, rfl, ?_⟩
  intro a A
  refine sda A λa A↦?_
  refine qa (hK13 _ _ (wp_ret (hret _ _ (en1 A rfl (qh rfl) ?_))))
  exact ⟨by rw [if_pos hb11'], V.bel⟩
end Go.Proofs.YtipikhcmieboaaaGreatDoor
namespace Go.Proofs.YtipikhcmieboaaaGreatDoor.G
open Go.RowKit
set_option linter.unusedVariables false
set_option linter.unusedSimpArgs false
set_option maxRecDepth 100000
theorem zdf {w : World} {n : Int} : Calls Tryz.prog 91 #[.int .i64 n] w fun e w' => e = .returned (.bool false) ∧ Below w.heap.size w w' := by
 have M : Mg w w ([]) := Mg.start w
 refine qm (l := [(0, .int .i64 n)]) Tryz.func91 rfl Tryz.ntmps91 rfl rfl ?_
 intro Q hret hnorm hP a A
 refine wsk fun K1 hK1 => wrl (sda A λa A↦?_)
 refine qa (hK1 _ _ (wsk fun K2 hK2 => wrl ?_))
 iterate 2 refine sdm A λa A↦?_
 refine sdo (v := .bool false) A (qf rfl rfl (fun w => (zm w).trans (by rw [show ((n != n)) = false from (bne_self_eq_false n)]))) λa A↦?_
 refine sda A λa A↦?_
 refine qa (hK2 _ _ (wp_ret (hret _ _ (en1 A rfl (qh rfl) ?_))))
 exact ⟨rfl, M.bel⟩
theorem qai {w : World} {m n : Int} : Calls Tryz.prog 74 #[.int .i64 m, .int .i64 n] w fun e w' => e = .returned (.int .i64 (vi m n)) ∧ Below w.heap.size w w' := by
 have M : Mg w w ([]) := Mg.start w
 refine qm (l := [(0, .int .i64 m), (1, .int .i64 n)]) Tryz.func74 rfl Tryz.ntmps74 rfl rfl ?_
 intro Q hret hnorm hP a A
 refine wsk fun K1 hK1 => wrl (sda A λa A↦?_)
 refine qa (hK1 _ _ (wsk fun K2 hK2 => wrl (sdm A λa A↦?_)))
 refine gcl A M (ef rfl rfl) (zdf) fun w4 hb3 M a A => ?_
 refine sda A λa A↦?_
 refine qa (hK2 _ _ (wsk fun K5 hK5 => wrl (sdm A λa A↦?_)))
 refine gcl A M (ef rfl rfl) (zdf) fun w7 hb6 M a A => ?_
 refine sda A λa A↦?_
 refine qa (hK5 _ _ (wsk fun K8 hK8 => wsk fun K9 hK9 => wrl (sdm A λa A↦?_)))
 refine qa (hK9 _ _ (wp_cond_false (A.ev rfl) ?_))
 refine wp_skip (hK8 _ _ (wsk fun K10 hK10 => wsk fun K11 hK11 => wrl (sdm A λa A↦?_)))
 refine qa (hK11 _ _ (wp_cond_false (A.ev rfl) ?_))
 refine wp_skip (hK10 _ _ (wsk fun K12 hK12 => wsk fun K13 hK13 => wrl ?_))
 iterate 2 refine sdm A λa A↦?_
 rcases tf (decide (m < n)) with hb14 | hb14
 ·
  have hb14' := of_decide_eq_true hb14
  refine sdc A qz hb14 λa A↦?_
  refine qa (hK13 _ _ (wp_cond_true (A.ev rfl) ?_))
  refine wsk fun K15 hK15 => wrl (sda A λa A↦?_)
  refine qa (hK15 _ _ (wp_ret (hret _ _ (en1 A rfl (qh rfl) ?_))))
  exact ⟨by rw [show vi m n = -1 from by unfold vi; (repeat' split) <;> omega], M.bel⟩
 ·
  have hb14' := of_decide_eq_false hb14
  refine sdc A qz hb14 λa A↦?_
  refine qa (hK13 _ _ (wp_cond_false (A.ev rfl) ?_))
  refine wp_skip (hK12 _ _ (wsk fun K16 hK16 => wsk fun K17 hK17 => wrl ?_))
  iterate 2 refine sdm A λa A↦?_
  rcases tf (decide (n < m)) with hb18 | hb18
  ·
   have hb18' := of_decide_eq_true hb18
   refine sdc A js hb18 λa A↦?_
   refine qa (hK17 _ _ (wp_cond_true (A.ev rfl) ?_))
   refine wsk fun K19 hK19 => wrl (sda A λa A↦?_)
   refine qa (hK19 _ _ (wp_ret (hret _ _ (en1 A rfl (qh rfl) ?_))))
   exact ⟨by rw [show vi m n = 1 from by unfold vi; (repeat' split) <;> omega], M.bel⟩
  ·
   have hb18' := of_decide_eq_false hb18
   refine sdc A js hb18 λa A↦?_
   refine qa (hK17 _ _ (wp_cond_false (A.ev rfl) ?_))
   refine wp_skip (hK16 _ _ (wsk fun K20 hK20 => wrl (sda A λa A↦?_)))
   refine qa (hK20 _ _ (wp_ret (hret _ _ (en1 A rfl (qh rfl) ?_))))
   exact ⟨by rw [show vi m n = 0 from by unfold vi; (repeat' split) <;> omega], M.bel⟩
theorem zne {w : World} {y z : Nu} (hy : y.nm w) (hz : z.nm w) (h1 : zjc y.q) (h2 : zjc z.q) : Calls Tryz.prog 75 #[y.val, z.val] w fun e w' => e = .returned (.int .i64 (zpd y.q z.q)) ∧ Below w.heap.size w w' := by
 obtain ⟨q, o1, c1, o2, c2, o3, c3, o4, c4⟩ := y
 obtain ⟨q', p1, d1, p2, d2, p3, d3, p4, d4⟩ := z
 obtain ⟨u, v, rfl, hu, hv⟩ := h1
 obtain ⟨x, y, rfl, hx, hy'⟩ := h2
 refine (zaa hy hz hu hv hx hy').mono fun e w' ⟨h, b⟩ => ⟨h.trans ?_, b⟩
 unfold zpd lex
 rw [qbf, qbf, zbc, zbc]
theorem EqB_is1_22 : Is1 Tryz.prog 22 := ⟨⟨_, Tryz.underlying22, rfl⟩, by kernel_rfl⟩
theorem EqB_is1_28 : Is1 Tryz.prog 28 := ⟨⟨_, Tryz.underlying28, rfl⟩, by kernel_rfl⟩
theorem EqB_is1_3 : Is1 Tryz.prog 3 := ⟨⟨_, Tryz.underlying3, rfl⟩, by kernel_rfl⟩
theorem EqB_is1_9 : Is1 Tryz.prog 9 := ⟨⟨_, Tryz.underlying9, rfl⟩, by kernel_rfl⟩
theorem EqB_fld_30_0 : FieldAt Tryz.prog 30 0 0 := ⟨_, _, Tryz.underlying30, rfl, rfl, by kernel_rfl⟩
theorem EqB_fld_30_1 : FieldAt Tryz.prog 30 1 1 := ⟨_, _, Tryz.underlying30, rfl, rfl, by kernel_rfl⟩
theorem EqB_fld_30_2 : FieldAt Tryz.prog 30 2 2 := ⟨_, _, Tryz.underlying30, rfl, rfl, by kernel_rfl⟩
theorem EqB_fld_30_3 : FieldAt Tryz.prog 30 3 8 := ⟨_, _, Tryz.underlying30, rfl, rfl, by kernel_rfl⟩
theorem EqB_fld_30_4 : FieldAt Tryz.prog 30 4 9 := ⟨_, _, Tryz.underlying30, rfl, rfl, by kernel_rfl⟩
theorem EqB_fld_30_5 : FieldAt Tryz.prog 30 5 10 := ⟨_, _, Tryz.underlying30, rfl, rfl, by kernel_rfl⟩
theorem EqB_isS_27 : IsS Tryz.prog 27 6 := ⟨⟨_, Tryz.underlying27⟩, by kernel_rfl⟩
theorem EqB_isS_30 : IsS Tryz.prog 30 11 := ⟨⟨_, Tryz.underlying30⟩, by kernel_rfl⟩
def Orders (n : Nat) : Prop := ∀ {w : World} {t u : Dt}, t.tr.bulk < n → t.rd w → u.rd w → t.tr.good → u.tr.good → Calls Tryz.prog 57 #[.agg (t.d.cells t.ts.length).toArray, .agg (u.d.cells u.ts.length).toArray] w fun e w' => e = .returned (.int .i64 (xy t.tr u.tr)) ∧ Below w.heap.size w w'
theorem znf {n : Nat} (ih : Orders n) {w : World} {t u : Dt} (ht : t.rd w) (hu : u.rd w) (gt : t.tr.good) (gu : u.tr.good) (hb : t.tr.bulk ≤ n) (hlen : t.ts.length = u.ts.length) : Calls Tryz.prog 95 #[.slice t.d.lo t.ts.length t.d.lc, .slice u.d.lo u.ts.length u.d.lc, .func (.func 57) #[] #[]] w fun e w' => e = .returned (.int .i64 (vr (t.ts.map Dt.tr) (u.ts.map Dt.tr))) ∧ Below w.heap.size w w' := by
 have hlt := (Dt.okT ht).2
 have M : Mg w w ([]) := Mg.start w
 refine qm (l := [(0, .slice t.d.lo t.ts.length t.d.lc), (1, .slice u.d.lo u.ts.length u.d.lc), (2, .func (.func 57) #[] #[])]) Tryz.func95 rfl Tryz.ntmps95 rfl rfl ?_
 intro Q hret hnorm hP a A
 refine wsk fun K1 hK1 => wrl (sda A λa A↦?_)
 refine qa (hK1 _ _ (wsk fun K2 hK2 => wsk fun K3 hK3 => wrl (sdm A λa A↦?_)))
 refine sdo A (zf Tryz.underlying22 rfl) λa A↦?_
 refine sdm A λa A↦?_
 refine qa (hK3 _ _ (wp_block (zw (fun m_ a w1 => ∃ (i : Nat), m_ = 1 + (t.ts.length - i) ∧ (i ≤ t.ts.length ∧ vr (t.ts.map Dt.tr) (u.ts.map Dt.tr) = vr ((t.ts.map Dt.tr).drop i) ((u.ts.map Dt.tr).drop i)) ∧ Sl a 39 [(0, .slice t.d.lo t.ts.length t.d.lc), (1, .slice u.d.lo u.ts.length u.d.lc), (2, .func (.func 57) #[] #[]), (11, .slice t.d.lo t.ts.length t.d.lc), (12, .int .i64 (((t.ts.length : Nat) : Int))), (13, .int .i64 (((i : Nat) : Int)))] ∧ Mg w w1 ([])) _ ⟨0, rfl, ⟨Nat.zero_le _, rfl⟩, A.keep _ (by repeat' constructor), M⟩ ?_)))
 clear M A
 rintro m_ a w4 ⟨i, rfl, hinv6, A, M⟩ K5 hK5
 obtain ⟨hi0, hin9⟩ := hinv6
 refine wsk fun K7 hK7 => wrl ?_
 rcases tf (decide (((i : Nat) : Int) < ((t.ts.length : Nat) : Int))) with hb8 | hb8
 ·
  have hb8' := of_decide_eq_true hb8
  refine sdc A qz hb8 λa A↦?_
  refine qa (hK7 _ _ (wsk fun K9 hK9 => wp_cond_true (A.ev rfl) ?_))
  refine wp_skip (hK9 _ _ (wsk fun K10 hK10 => wp_block (wsk fun K11 hK11 => ?_)))
  obtain ⟨t1, bt1, ot1, it1, mt1, rt1_, lt1, Ht1⟩ := qhd ht (i := i) (by omega)
  obtain ⟨u1, bu1, ou1, iu1, mu1, ru1_, lu1, Hu1⟩ := qhd hu (i := i) (by omega)
  refine wrl (sdm A λa A↦?_)
  refine sdo (v := .pointer (some ⟨bt1, ot1 + i * 11, none⟩)) A (zl (k := i) Tryz.underlying22 (by kernel_rfl) rfl rfl rfl lt1 (by omega)) λa A↦?_
  refine sdo A (jd M Ht1 EqB_isS_30 rfl rfl) λa A↦?_
  refine ja (vs := [.int .i64 0, .int .i64 0, .bool false, .slice none 0 0, .slice none 0 0, .bool false, .slice none 0 0, .slice none 0 0, .string (⟨#[]⟩), .slice none 0 0, .slice none 0 0]) (t := 30) A M rfl rfl rfl pg (qk (z := .agg #[.int .i64 0, .int .i64 0, .bool false, .slice none 0 0, .slice none 0 0, .bool false, .slice none 0 0, .slice none 0 0, .string (⟨#[]⟩), .slice none 0 0, .slice none 0 0]) (by kernel_rfl) rfl) (by decide) ?_
  intro g12 w13 M a A
  refine sda A λa A↦?_
  refine zu (us := (t1.d.cells t1.ts.length)) (L' := (.obj g12 (.cells (t1.d.cells t1.ts.length).toArray 30) :: [])) A M rfl rfl (ze rfl rfl rfl (by kernel_rfl) M 0 rfl rfl rfl) 0 rfl rfl rfl ?_
  intro w14 M
  refine qa (hK11 _ _ (wsk fun K15 hK15 => wsk fun K16 hK16 => wrl ?_))
  iterate 2 refine sdm A λa A↦?_
  refine sdo A (zf Tryz.underlying22 rfl) λa A↦?_
  refine sdo (v := .bool false) A (qf rfl rfl (fun w => (yh w).trans (by rw [show (decide (((u.ts.length : Nat) : Int) ≤ ((i : Nat) : Int))) = false from (decide_eq_false (by omega))]))) λa A↦?_
  refine qa (hK16 _ _ (wp_cond_false (A.ev rfl) ?_))
  refine wp_skip (hK15 _ _ (wsk fun K17 hK17 => wrl ?_))
  iterate 2 refine sdm A λa A↦?_
  refine sdo (v := .pointer (some ⟨bu1, ou1 + i * 11, none⟩)) A (zl (k := i) Tryz.underlying22 (by kernel_rfl) rfl rfl rfl lu1 (by omega)) λa A↦?_
  refine sdo A (jd M Hu1 EqB_isS_30 rfl rfl) λa A↦?_
  refine ja (vs := [.int .i64 0, .int .i64 0, .bool false, .slice none 0 0, .slice none 0 0, .bool false, .slice none 0 0, .slice none 0 0, .string (⟨#[]⟩), .slice none 0 0, .slice none 0 0]) (t := 30) A M rfl rfl rfl pg (qk (z := .agg #[.int .i64 0, .int .i64 0, .bool false, .slice none 0 0, .slice none 0 0, .bool false, .slice none 0 0, .slice none 0 0, .string (⟨#[]⟩), .slice none 0 0, .slice none 0 0]) (by kernel_rfl) rfl) (by decide) ?_
  intro g18 w19 M a A
  refine zu (us := (u1.d.cells u1.ts.length)) (L' := (.obj g18 (.cells (u1.d.cells u1.ts.length).toArray 30) :: .obj g12 (.cells (t1.d.cells t1.ts.length).toArray 30) :: [])) A M rfl rfl (ze rfl rfl rfl (by kernel_rfl) M 0 rfl rfl rfl) 0 rfl rfl rfl ?_
  intro w20 M
  refine qa (hK17 _ _ (wsk fun K21 hK21 => wrl (sdm A λa A↦?_)))
  refine sdo A (zg M EqB_isS_30 rfl 1 rfl (cs := (t1.d.cells t1.ts.length)) rfl rfl) λa A↦?_
  refine sdo A (zg M EqB_isS_30 rfl 0 rfl (cs := (u1.d.cells u1.ts.length)) rfl rfl) λa A↦?_
  refine gcl A M (ef rfl rfl) (ih (by have := qgg mt1; omega) (Dt.keep M.bel _ rt1_) (Dt.keep M.bel _ ru1_) ((vf gt).2.2 _ mt1) ((vf gu).2.2 _ mu1)) fun w23 hb22 M a A => ?_
  refine sda A λa A↦?_
  refine qa (hK21 _ _ (wsk fun K24 hK24 => wrl (sdm A λa A↦?_)))
  rcases tf ((xy t1.tr u1.tr != 0)) with hb25 | hb25
  ·
   have hb25' := bne_iff_ne.1 hb25
   refine sdc A zm hb25 λa A↦?_
   refine qa (hK24 _ _ (wp_cond_true (A.ev rfl) ?_))
   refine wsk fun K26 hK26 => wrl (sdm A λa A↦?_)
   refine sda A λa A↦?_
   refine qa (hK26 _ _ (wp_ret (hret _ _ (en1 A rfl (qh rfl) ?_))))
   exact ⟨by rw [hin9, zbe it1 iu1, zjg hb25'], M.bel⟩
  ·
   have hb25' := bne_eq_false_iff_eq.1 hb25
   refine sdc A zm hb25 λa A↦?_
   refine qa (hK24 _ _ (wp_cond_false (A.ev rfl) ?_))
   refine wp_skip (hK10 _ _ (wrl (sdo (v := .int .i64 (((i + 1 : Nat) : Int))) A (qf rfl rfl (fun w => (xb (kd (by omega) (by omega)) w).trans (by rw [show (((i : Nat) : Int) + 1 : Int) = ((i + 1 : Nat) : Int) from by omega]))) λa A↦?_)))
   refine sdm A λa A↦?_
   refine qa ?_
   replace M : Mg w w23 ([]) := by
    have h9 := M.sub (cn (cn (.refl _)))
    exact h9
   refine hK5 _ _ _ (by omega) ⟨i + 1, rfl, ⟨by omega, by rw [hin9, zbe it1 iu1, hb25', zjf]⟩, A.keep _ (by repeat' constructor), M⟩
 ·
  have hb8' := of_decide_eq_false hb8
  refine sdc A qz hb8 λa A↦?_
  refine qa (hK7 _ _ (wsk fun K27 hK27 => wp_cond_false (A.ev rfl) ?_))
  refine wp_exit (hK2 _ _ (wsk fun K28 hK28 => wsk fun K29 hK29 => wrl (sdm A λa A↦?_)))
  refine sdo A (zf Tryz.underlying22 rfl) λa A↦?_
  refine sdm A λa A↦?_
  refine sdo A (zf Tryz.underlying22 rfl) λa A↦?_
  refine sdo (v := .bool false) A (qf rfl rfl (fun w => (qz w).trans (by rw [show (decide (((t.ts.length : Nat) : Int) < ((u.ts.length : Nat) : Int))) = false from (decide_eq_false (by omega))]))) λa A↦?_
  refine qa (hK29 _ _ (wp_cond_false (A.ev rfl) ?_))
  refine wp_skip (hK28 _ _ (wsk fun K30 hK30 => wrl (sda A λa A↦?_)))
  refine qa (hK30 _ _ (wp_ret (hret _ _ (en1 A rfl (qh rfl) ?_))))
  exact ⟨by rw [hin9, zjh (by omega)], M.bel⟩
theorem zre {n : Nat} (ih : Orders n) {w : World} {t u : Dt} (ht : t.rd w) (hu : u.rd w) (gt : t.tr.good) (gu : u.tr.good) (hb : t.tr.bulk ≤ n) : Calls Tryz.prog 78 #[.slice t.d.lo t.ts.length t.d.lc, .slice u.d.lo u.ts.length u.d.lc] w fun e w' => e = .returned (.int .i64 (lex (vi (t.ts.length : Int) (u.ts.length : Int)) (vr (t.ts.map Dt.tr) (u.ts.map Dt.tr)))) ∧ Below w.heap.size w w' := by
 have M : Mg w w ([]) := Mg.start w
 refine qm (l := [(0, .slice t.d.lo t.ts.length t.d.lc), (1, .slice u.d.lo u.ts.length u.d.lc)]) Tryz.func78 rfl Tryz.ntmps78 rfl rfl ?_
 intro Q hret hnorm hP a A
 refine wsk fun K1 hK1 => wrl (sda A λa A↦?_)
 refine qa (hK1 _ _ (wsk fun K2 hK2 => wsk fun K3 hK3 => wrl (sdm A λa A↦?_)))
 refine sdo A (zf Tryz.underlying22 rfl) λa A↦?_
 refine sdm A λa A↦?_
 refine sdo A (zf Tryz.underlying22 rfl) λa A↦?_
 rcases tf ((((t.ts.length : Nat) : Int) != ((u.ts.length : Nat) : Int))) with hb4 | hb4
 ·
  have hb4' := bne_iff_ne.1 hb4
  refine sdc A zm hb4 λa A↦?_
  refine qa (hK3 _ _ (wp_cond_true (A.ev rfl) ?_))
  refine wsk fun K5 hK5 => wrl (sdm A λa A↦?_)
  refine sdo A (zf Tryz.underlying22 rfl) λa A↦?_
  refine sdm A λa A↦?_
  refine sdo A (zf Tryz.underlying22 rfl) λa A↦?_
  refine gcl A M (ef rfl rfl) (qai) fun w7 hb6 M a A => ?_
  refine sda A λa A↦?_
  refine qa (hK5 _ _ (wp_ret (hret _ _ (en1 A rfl (qh rfl) ?_))))
  exact ⟨by rw [zjg (fun e => hb4' (vv e))], M.bel⟩
 ·
  have hb4' := bne_eq_false_iff_eq.1 hb4
  refine sdc A zm hb4 λa A↦?_
  refine qa (hK3 _ _ (wp_cond_false (A.ev rfl) ?_))
  refine wp_skip (hK2 _ _ (wsk fun K8 hK8 => wrl ?_))
  iterate 2 refine sdm A λa A↦?_
  refine gcl A M (ef rfl rfl) (znf ih (Dt.keep M.bel _ ht) (Dt.keep M.bel _ hu) gt gu hb (by omega)) fun w9 hbv M a A => ?_
  refine sda A λa A↦?_
  refine qa (hK8 _ _ (wp_ret (hret _ _ (en1 A rfl (qh rfl) ?_))))
  exact ⟨by rw [hb4', qfj, zjf], M.bel⟩
theorem qvf {n : Nat} (ih : Orders n) : Orders (n + 1) := by
 intro w t u hn ht hu gt gu
 have M : Mg w w ([]) := Mg.start w
 refine qm (l := [(0, .agg (t.d.cells t.ts.length).toArray), (1, .agg (u.d.cells u.ts.length).toArray)]) Tryz.func57 rfl Tryz.ntmps57 rfl rfl ?_
 intro Q hret hnorm hP a A
 refine wsk fun K1 hK1 => wrl (ja (vs := (t.d.cells t.ts.length)) (t := 30) A M rfl rfl rfl pg (qs rfl rfl) (by decide) ?_)
 intro g2 w3 M a A
 refine ja (vs := (u.d.cells u.ts.length)) (t := 30) A M rfl rfl rfl pg (qs rfl rfl) (by decide) ?_
 intro g4 w5 M a A
 refine sda A λa A↦?_
 refine qa (hK1 _ _ (wsk fun K6 hK6 => wp_block (zw (fun m_ a w1 => ∃ (p : Dt) (r : Dt), m_ = 1 + p.tr.bulk ∧ (p.rd w ∧ r.rd w ∧ p.tr.good ∧ r.tr.good ∧ p.tr.bulk ≤ t.tr.bulk ∧ xy t.tr u.tr = xy p.tr r.tr) ∧ Sl a 84 [(0, .agg (t.d.cells t.ts.length).toArray), (1, .agg (u.d.cells u.ts.length).toArray), (2, .pointer (some ⟨g2, 0, none⟩)), (3, .pointer (some ⟨g4, 0, none⟩))] ∧ Mg w w1 (.obj g4 (.cells (r.d.cells r.ts.length).toArray 30) :: .obj g2 (.cells (p.d.cells p.ts.length).toArray 30) :: [])) _ ⟨t, u, rfl, ⟨ht, hu, gt, gu, Nat.le_refl _, rfl⟩, A.keep _ ⟨rfl, rfl, rfl, rfl, trivial⟩, M⟩ ?_)))
 clear M A
 rintro m_ a w7 ⟨p, r, rfl, hinv9, A, M⟩ K8 hK8
 obtain ⟨hp, hr, gp, gr, hbk, hin9⟩ := hinv9
 refine wsk fun K10 hK10 => wsk fun K11 hK11 => wrl (sdo (v := .pointer (some ⟨g2, 0, none⟩)) A (qb EqB_fld_30_0 rfl rfl) λa A↦?_)
 refine sdo A (ql M EqB_is1_3 rfl 1 rfl rfl) λa A↦?_
 rcases tf ((p.d.k == 8)) with hb12 | hb12
 ·
  have hb12' := eq_of_beq hb12
  refine sdc A qp hb12 λa A↦?_
  refine sdm A λa A↦?_
  refine sdo (v := .pointer (some ⟨g4, 0, none⟩)) A (qb EqB_fld_30_0 rfl rfl) λa A↦?_
  refine sdo A (ql M EqB_is1_3 rfl 0 rfl rfl) λa A↦?_
  rcases tf ((r.d.k == 8)) with hb13 | hb13
  ·
   have hb13' := eq_of_beq hb13
   refine sdc A qp hb13 λa A↦?_
   refine sdk (v := .bool true) A λa A↦?_
   refine qa (hK11 _ _ (wp_cond_true (A.ev rfl) ?_))
   refine wp_skip (hK10 _ _ (wp_block (wsk fun K14 hK14 => wsk fun K15 hK15 => ?_)))
   have l2p := (vf gp).1.h8 hb12'
   have l2r := (vf gr).1.h8 hb13'
   obtain ⟨p0, bp0, op0, ip0, mp0, rp0_, lp0, Hp0⟩ := qhd hp (i := 0) (by omega)
   obtain ⟨p1, bp1, op1, ip1, mp1, rp1_, lp1, Hp1⟩ := qhd hp (i := 1) (by omega)
   obtain ⟨r0, br0, or0, ir0, mr0, rr0_, lr0, Hr0⟩ := qhd hr (i := 0) (by omega)
   obtain ⟨r1, br1, or1, ir1, mr1, rr1_, lr1, Hr1⟩ := qhd hr (i := 1) (by omega)
   have hpq := zje hb12' hb13' l2p l2r ip0 ip1 ir0 ir1
   refine jc (S := fun w1 => Mg w w1 (.obj g4 (.cells (r.d.cells r.ts.length).toArray 30) :: .obj g2 (.cells (p.d.cells p.ts.length).toArray 30) :: [])) (by kernel_rfl) ?_
   replace M := M.drew
   refine qe (v := .pointer (some ⟨g2, 10, none⟩)) A 0 rfl rfl rfl rfl hP (M.sub (cc (cc (List.nil_sublist _)))) (fun w1 M => qb EqB_fld_30_5 rfl rfl) λa A↦?_
   refine qe A 1 rfl rfl rfl rfl hP (M.sub (cc (cc (List.nil_sublist _)))) (fun w1 M => ql M EqB_is1_22 rfl 1 rfl rfl) λa A↦?_
   refine qe (v := .pointer (some ⟨bp0, op0 + 0 * 11, none⟩)) A 2 rfl rfl rfl rfl hP (M.sub (cc (cc (List.nil_sublist _)))) (fun w1 M => zl (k := 0) Tryz.underlying22 (by kernel_rfl) rfl rfl rfl lp0 (by omega)) λa A↦?_
   refine qe A 3 rfl rfl rfl rfl hP (M.sub (cc (cc (List.nil_sublist _)))) (fun w1 M => jd M Hp0 EqB_isS_30 rfl rfl) λa A↦?_
   refine qe (v := .pointer (some ⟨g4, 10, none⟩)) A 4 rfl rfl rfl rfl hP (M.sub (cc (cc (List.nil_sublist _)))) (fun w1 M => qb EqB_fld_30_5 rfl rfl) λa A↦?_
   refine qe A 5 rfl rfl rfl rfl hP (M.sub (cc (cc (List.nil_sublist _)))) (fun w1 M => ql M EqB_is1_22 rfl 0 rfl rfl) λa A↦?_
   refine qe (v := .pointer (some ⟨br0, or0 + 0 * 11, none⟩)) A 6 rfl rfl rfl rfl hP (M.sub (cc (cc (List.nil_sublist _)))) (fun w1 M => zl (k := 0) Tryz.underlying22 (by kernel_rfl) rfl rfl rfl lr0 (by omega)) λa A↦?_
   refine qe A 7 rfl rfl rfl rfl hP (M.sub (cc (cc (List.nil_sublist _)))) (fun w1 M => jd M Hr0 EqB_isS_30 rfl rfl) λa A↦?_
   refine qi (by kernel_rfl) (za A 8 rfl rfl rfl rfl (qj rfl rfl (fun w => by kernel_rfl)) (ih (by have := qgg mp0; omega) (Dt.keep M.bel _ rp0_) (Dt.keep M.bel _ rr0_) ((vf gp).2.2 _ mp0) ((vf gr).2.2 _ mr0)) ?_)
   rintro _ w17 ⟨rfl, hb16⟩
   replace M := M.call hb16
   refine ⟨_, rfl, (M.sub (cc (cc (List.nil_sublist _)))), ?_⟩
   intro a A
   refine qe A 9 rfl rfl rfl rfl hP (M.sub (cc (cc (List.nil_sublist _)))) (fun w1 M => jk rfl) λa A↦?_
   refine zb (by kernel_rfl) ?_
   refine hK15 _ _ (wsk fun K18 hK18 => wrl (sdm A λa A↦?_))
   rcases tf ((xy p0.tr r0.tr != 0)) with hb19 | hb19
   ·
    have hb19' := bne_iff_ne.1 hb19
    refine sdc A zm hb19 λa A↦?_
    refine qa (hK18 _ _ (wp_cond_true (A.ev rfl) ?_))
    refine wsk fun K20 hK20 => wrl (sdm A λa A↦?_)
    refine sda A λa A↦?_
    refine qa (hK20 _ _ (wp_ret (hret _ _ (en1 A rfl (qh rfl) ?_))))
    exact ⟨by rw [hin9, hpq, zjg hb19'], M.bel⟩
   ·
    have hb19' := bne_eq_false_iff_eq.1 hb19
    refine sdc A zm hb19 λa A↦?_
    refine qa (hK18 _ _ (wp_cond_false (A.ev rfl) ?_))
    refine wp_skip (hK14 _ _ ?_)
    have hJ21 : ∀ a w1, (∃ (z_ : Unit), Sl a 84 [(0, .agg (t.d.cells t.ts.length).toArray), (1, .agg (u.d.cells u.ts.length).toArray), (2, .pointer (some ⟨g2, 0, none⟩)), (3, .pointer (some ⟨g4, 0, none⟩)), (5, .int .i64 (xy p0.tr r0.tr)), (6, .pointer (some ⟨g2, 0, none⟩)), (7, .int .i64 p.d.k), (8, .bool true), (9, .bool true), (10, .pointer (some ⟨g4, 0, none⟩)), (11, .int .i64 r.d.k), (12, .bool true), (13, .bool true), (14, .pointer (some ⟨g2, 10, none⟩)), (15, .slice p.d.lo p.ts.length p.d.lc), (16, .pointer (some ⟨bp0, op0 + 0 * 11, none⟩)), (17, .agg (p0.d.cells p0.ts.length).toArray), (18, .pointer (some ⟨g4, 10, none⟩)), (19, .slice r.d.lo r.ts.length r.d.lc), (20, .pointer (some ⟨br0, or0 + 0 * 11, none⟩)), (21, .agg (r0.d.cells r0.ts.length).toArray), (22, .int .i64 (xy p0.tr r0.tr)), (23, .int .i64 (xy p0.tr r0.tr)), (24, .bool false)] ∧ Mg w w1 (.obj g4 (.cells (r1.d.cells r1.ts.length).toArray 30) :: .obj g2 (.cells (p1.d.cells p1.ts.length).toArray 30) :: [])) → K8 a w1 := by
     clear A M
     rintro a w22 ⟨z_, A, M⟩
     refine hK8 _ _ _ (by have := qgg mp1; omega) ⟨p1, r1, rfl, ⟨rp1_, rr1_, (vf gp).2.2 _ mp1, (vf gr).2.2 _ mr1, by have := qgg mp1; omega, by rw [hin9, hpq, hb19', zjf]⟩, A.keep _ ⟨rfl, rfl, rfl, rfl, trivial⟩, M⟩
    refine jc (S := fun w1 => Mg w w1 ([])) (by kernel_rfl) ?_
    replace M := M.drew
    refine qe (v := .pointer (some ⟨g2, 10, none⟩)) A 0 rfl rfl rfl rfl hP (M.sub (cn (cn (List.nil_sublist _)))) (fun w1 M => qb EqB_fld_30_5 rfl rfl) λa A↦?_
    refine qe (v := .pointer (some ⟨g4, 10, none⟩)) A 4 rfl rfl rfl rfl hP (M.sub (cn (cn (List.nil_sublist _)))) (fun w1 M => qb EqB_fld_30_5 rfl rfl) λa A↦?_
    refine jl (rs := [1, 5]) (by kernel_rfl) (by simp) ⟨?_, ?_, trivial⟩
    ·
     refine xd A 1 rfl rfl rfl rfl (ql M EqB_is1_22 rfl 1 rfl rfl) (M.sub (cn (cn (List.nil_sublist _)))) λa A↦?_
     refine qe (v := .pointer (some ⟨bp1, op1 + 1 * 11, none⟩)) A 2 rfl rfl rfl rfl hP (M.sub (cn (cn (List.nil_sublist _)))) (fun w1 M => zl (k := 1) Tryz.underlying22 (by kernel_rfl) rfl rfl rfl lp1 (by omega)) λa A↦?_
     refine qe A 3 rfl rfl rfl rfl hP (M.sub (cn (cn (List.nil_sublist _)))) (fun w1 M => jd M Hp1 EqB_isS_30 rfl rfl) λa A↦?_
     refine jl (rs := [5, 8]) (by kernel_rfl) (by simp) ⟨?_, ?_, trivial⟩
     ·
      refine xd A 5 rfl rfl rfl rfl (ql M EqB_is1_22 rfl 0 rfl rfl) (M.sub (cn (cn (List.nil_sublist _)))) λa A↦?_
      refine qe (v := .pointer (some ⟨br1, or1 + 1 * 11, none⟩)) A 6 rfl rfl rfl rfl hP (M.sub (cn (cn (List.nil_sublist _)))) (fun w1 M => zl (k := 1) Tryz.underlying22 (by kernel_rfl) rfl rfl rfl lr1 (by omega)) λa A↦?_
      refine qe A 7 rfl rfl rfl rfl hP (M.sub (cn (cn (List.nil_sublist _)))) (fun w1 M => jd M Hr1 EqB_isS_30 rfl rfl) λa A↦?_
      refine qi (by kernel_rfl) (qaj (us := (p1.d.cells p1.ts.length)) (L' := (.obj g4 (.cells (r.d.cells r.ts.length).toArray 30) :: .obj g2 (.cells (p1.d.cells p1.ts.length).toArray 30) :: [])) A M 8 rfl rfl rfl (ze rfl rfl rfl (by kernel_rfl) M 1 rfl rfl rfl) 1 rfl rfl rfl ?_)
      intro w23 M
      refine ⟨(M.sub (cn (cn (List.nil_sublist _)))), ?_⟩
      refine qi (by kernel_rfl) (qaj (us := (r1.d.cells r1.ts.length)) (L' := (.obj g4 (.cells (r1.d.cells r1.ts.length).toArray 30) :: .obj g2 (.cells (p1.d.cells p1.ts.length).toArray 30) :: [])) A M 9 rfl rfl rfl (ze rfl rfl rfl (by kernel_rfl) M 0 rfl rfl rfl) 0 rfl rfl rfl ?_)
      intro w24 M
      refine ⟨(M.sub (cn (cn (List.nil_sublist _)))), ?_⟩
      refine zb (by kernel_rfl) ?_
      exact hJ21 _ _ ⟨(), A.keep _ (by repeat' constructor), M⟩
     ·
      refine qaj (us := (p1.d.cells p1.ts.length)) (L' := (.obj g4 (.cells (r.d.cells r.ts.length).toArray 30) :: .obj g2 (.cells (p1.d.cells p1.ts.length).toArray 30) :: [])) A M 8 rfl rfl rfl (ze rfl rfl rfl (by kernel_rfl) M 1 rfl rfl rfl) 1 rfl rfl rfl ?_
      intro w25 M
      refine ⟨(M.sub (cn (cn (List.nil_sublist _)))), ?_⟩
      refine qi (by kernel_rfl) (xd A 5 rfl rfl rfl rfl (ql M EqB_is1_22 rfl 0 rfl rfl) (M.sub (cn (cn (List.nil_sublist _)))) ?_)
      intro a A
      refine qe (v := .pointer (some ⟨br1, or1 + 1 * 11, none⟩)) A 6 rfl rfl rfl rfl hP (M.sub (cn (cn (List.nil_sublist _)))) (fun w1 M => zl (k := 1) Tryz.underlying22 (by kernel_rfl) rfl rfl rfl lr1 (by omega)) λa A↦?_
      refine qe A 7 rfl rfl rfl rfl hP (M.sub (cn (cn (List.nil_sublist _)))) (fun w1 M => jd M Hr1 EqB_isS_30 rfl rfl) λa A↦?_
      refine qi (by kernel_rfl) (qaj (us := (r1.d.cells r1.ts.length)) (L' := (.obj g4 (.cells (r1.d.cells r1.ts.length).toArray 30) :: .obj g2 (.cells (p1.d.cells p1.ts.length).toArray 30) :: [])) A M 9 rfl rfl rfl (ze rfl rfl rfl (by kernel_rfl) M 0 rfl rfl rfl) 0 rfl rfl rfl ?_)
      intro w26 M
      refine ⟨(M.sub (cn (cn (List.nil_sublist _)))), ?_⟩
      refine zb (by kernel_rfl) ?_
      exact hJ21 _ _ ⟨(), A.keep _ (by repeat' constructor), M⟩
    ·
     refine xd A 5 rfl rfl rfl rfl (ql M EqB_is1_22 rfl 0 rfl rfl) (M.sub (cn (cn (List.nil_sublist _)))) λa A↦?_
     refine qe (v := .pointer (some ⟨br1, or1 + 1 * 11, none⟩)) A 6 rfl rfl rfl rfl hP (M.sub (cn (cn (List.nil_sublist _)))) (fun w1 M => zl (k := 1) Tryz.underlying22 (by kernel_rfl) rfl rfl rfl lr1 (by omega)) λa A↦?_
     refine qe A 7 rfl rfl rfl rfl hP (M.sub (cn (cn (List.nil_sublist _)))) (fun w1 M => jd M Hr1 EqB_isS_30 rfl rfl) λa A↦?_
     refine qi (by kernel_rfl) (xd A 1 rfl rfl rfl rfl (ql M EqB_is1_22 rfl 1 rfl rfl) (M.sub (cn (cn (List.nil_sublist _)))) ?_)
     intro a A
     refine qe (v := .pointer (some ⟨bp1, op1 + 1 * 11, none⟩)) A 2 rfl rfl rfl rfl hP (M.sub (cn (cn (List.nil_sublist _)))) (fun w1 M => zl (k := 1) Tryz.underlying22 (by kernel_rfl) rfl rfl rfl lp1 (by omega)) λa A↦?_
     refine qe A 3 rfl rfl rfl rfl hP (M.sub (cn (cn (List.nil_sublist _)))) (fun w1 M => jd M Hp1 EqB_isS_30 rfl rfl) λa A↦?_
     refine qi (by kernel_rfl) (qaj (us := (p1.d.cells p1.ts.length)) (L' := (.obj g4 (.cells (r.d.cells r.ts.length).toArray 30) :: .obj g2 (.cells (p1.d.cells p1.ts.length).toArray 30) :: [])) A M 8 rfl rfl rfl (ze rfl rfl rfl (by kernel_rfl) M 1 rfl rfl rfl) 1 rfl rfl rfl ?_)
     intro w27 M
     refine ⟨(M.sub (cn (cn (List.nil_sublist _)))), ?_⟩
     refine qi (by kernel_rfl) (qaj (us := (r1.d.cells r1.ts.length)) (L' := (.obj g4 (.cells (r1.d.cells r1.ts.length).toArray 30) :: .obj g2 (.cells (p1.d.cells p1.ts.length).toArray 30) :: [])) A M 9 rfl rfl rfl (ze rfl rfl rfl (by kernel_rfl) M 0 rfl rfl rfl) 0 rfl rfl rfl ?_)
     intro w28 M
     refine ⟨(M.sub (cn (cn (List.nil_sublist _)))), ?_⟩
     refine zb (by kernel_rfl) ?_
     exact hJ21 _ _ ⟨(), A.keep _ (by repeat' constructor), M⟩
  ·
   have hb13' := ne_of_beq_false hb13
   refine sdc A qp hb13 λa A↦?_
   refine sdk (v := .bool false) A λa A↦?_
   refine qa (hK11 _ _ (wp_cond_false (A.ev rfl) ?_))
   refine wp_exit (hK6 _ _ (wsk fun K29 hK29 => wsk fun K30 hK30 => wrl (sdo (v := .pointer (some ⟨g2, 0, none⟩)) A (qb EqB_fld_30_0 rfl rfl) λa A↦?_)))
   refine sdo A (ql M EqB_is1_3 rfl 1 rfl rfl) λa A↦?_
   refine sdo (v := .pointer (some ⟨g4, 0, none⟩)) A (qb EqB_fld_30_0 rfl rfl) λa A↦?_
   refine sdo A (ql M EqB_is1_3 rfl 0 rfl rfl) λa A↦?_
   refine sdo (v := .bool true) A (qf rfl rfl (fun w => (zm w).trans (by rw [show ((p.d.k != r.d.k)) = true from (bne_iff_ne.2 (by omega))]))) λa A↦?_
   refine qa (hK30 _ _ (wp_cond_true (A.ev rfl) ?_))
   refine wsk fun K31 hK31 => wrl (sdo (v := .pointer (some ⟨g2, 0, none⟩)) A (qb EqB_fld_30_0 rfl rfl) λa A↦?_)
   refine sdo A (ql M EqB_is1_3 rfl 1 rfl rfl) λa A↦?_
   refine sdo (v := .pointer (some ⟨g4, 0, none⟩)) A (qb EqB_fld_30_0 rfl rfl) λa A↦?_
   refine sdo A (ql M EqB_is1_3 rfl 0 rfl rfl) λa A↦?_
   refine gcl A M (ef rfl rfl) (qai) fun w33 hb32 M a A => ?_
   refine sda A λa A↦?_
   refine qa (hK31 _ _ (wp_ret (hret _ _ (en1 A rfl (qh rfl) ?_))))
   exact ⟨by rw [hin9, qta (by omega)], M.bel⟩
 ·
  have hb12' := ne_of_beq_false hb12
  refine sdc A qp hb12 λa A↦?_
  refine sdm A λa A↦?_
  iterate 3 refine qx A rfl rfl rfl λa A↦?_
  refine sdk (v := .bool false) A λa A↦?_
  refine qa (hK11 _ _ (wp_cond_false (A.ev rfl) ?_))
  refine wp_exit (hK6 _ _ (wsk fun K34 hK34 => wsk fun K35 hK35 => wrl (sdo (v := .pointer (some ⟨g2, 0, none⟩)) A (qb EqB_fld_30_0 rfl rfl) λa A↦?_)))
  refine sdo A (ql M EqB_is1_3 rfl 1 rfl rfl) λa A↦?_
  refine sdo (v := .pointer (some ⟨g4, 0, none⟩)) A (qb EqB_fld_30_0 rfl rfl) λa A↦?_
  refine sdo A (ql M EqB_is1_3 rfl 0 rfl rfl) λa A↦?_
  rcases tf ((p.d.k != r.d.k)) with hb36 | hb36
  ·
   have hb36' := bne_iff_ne.1 hb36
   refine sdc A zm hb36 λa A↦?_
   refine qa (hK35 _ _ (wp_cond_true (A.ev rfl) ?_))
   refine wsk fun K37 hK37 => wrl (sdo (v := .pointer (some ⟨g2, 0, none⟩)) A (qb EqB_fld_30_0 rfl rfl) λa A↦?_)
   refine sdo A (ql M EqB_is1_3 rfl 1 rfl rfl) λa A↦?_
   refine sdo (v := .pointer (some ⟨g4, 0, none⟩)) A (qb EqB_fld_30_0 rfl rfl) λa A↦?_
   refine sdo A (ql M EqB_is1_3 rfl 0 rfl rfl) λa A↦?_
   refine gcl A M (ef rfl rfl) (qai) fun w39 hb38 M a A => ?_
   refine sda A λa A↦?_
   refine qa (hK37 _ _ (wp_ret (hret _ _ (en1 A rfl (qh rfl) ?_))))
   exact ⟨by rw [hin9, qta (by omega)], M.bel⟩
  ·
   have hb36' := bne_eq_false_iff_eq.1 hb36
   refine sdc A zm hb36 λa A↦?_
   refine qa (hK35 _ _ (wp_cond_false (A.ev rfl) ?_))
   refine wp_skip (hK34 _ _ (wsk fun K40 hK40 => wsk fun K41 hK41 => wrl (sdo (v := .pointer (some ⟨g2, 0, none⟩)) A (qb EqB_fld_30_0 rfl rfl) λa A↦?_)))
   refine sdo A (ql M EqB_is1_3 rfl 1 rfl rfl) λa A↦?_
   refine qa (hK41 _ _ (wp_block (wsk fun K42 hK42 => wsk fun K43 hK43 => wrl ?_)))
   rcases tf ((p.d.k == 2)) with hb44 | hb44
   ·
    have hb44' := eq_of_beq hb44
    refine sdc A qp hb44 λa A↦?_
    refine sda A λa A↦?_
    refine qa (hK43 _ _ (wp_cond_true (A.ev rfl) ?_))
    refine wp_skip (hK42 _ _ (wp_cond_true (A.ev rfl) ?_))
    refine wsk fun K45 hK45 => wrl (sdo (v := .pointer (some ⟨g2, 1, none⟩)) A (qb EqB_fld_30_1 rfl rfl) λa A↦?_)
    refine sdo A (ql M EqB_is1_3 rfl 1 rfl rfl) λa A↦?_
    refine sdo (v := .pointer (some ⟨g4, 1, none⟩)) A (qb EqB_fld_30_1 rfl rfl) λa A↦?_
    refine sdo A (ql M EqB_is1_3 rfl 0 rfl rfl) λa A↦?_
    refine gcl A M (ef rfl rfl) (qai) fun w47 hb46 M a A => ?_
    refine sda A λa A↦?_
    refine qa (hK45 _ _ (wp_ret (hret _ _ (en1 A rfl (qh rfl) ?_))))
    exact ⟨by
     rw [hin9, kn gp gr (by omega) (by omega)]
     repeat (first | rw [if_pos (by omega)] | rw [if_neg (by omega)]), M.bel⟩
   ·
    have hb44' := ne_of_beq_false hb44
    refine sdc A qp hb44 λa A↦?_
    refine sda A λa A↦?_
    refine qa (hK43 _ _ (wp_cond_false (A.ev rfl) ?_))
    refine wrl ?_
    rcases tf ((p.d.k == 4)) with hb48 | hb48
    ·
     have hb48' := eq_of_beq hb48
     refine sdc A qp hb48 λa A↦?_
     refine sda A λa A↦?_
     refine qa (hK42 _ _ (wp_cond_true (A.ev rfl) ?_))
     refine wsk fun K49 hK49 => wrl (sdo (v := .pointer (some ⟨g2, 1, none⟩)) A (qb EqB_fld_30_1 rfl rfl) λa A↦?_)
     refine sdo A (ql M EqB_is1_3 rfl 1 rfl rfl) λa A↦?_
     refine sdo (v := .pointer (some ⟨g4, 1, none⟩)) A (qb EqB_fld_30_1 rfl rfl) λa A↦?_
     refine sdo A (ql M EqB_is1_3 rfl 0 rfl rfl) λa A↦?_
     refine gcl A M (ef rfl rfl) (qai) fun w51 hb50 M a A => ?_
     refine sda A λa A↦?_
     refine qa (hK49 _ _ (wp_ret (hret _ _ (en1 A rfl (qh rfl) ?_))))
     exact ⟨by
      rw [hin9, kn gp gr (by omega) (by omega)]
      repeat (first | rw [if_pos (by omega)] | rw [if_neg (by omega)]), M.bel⟩
    ·
     have hb48' := ne_of_beq_false hb48
     refine sdc A qp hb48 λa A↦?_
     refine sda A λa A↦?_
     refine qa (hK42 _ _ (wp_cond_false (A.ev rfl) ?_))
     refine wsk fun K52 hK52 => wrl ?_
     rcases tf ((p.d.k == 3)) with hb53 | hb53
     ·
      have hb53' := eq_of_beq hb53
      refine sdc A qp hb53 λa A↦?_
      refine sda A λa A↦?_
      refine qa (hK52 _ _ (wp_cond_true (A.ev rfl) ?_))
      refine wsk fun K54 hK54 => wrl (sdo (v := .pointer (some ⟨g2, 2, none⟩)) A (qb EqB_fld_30_2 rfl rfl) λa A↦?_)
      refine sdo A (zg M EqB_isS_27 rfl 1 rfl (cs := [.bool p.d.y.q.b1, .slice p.d.y.o1 p.d.y.q.t1.length p.d.y.c1, .slice p.d.y.o2 p.d.y.q.q1.length p.d.y.c2, .bool p.d.y.q.b2, .slice p.d.y.o3 p.d.y.q.t2.length p.d.y.c3, .slice p.d.y.o4 p.d.y.q.q2.length p.d.y.c4]) rfl rfl) λa A↦?_
      refine sdo (v := .pointer (some ⟨g4, 2, none⟩)) A (qb EqB_fld_30_2 rfl rfl) λa A↦?_
      refine sdo A (zg M EqB_isS_27 rfl 0 rfl (cs := [.bool r.d.y.q.b1, .slice r.d.y.o1 r.d.y.q.t1.length r.d.y.c1, .slice r.d.y.o2 r.d.y.q.q1.length r.d.y.c2, .bool r.d.y.q.b2, .slice r.d.y.o3 r.d.y.q.t2.length r.d.y.c3, .slice r.d.y.o4 r.d.y.q.q2.length r.d.y.c4]) rfl rfl) λa A↦?_
      refine gcl A M (ef rfl rfl) (zne (y := p.d.y) (z := r.d.y) (Nu.below (Dt.okT hp).1.num M.bel) (Nu.below (Dt.okT hr).1.num M.bel) ((vf gp).2.1 (by omega)) ((vf gr).2.1 (by omega))) fun w55 hbn M a A => ?_
      refine sda A λa A↦?_
      refine qa (hK54 _ _ (wp_ret (hret _ _ (en1 A rfl (qh rfl) ?_))))
      exact ⟨by
       rw [hin9, kn gp gr (by omega) (by omega)]
       repeat (first | rw [if_pos (by omega)] | rw [if_neg (by omega)]), M.bel⟩
     ·
      have hb53' := ne_of_beq_false hb53
      refine sdc A qp hb53 λa A↦?_
      refine sda A λa A↦?_
      refine qa (hK52 _ _ (wp_cond_false (A.ev rfl) ?_))
      refine wsk fun K56 hK56 => wsk fun K57 hK57 => wrl ?_
      rcases tf ((p.d.k == 5)) with hb58 | hb58
      ·
       have hb58' := eq_of_beq hb58
       refine sdc A qp hb58 λa A↦?_
       refine sda A λa A↦?_
       refine qa (hK57 _ _ (wp_cond_true (A.ev rfl) ?_))
       refine wp_skip (hK56 _ _ (wp_cond_true (A.ev rfl) ?_))
       refine wsk fun K59 hK59 => wrl (sdo (v := .pointer (some ⟨g2, 8, none⟩)) A (qb EqB_fld_30_3 rfl rfl) λa A↦?_)
       refine sdo A (ql M EqB_is1_9 rfl 1 rfl rfl) λa A↦?_
       refine sdo (v := .pointer (some ⟨g4, 8, none⟩)) A (qb EqB_fld_30_3 rfl rfl) λa A↦?_
       refine sdo A (ql M EqB_is1_9 rfl 0 rfl rfl) λa A↦?_
       refine gcl A M (ef rfl rfl) (qld) fun w61 hb60 M a A => ?_
       refine sda A λa A↦?_
       refine qa (hK59 _ _ (wp_ret (hret _ _ (en1 A rfl (qh rfl) ?_))))
       exact ⟨by
        rw [hin9, kn gp gr (by omega) (by omega)]
        repeat (first | rw [if_pos (by omega)] | rw [if_neg (by omega)]), M.bel⟩
      ·
       have hb58' := ne_of_beq_false hb58
       refine sdc A qp hb58 λa A↦?_
       refine sda A λa A↦?_
       refine qa (hK57 _ _ (wp_cond_false (A.ev rfl) ?_))
       refine wsk fun K62 hK62 => wrl ?_
       rcases tf ((p.d.k == 6)) with hb63 | hb63
       ·
        have hb63' := eq_of_beq hb63
        refine sdc A qp hb63 λa A↦?_
        refine sda A λa A↦?_
        refine qa (hK62 _ _ (wp_cond_true (A.ev rfl) ?_))
        refine wp_skip (hK56 _ _ (wp_cond_true (A.ev rfl) ?_))
        refine wsk fun K64 hK64 => wrl (sdo (v := .pointer (some ⟨g2, 8, none⟩)) A (qb EqB_fld_30_3 rfl rfl) λa A↦?_)
        refine sdo A (ql M EqB_is1_9 rfl 1 rfl rfl) λa A↦?_
        refine sdo (v := .pointer (some ⟨g4, 8, none⟩)) A (qb EqB_fld_30_3 rfl rfl) λa A↦?_
        refine sdo A (ql M EqB_is1_9 rfl 0 rfl rfl) λa A↦?_
        refine gcl A M (ef rfl rfl) (qld) fun w66 hb65 M a A => ?_
        refine sda A λa A↦?_
        refine qa (hK64 _ _ (wp_ret (hret _ _ (en1 A rfl (qh rfl) ?_))))
        exact ⟨by
         rw [hin9, kn gp gr (by omega) (by omega)]
         repeat (first | rw [if_pos (by omega)] | rw [if_neg (by omega)]), M.bel⟩
       ·
        have hb63' := ne_of_beq_false hb63
        refine sdc A qp hb63 λa A↦?_
        refine sda A λa A↦?_
        refine qa (hK62 _ _ (wp_cond_false (A.ev rfl) ?_))
        refine wrl ?_
        rcases tf ((p.d.k == 11)) with hb67 | hb67
        ·
         have hb67' := eq_of_beq hb67
         refine sdc A qp hb67 λa A↦?_
         refine sda A λa A↦?_
         refine qa (hK56 _ _ (wp_cond_true (A.ev rfl) ?_))
         refine wsk fun K68 hK68 => wrl (sdo (v := .pointer (some ⟨g2, 8, none⟩)) A (qb EqB_fld_30_3 rfl rfl) λa A↦?_)
         refine sdo A (ql M EqB_is1_9 rfl 1 rfl rfl) λa A↦?_
         refine sdo (v := .pointer (some ⟨g4, 8, none⟩)) A (qb EqB_fld_30_3 rfl rfl) λa A↦?_
         refine sdo A (ql M EqB_is1_9 rfl 0 rfl rfl) λa A↦?_
         refine gcl A M (ef rfl rfl) (qld) fun w70 hb69 M a A => ?_
         refine sda A λa A↦?_
         refine qa (hK68 _ _ (wp_ret (hret _ _ (en1 A rfl (qh rfl) ?_))))
         exact ⟨by
          rw [hin9, kn gp gr (by omega) (by omega)]
          repeat (first | rw [if_pos (by omega)] | rw [if_neg (by omega)]), M.bel⟩
        ·
         have hb67' := ne_of_beq_false hb67
         refine sdc A qp hb67 λa A↦?_
         refine sda A λa A↦?_
         refine qa (hK56 _ _ (wp_cond_false (A.ev rfl) ?_))
         refine wsk fun K71 hK71 => wrl ?_
         rcases tf ((p.d.k == 7)) with hb72 | hb72
         ·
          have hb72' := eq_of_beq hb72
          refine sdc A qp hb72 λa A↦?_
          refine sda A λa A↦?_
          refine qa (hK71 _ _ (wp_cond_true (A.ev rfl) ?_))
          refine wsk fun K73 hK73 => wrl (sdo (v := .pointer (some ⟨g2, 9, none⟩)) A (qb EqB_fld_30_4 rfl rfl) λa A↦?_)
          refine sdo A (ql M EqB_is1_28 rfl 1 rfl rfl) λa A↦?_
          refine sdo (v := .pointer (some ⟨g4, 9, none⟩)) A (qb EqB_fld_30_4 rfl rfl) λa A↦?_
          refine sdo A (ql M EqB_is1_28 rfl 0 rfl rfl) λa A↦?_
          refine gcl A M (ef rfl rfl) (zmh ((Dt.okT hp).1.raw.below M.bel) ((Dt.okT hr).1.raw.below M.bel)) fun w75 hb74 M a A => ?_
          refine sda A λa A↦?_
          refine qa (hK73 _ _ (wp_ret (hret _ _ (en1 A rfl (qh rfl) ?_))))
          exact ⟨by
           rw [hin9, kn gp gr (by omega) (by omega)]
           repeat (first | rw [if_pos (by omega)] | rw [if_neg (by omega)]), M.bel⟩
         ·
          have hb72' := ne_of_beq_false hb72
          refine sdc A qp hb72 λa A↦?_
          refine sda A λa A↦?_
          refine qa (hK71 _ _ (wp_cond_false (A.ev rfl) ?_))
          refine wsk fun K76 hK76 => wrl ?_
          rcases tf ((p.d.k == 9)) with hb77 | hb77
          ·
           have hb77' := eq_of_beq hb77
           refine sdc A qp hb77 λa A↦?_
           refine sda A λa A↦?_
           refine qa (hK76 _ _ (wp_cond_true (A.ev rfl) ?_))
           refine wsk fun K78 hK78 => wrl (sdo (v := .pointer (some ⟨g2, 10, none⟩)) A (qb EqB_fld_30_5 rfl rfl) λa A↦?_)
           refine sdo A (ql M EqB_is1_22 rfl 1 rfl rfl) λa A↦?_
           refine sdo (v := .pointer (some ⟨g4, 10, none⟩)) A (qb EqB_fld_30_5 rfl rfl) λa A↦?_
           refine sdo A (ql M EqB_is1_22 rfl 0 rfl rfl) λa A↦?_
           refine gcl A M (ef rfl rfl) (zre ih (Dt.keep M.bel _ hp) (Dt.keep M.bel _ hr) gp gr (by omega)) fun w80 hb79 M a A => ?_
           refine sda A λa A↦?_
           refine qa (hK78 _ _ (wp_ret (hret _ _ (en1 A rfl (qh rfl) ?_))))
           exact ⟨by
            rw [hin9, kn gp gr (by omega) (by omega)]
            repeat (first | rw [if_pos (by omega)] | rw [if_neg (by omega)]), M.bel⟩
          ·
           have hb77' := ne_of_beq_false hb77
           refine sdc A qp hb77 λa A↦?_
           refine sda A λa A↦?_
           refine qa (hK76 _ _ (wp_cond_false (A.ev rfl) ?_))
           refine wp_skip (hK40 _ _ (wsk fun K81 hK81 => wrl (sda A λa A↦?_)))
           refine qa (hK81 _ _ (wp_ret (hret _ _ (en1 A rfl (qh rfl) ?_))))
           exact ⟨by
            rw [hin9, kn gp gr (by omega) (by omega)]
            repeat (first | rw [if_pos (by omega)] | rw [if_neg (by omega)]), M.bel⟩
theorem qde : ∀ n, Orders n
 | 0 => fun h => absurd h (Nat.not_lt_zero _)
 | n + 1 => qvf (qde n)
theorem EqC_isS_30 : IsS Tryz.prog 30 11 := ⟨⟨_, Tryz.underlying30⟩, by kernel_rfl⟩
theorem qfc {w : World} {t u : Dt} (ht : t.rd w) (hu : u.rd w) (hT : Tabs8 w) : Calls Tryz.prog 56 #[.agg (t.d.cells t.ts.length).toArray, .agg (u.d.cells u.ts.length).toArray] w fun e w' => e = .returned (.bool (zd qn t.tr && zd qn u.tr : Bool)) ∧ Below w.heap.size w w' := by
 have M : Mg w w ([]) := Mg.start w
 refine qm (l := [(0, .agg (t.d.cells t.ts.length).toArray), (1, .agg (u.d.cells u.ts.length).toArray)]) Tryz.func56 rfl Tryz.ntmps56 rfl rfl ?_
 intro Q hret hnorm hP a A
 refine wsk fun K1 hK1 => wrl (ja (vs := (t.d.cells t.ts.length)) (t := 30) A M rfl rfl rfl pg (qs rfl rfl) (by decide) ?_)
 intro g2 w3 M a A
 refine ja (vs := (u.d.cells u.ts.length)) (t := 30) A M rfl rfl rfl pg (qs rfl rfl) (by decide) ?_
 intro g4 w5 M a A
 refine sda A λa A↦?_
 refine qa (hK1 _ _ (wsk fun K6 hK6 => wrl (sdo A (zg M EqC_isS_30 rfl 1 rfl (cs := (t.d.cells t.ts.length)) rfl rfl) λa A↦?_)))
 rcases tf (zd qn t.tr) with hb7 | hb7
 ·
  refine gcl A M (ef rfl rfl) ((hb7 ▸ sound_any (t := t) (Dt.keep M.bel _ ht) (hT.below M.bel))) fun w9 hb8 M a A => ?_
  refine sdm A λa A↦?_
  refine sdo A (zg M EqC_isS_30 rfl 0 rfl (cs := (u.d.cells u.ts.length)) rfl rfl) λa A↦?_
  rcases tf (zd qn u.tr) with hb10 | hb10
  ·
   refine gcl A M (ef rfl rfl) ((hb10 ▸ sound_any (t := u) (Dt.keep M.bel _ hu) (hT.below M.bel))) fun w12 hb11 M a A => ?_
   refine sdk (v := .bool true) A λa A↦?_
   refine sda A λa A↦?_
   refine qa (hK6 _ _ (wp_ret (hret _ _ (en1 A rfl (qh rfl) ?_))))
   exact ⟨by simp_all, M.bel⟩
  ·
   refine gcl A M (ef rfl rfl) ((hb10 ▸ sound_any (t := u) (Dt.keep M.bel _ hu) (hT.below M.bel))) fun w14 hb13 M a A => ?_
   refine sdk (v := .bool false) A λa A↦?_
   refine sda A λa A↦?_
   refine qa (hK6 _ _ (wp_ret (hret _ _ (en1 A rfl (qh rfl) ?_))))
   exact ⟨by simp_all, M.bel⟩
 ·
  refine gcl A M (ef rfl rfl) ((hb7 ▸ sound_any (t := t) (Dt.keep M.bel _ ht) (hT.below M.bel))) fun w16 hb15 M a A => ?_
  refine sdm A λa A↦?_
  iterate 2 refine qx A rfl rfl rfl λa A↦?_
  refine sdk (v := .bool false) A λa A↦?_
  refine sda A λa A↦?_
  refine qa (hK6 _ _ (wp_ret (hret _ _ (en1 A rfl (qh rfl) ?_))))
  exact ⟨by simp_all, M.bel⟩
theorem qbe {w : World} {t u : Dt} (ht : t.rd w) (hu : u.rd w) (hT : Tabs8 w) : Calls Tryz.prog 29 #[.agg (t.d.cells t.ts.length).toArray, .agg (u.d.cells u.ts.length).toArray] w fun e w' => e = .returned (.bool (ur t.tr u.tr)) ∧ Below w.heap.size w w' := by
 have M : Mg w w ([]) := Mg.start w
 refine qm (l := [(0, .agg (t.d.cells t.ts.length).toArray), (1, .agg (u.d.cells u.ts.length).toArray)]) Tryz.func29 rfl Tryz.ntmps29 rfl rfl ?_
 intro Q hret hnorm hP a A
 refine wsk fun K1 hK1 => wrl (ja (vs := (t.d.cells t.ts.length)) (t := 30) A M rfl rfl rfl pg (qs rfl rfl) (by decide) ?_)
 intro g2 w3 M a A
 refine ja (vs := (u.d.cells u.ts.length)) (t := 30) A M rfl rfl rfl pg (qs rfl rfl) (by decide) ?_
 intro g4 w5 M a A
 refine sda A λa A↦?_
 refine qa (hK1 _ _ (wsk fun K6 hK6 => wrl (sdo A (zg M EqC_isS_30 rfl 1 rfl (cs := (t.d.cells t.ts.length)) rfl rfl) λa A↦?_)))
 refine sdo A (zg M EqC_isS_30 rfl 0 rfl (cs := (u.d.cells u.ts.length)) rfl rfl) λa A↦?_
 rcases tf ((zd qn t.tr && zd qn u.tr)) with hb7 | hb7
 ·
  refine gcl A M (ef rfl rfl) ((hb7 ▸ qfc (Dt.keep M.bel _ ht) (Dt.keep M.bel _ hu) (hT.below M.bel))) fun w9 hb8 M a A => ?_
  refine sdm A λa A↦?_
  refine sdo A (zg M EqC_isS_30 rfl 1 rfl (cs := (t.d.cells t.ts.length)) rfl rfl) λa A↦?_
  refine sdo A (zg M EqC_isS_30 rfl 0 rfl (cs := (u.d.cells u.ts.length)) rfl rfl) λa A↦?_
  refine gcl A M (ef rfl rfl) (qde (t.tr.bulk + 1) (Nat.lt_succ_self _) (Dt.keep M.bel _ ht) (Dt.keep M.bel _ hu) (qia ht (qed hb7).1) (qia hu (qed hb7).2)) fun w11 hb10 M a A => ?_
  rcases tf ((xy t.tr u.tr == 0)) with hb12 | hb12
  ·
   have hb12' := eq_of_beq hb12
   refine sdc A qp hb12 λa A↦?_
   refine sdk (v := .bool true) A λa A↦?_
   refine sda A λa A↦?_
   refine qa (hK6 _ _ (wp_ret (hret _ _ (en1 A rfl (qh rfl) ?_))))
   exact ⟨by unfold ur; simp_all, M.bel⟩
  ·
   have hb12' := ne_of_beq_false hb12
   refine sdc A qp hb12 λa A↦?_
   refine sdk (v := .bool false) A λa A↦?_
   refine sda A λa A↦?_
   refine qa (hK6 _ _ (wp_ret (hret _ _ (en1 A rfl (qh rfl) ?_))))
   exact ⟨by unfold ur; simp_all, M.bel⟩
 ·
  refine gcl A M (ef rfl rfl) ((hb7 ▸ qfc (Dt.keep M.bel _ ht) (Dt.keep M.bel _ hu) (hT.below M.bel))) fun w14 hb13 M a A => ?_
  refine sdm A λa A↦?_
  iterate 4 refine qx A rfl rfl rfl λa A↦?_
  refine sdk (v := .bool false) A λa A↦?_
  refine sda A λa A↦?_
  refine qa (hK6 _ _ (wp_ret (hret _ _ (en1 A rfl (qh rfl) ?_))))
  exact ⟨by unfold ur; simp_all, M.bel⟩
theorem zdg {w : World} {t u : Dt} (ht : t.rd w) (hu : u.rd w) (hT : Tabs8 w) : Calls Tryz.prog 28 #[.agg (t.d.cells t.ts.length).toArray, .agg (u.d.cells u.ts.length).toArray] w fun e w' => e = .returned (.int .i64 (qtc t.tr u.tr)) ∧ Below w.heap.size w w' := by
 have M : Mg w w ([]) := Mg.start w
 refine qm (l := [(0, .agg (t.d.cells t.ts.length).toArray), (1, .agg (u.d.cells u.ts.length).toArray)]) Tryz.func28 rfl Tryz.ntmps28 rfl rfl ?_
 intro Q hret hnorm hP a A
 refine wsk fun K1 hK1 => wrl (ja (vs := (t.d.cells t.ts.length)) (t := 30) A M rfl rfl rfl pg (qs rfl rfl) (by decide) ?_)
 intro g2 w3 M a A
 refine ja (vs := (u.d.cells u.ts.length)) (t := 30) A M rfl rfl rfl pg (qs rfl rfl) (by decide) ?_
 intro g4 w5 M a A
 refine sda A λa A↦?_
 refine qa (hK1 _ _ (wsk fun K6 hK6 => wsk fun K7 hK7 => wrl (sdo A (zg M EqC_isS_30 rfl 1 rfl (cs := (t.d.cells t.ts.length)) rfl rfl) λa A↦?_)))
 refine sdo A (zg M EqC_isS_30 rfl 0 rfl (cs := (u.d.cells u.ts.length)) rfl rfl) λa A↦?_
 rcases tf ((zd qn t.tr && zd qn u.tr)) with hb8 | hb8
 ·
  refine gcl A M (ef rfl rfl) ((hb8 ▸ qfc (Dt.keep M.bel _ ht) (Dt.keep M.bel _ hu) (hT.below M.bel))) fun w10 hb9 M a A => ?_
  refine sdo (v := .bool false) A (zk rfl zx) λa A↦?_
  refine qa (hK7 _ _ (wp_cond_false (A.ev rfl) ?_))
  refine wp_skip (hK6 _ _ (wsk fun K11 hK11 => wrl (sdo A (zg M EqC_isS_30 rfl 1 rfl (cs := (t.d.cells t.ts.length)) rfl rfl) λa A↦?_)))
  refine sdo A (zg M EqC_isS_30 rfl 0 rfl (cs := (u.d.cells u.ts.length)) rfl rfl) λa A↦?_
  refine gcl A M (ef rfl rfl) (qde (t.tr.bulk + 1) (Nat.lt_succ_self _) (Dt.keep M.bel _ ht) (Dt.keep M.bel _ hu) (qia ht (qed hb8).1) (qia hu (qed hb8).2)) fun w13 hb12 M a A => ?_
  refine sda A λa A↦?_
  refine qa (hK11 _ _ (wp_ret (hret _ _ (en1 A rfl (qh rfl) ?_))))
  exact ⟨by unfold qtc; rw [if_pos (qed hb8)], M.bel⟩
 ·
  refine gcl A M (ef rfl rfl) ((hb8 ▸ qfc (Dt.keep M.bel _ ht) (Dt.keep M.bel _ hu) (hT.below M.bel))) fun w15 hb14 M a A => ?_
  refine sdo (v := .bool true) A (zk rfl zx) λa A↦?_
  refine qa (hK7 _ _ (wp_cond_true (A.ev rfl) ?_))
  refine wsk fun K16 hK16 => wrl (sda A λa A↦?_)
  refine qa (hK16 _ _ (wp_ret (hret _ _ (en1 A rfl (qh rfl) ?_))))
  exact ⟨by unfold qtc; rw [if_neg (zpe hb8)], M.bel⟩
section
variable {α : Type} {lt : α → α → Bool}
/-- What is in order is sorted. -/
theorem qlg : ∀ {l : List α}, Up lt l → zp lt l = l
  | [], _ => rfl
  | x :: xs, h => by
    show mrg lt [x] (zp lt xs) = x :: xs
    have h2 := List.pairwise_cons.1 h
    rw [qlg h2.2]
    have := kw (lt := lt) [x] [] [] xs (fun z hz y hy => by rw [List.mem_singleton.1 hz]; exact h2.1 y hy) (fun y hy => by cases hy)
    rw [List.append_nil, List.nil_append, vn, vd] at this
    exact this
theorem qvg (H : Swo lt) (l : List α) : zp lt (zp lt l) = zp lt l := qlg (kg H l)
theorem qvh (p : α → Bool) (l : List α) : (zp lt l).countP p = l.countP p := (jw l).countP_eq p
/-- Of two neighbours the second does not lie ahead. -/
theorem zrf {l : List α} {i : Nat} {x y : α} (h : Up lt l) (hx : l[i]? = some x) (hy : l[i + 1]? = some y) : lt y x = false := by
  obtain ⟨h1, rfl⟩ := List.getElem?_eq_some_iff.1 hx
  obtain ⟨h2, rfl⟩ := List.getElem?_eq_some_iff.1 hy
  exact List.pairwise_iff_getElem.1 h i (i + 1) h1 h2 (Nat.lt_succ_self i)
end
theorem LiZ_is1_63 : Is1 Tryz.prog 63 := ⟨⟨_, Tryz.underlying63, rfl⟩, by kernel_rfl⟩
theorem LiZ_isS_30 : IsS Tryz.prog 30 11 := ⟨⟨_, Tryz.underlying30⟩, by kernel_rfl⟩
theorem qvi {w : World} {t : Dt} : Calls Tryz.prog 54 #[.agg (t.d.cells t.ts.length).toArray] w fun e w' => e = .returned (.agg (t.d.cells t.ts.length).toArray) ∧ Below w.heap.size w w' := by
 have M : Mg w w ([]) := Mg.start w
 refine qm (l := [(0, .agg (t.d.cells t.ts.length).toArray)]) Tryz.func54 rfl Tryz.ntmps54 rfl rfl ?_
 intro Q hret hnorm hP a A
 refine wsk fun K1 hK1 => wrl (ja (vs := (t.d.cells t.ts.length)) (t := 30) A M rfl rfl rfl pg (qs rfl rfl) (by decide) ?_)
 intro g2 w3 M a A
 refine ja (vs := (qr.d.cells qr.ts.length)) (t := 30) A M rfl rfl rfl pg (qk (z := .agg (qr.d.cells qr.ts.length).toArray) (by kernel_rfl) rfl) (by decide) ?_
 intro g4 w5 M a A
 refine qa (hK1 _ _ (wsk fun K6 hK6 => wrl (sdo A (zg M LiZ_isS_30 rfl 1 rfl (cs := (t.d.cells t.ts.length)) rfl rfl) λa A↦?_)))
 refine zu (us := (t.d.cells t.ts.length)) (L' := (.obj g4 (.cells (t.d.cells t.ts.length).toArray 30) :: .obj g2 (.cells (t.d.cells t.ts.length).toArray 30) :: [])) A M rfl rfl (ze rfl rfl rfl (by kernel_rfl) M 0 rfl rfl rfl) 0 rfl rfl rfl ?_
 intro w7 M
 refine qa (hK6 _ _ (wp_ret (hret _ _ (en1 A rfl (jr M LiZ_isS_30 rfl 0 rfl (cs := [.int .i64 t.d.k, .int .i64 t.d.n, .bool t.d.y.q.b1, .slice t.d.y.o1 t.d.y.q.t1.length t.d.y.c1, .slice t.d.y.o2 t.d.y.q.q1.length t.d.y.c2, .bool t.d.y.q.b2, .slice t.d.y.o3 t.d.y.q.t2.length t.d.y.c3, .slice t.d.y.o4 t.d.y.q.q2.length t.d.y.c4, .string t.d.s, .slice t.d.ro t.d.rl.length t.d.rc, .slice t.d.lo t.ts.length t.d.lc]) rfl rfl) ?_))))
 exact ⟨rfl, M.bel⟩
def qgd (t u : Dt) : Int := xy t.tr u.tr
def ltO (x y : Tr) : Bool := decide (xy x y < 0)
theorem qih : Swo ltO := by
 constructor
 ·
  intro x y h
  have h1 := of_decide_eq_true h
  have h2 := yw x y
  exact decide_eq_false (by omega)
 ·
  intro x y z h1 h2
  have h3 := of_decide_eq_false h1
  have h4 := of_decide_eq_false h2
  have h5 := J3_T z y x
  have h6 := yw z y
  have h7 := yw y x
  have h8 := yw z x
  refine decide_eq_false ?_
  unfold J3 at h5
  omega
theorem zng : Swo (ltC qgd) := ⟨fun x y h => qih.asy x.tr y.tr h, fun x y z h1 h2 => qih.neg x.tr y.tr z.tr h1 h2⟩
theorem qog (ys : List Dt) : (zp (ltC qgd) ys).map Dt.tr = zp ltO (ys.map Dt.tr) := qoc (f := Dt.tr) (lt := ltC qgd) (lt' := ltO) (fun x y => rfl) ys
theorem zrg {w : World} {t u : Dt} {gk : Nat} (hG : w.heap[gk]? = some (.cells [.func (.func 54) #[] #[]].toArray 63)) (ht : t.rd w) (hu : u.rd w) (hT : Tabs8 w) : Calls Tryz.prog 72 #[.agg (t.d.cells t.ts.length).toArray, .agg (u.d.cells u.ts.length).toArray, .pointer (some ⟨gk, 0, none⟩)] w fun e w' => e = .returned (.int .i64 (qtc t.tr u.tr)) ∧ Below w.heap.size w w' := by
 have M : Mg w w ([]) := Mg.start w
 refine qm (l := [(0, .agg (t.d.cells t.ts.length).toArray), (1, .agg (u.d.cells u.ts.length).toArray), (2, .pointer (some ⟨gk, 0, none⟩))]) Tryz.func72 rfl Tryz.ntmps72 rfl rfl ?_
 intro Q hret hnorm hP a A
 refine wsk fun K1 hK1 => wrl (ja (vs := (t.d.cells t.ts.length)) (t := 30) A M rfl rfl rfl pg (qs rfl rfl) (by decide) ?_)
 intro g2 w3 M a A
 refine ja (vs := (u.d.cells u.ts.length)) (t := 30) A M rfl rfl rfl pg (qs rfl rfl) (by decide) ?_
 intro g4 w5 M a A
 refine sda A λa A↦?_
 refine qa (hK1 _ _ (wsk fun K6 hK6 => jc (S := fun w1 => Mg w w1 (.obj g4 (.cells (u.d.cells u.ts.length).toArray 30) :: .obj g2 (.cells (t.d.cells t.ts.length).toArray 30) :: [])) (by kernel_rfl) ?_))
 replace M := M.drew
 refine qe A 0 rfl rfl rfl rfl hP (M.sub (cc (cc (List.nil_sublist _)))) (fun w1 M => qsa M hG LiZ_is1_63 rfl rfl) λa A↦?_
 refine qe A 1 rfl rfl rfl rfl hP (M.sub (cc (cc (List.nil_sublist _)))) (fun w1 M => zg M LiZ_isS_30 rfl 1 rfl (cs := (t.d.cells t.ts.length)) rfl rfl) λa A↦?_
 refine qe A 3 rfl rfl rfl rfl hP (M.sub (cc (cc (List.nil_sublist _)))) (fun w1 M => qsa M hG LiZ_is1_63 rfl rfl) λa A↦?_
 refine qe A 4 rfl rfl rfl rfl hP (M.sub (cc (cc (List.nil_sublist _)))) (fun w1 M => zg M LiZ_isS_30 rfl 0 rfl (cs := (u.d.cells u.ts.length)) rfl rfl) λa A↦?_
 refine qi (by kernel_rfl) (za A 2 rfl rfl rfl rfl (qj rfl rfl (fun w => by kernel_rfl)) (qvi (t := t)) ?_)
 rintro _ w8 ⟨rfl, hb7⟩
 replace M := M.call hb7
 refine ⟨_, rfl, (M.sub (cc (cc (List.nil_sublist _)))), ?_⟩
 intro a A
 refine qi (by kernel_rfl) (za A 5 rfl rfl rfl rfl (qj rfl rfl (fun w => by kernel_rfl)) (qvi (t := u)) ?_)
 rintro _ w10 ⟨rfl, hb9⟩
 replace M := M.call hb9
 refine ⟨_, rfl, (M.sub (cc (cc (List.nil_sublist _)))), ?_⟩
 intro a A
 refine qi (by kernel_rfl) (za A 6 rfl rfl rfl rfl (qj rfl rfl (fun w => by kernel_rfl)) (zdg (Dt.keep M.bel _ ht) (Dt.keep M.bel _ hu) (hT.below M.bel)) ?_)
 rintro _ w12 ⟨rfl, hb11⟩
 replace M := M.call hb11
 refine ⟨_, rfl, (M.sub (cc (cc (List.nil_sublist _)))), ?_⟩
 intro a A
 refine qe A 7 rfl rfl rfl rfl hP (M.sub (cc (cc (List.nil_sublist _)))) (fun w1 M => jk rfl) λa A↦?_
 refine zb (by kernel_rfl) ?_
 refine hK6 _ _ (wp_ret (hret _ _ (en1 A rfl (qh rfl) ?_)))
 exact ⟨rfl, M.bel⟩
theorem znh {w0 : World} {T : List Ck} {ts : List Dt} {gk : Nat} (hPc : ∀ t ∈ ts, t.rd w0 ∧ zd qn t.tr = true) (hT : Tabs8 w0) : Cmps Tryz.prog 72 [.pointer (some ⟨gk, 0, none⟩)] w0 (.obj gk (.cells #[.func (.func 54) #[] #[]] 63) :: T) ts qgd := by
 refine ⟨fun us w => by kernel_rfl, fun t u w ht hu M => ?_⟩
 have hb := M.bel
 unfold qgd
 rw [← zbf (hPc t ht).2 (hPc u hu).2]
 exact zrg (M.obj 0 rfl) (Dt.keep hb _ (hPc t ht).1) (Dt.keep hb _ (hPc u hu).1) (hT.below hb)
theorem zab {w : World} {so : Option Addr} {ca : Nat} {ys : List Dt} (hR : Rt w so (zp (ltC qgd) ys)) (hD : ∀ t ∈ zp (ltC qgd) ys, t.rd w) (hb : Tr.bulks ((zp (ltC qgd) ys).map Dt.tr) ≤ 400000000) : Calls Tryz.prog 42 #[.slice so ys.length ca] w fun e w' => ∃ t2 : Dt, e = .returned (.agg (t2.d.cells t2.ts.length).toArray) ∧ (t2.rd w' ∧ t2.at_ (w.heap.size ≤ ·) ∧ t2.tr = zn ((zp (ltC qgd) ys).map Dt.tr) nilT) ∧ Below w.heap.size w w' := by
 have := qki (ca := ca) hR hD hb
 rwa [xp] at this

theorem zac {ts : List Tr} (h : ∀ t ∈ ts, ∀ d e : Int, d ≤ e → kh e t = true → kh d t = true) {d e : Int} (hd : d ≤ e) (pr : Bool) : ∀ i, qag e pr i ts = true → qag d pr i ts = true := by
 induction ts with
 | nil => intro i _; rfl
 | cons t ts ih =>
  intro i h2
  rw [qag, Bool.and_eq_true] at h2 ⊢
  refine ⟨h t (List.mem_cons_self ..) _ _ ?_ h2.1, ih (fun u hu => h u (List.mem_cons_of_mem _ hu)) (i + 1) h2.2⟩
  split <;> omega
theorem qvj {x : Tr} : ∀ {xs : List Tr}, x ∈ xs → yf x ≤ ju xs
 | y :: ys, h => by
  rw [ju]
  rcases List.mem_cons.1 h with rfl | h
  ·
   omega
  ·
   have := qvj h; omega
theorem zhb : ∀ t : Tr, ∀ d e : Int, d ≤ e → kh e t = true → kh d t = true := by
 refine Tr.indT fun k n q s rl ts ih d e hd h => ?_
 rw [kh, Bool.and_eq_true] at h ⊢
 exact ⟨decide_eq_true (by have := of_decide_eq_true h.1; omega), zac ih hd _ _ h.2⟩
theorem qlh {t : Tr} {xs : List Tr} (h : jp t = some xs) (hs : zd qn t = true) : ∀ x ∈ xs, zd qn x = true := fun x hx => by
 rw [qgj h, qda] at hs
 have := qvj hx
 exact (qkg x).2 ⟨zhb x 1 2 (by decide) (List.all_eq_true.1 hs.1.1 x hx), by have := hs.2.1; omega, List.all_eq_true.1 hs.2.2.1 x hx⟩
theorem qwa {w0 w : World} {so9 : Option Addr} {c9 : Nat} {zs : List Dt} {T : List Ck} (hl : zs.length ≤ 1000000000) (hPc : ∀ t ∈ zs, t.rd w0 ∧ zd qn t.tr = true) (hT : Tabs8 w0) (hM0 : Mg w0 w (.row 30 11 (.slice so9 zs.length c9) zs.length (cellsOf zs) :: T)) : Calls Tryz.prog 53 #[.slice so9 zs.length c9, .func (.func 54) #[] #[]] w fun e w' => e = .returned (.tuple #[]) ∧ Mg w0 w' (.row 30 11 (.slice so9 zs.length c9) zs.length (cellsOf (zp (ltC qgd) zs)) :: T) := by
 have M : Mg w0 w (.row 30 11 (.slice so9 zs.length c9) zs.length (cellsOf zs) :: T) := hM0
 refine qm (l := [(0, .slice so9 zs.length c9), (1, .func (.func 54) #[] #[])]) Tryz.func53 rfl Tryz.ntmps53 rfl rfl ?_
 intro Q hret hnorm hP a A
 refine wsk fun K1 hK1 => wrl (ja (vs := [.func (.func 54) #[] #[]]) (t := 63) A M rfl rfl rfl pg (qs rfl rfl) (by decide) ?_)
 intro g2 w3 M a A
 refine qa (hK1 _ _ (wrl (sdm A λa A↦?_)))
 refine sdo (v := .func (.func 72) #[] [.pointer (some ⟨g2, 0, none⟩)].toArray) A (qca rfl) λa A↦?_
 refine sct A (ef rfl rfl) (zgc (by omega) (znh hPc hT) (fun t ht => ht) zng (M.perm (List.Perm.swap _ _ _))) ?_
 rintro _ w5 ⟨rfl, hM4⟩
 replace M : Mg w0 w5 (.row 30 11 (.slice so9 zs.length c9) zs.length (cellsOf (zp (ltC qgd) zs)) :: .obj g2 (.cells #[.func (.func 54) #[] #[]] 63) :: T) := hM4
 refine ⟨_, rfl, ?_⟩
 intro a A
 refine qa (hnorm _ _ (vh (v := .tuple #[]) A rfl .nil rfl ?_))
 exact ⟨rfl, M.sub (cc (cn (List.Sublist.refl _)))⟩
theorem qwb {w : World} {t : Dt} (ht : t.rd w) (hb : t.tr.bulk ≤ 300000000) (hT : Tabs8 w) (hs : zd qn t.tr = true) {xs : List Tr} (hx : jp t.tr = some xs) : Calls Tryz.prog 26 #[.agg (t.d.cells t.ts.length).toArray] w fun e w' => ∃ (t2 : Dt) (k : Int), e = .returned (.tuple #[.agg (t2.d.cells t2.ts.length).toArray, .int .i64 k]) ∧ (t2.rd w' ∧ t2.at_ (w.heap.size ≤ ·) ∧ (t2.tr, k) = (zn (zp ltO xs) nilT, 0)) ∧ Below w.heap.size w w' := by
 have M : Mg w w ([]) := Mg.start w
 refine qm (l := [(0, .agg (t.d.cells t.ts.length).toArray)]) Tryz.func26 rfl Tryz.ntmps26 rfl rfl ?_
 intro Q hret hnorm hP a A
 refine wsk fun K1 hK1 => wrl (ja (vs := (t.d.cells t.ts.length)) (t := 30) A M rfl rfl rfl pg (qs rfl rfl) (by decide) ?_)
 intro g2 w3 M a A
 refine ja (vs := (qr.d.cells qr.ts.length)) (t := 30) A M rfl rfl rfl pg (qk (z := .agg (qr.d.cells qr.ts.length).toArray) (by kernel_rfl) rfl) (by decide) ?_
 intro g4 w5 M a A
 refine sda A λa A↦?_
 refine qa (hK1 _ _ (wsk fun K6 hK6 => wrl (sdo A (zg M LiZ_isS_30 rfl 1 rfl (cs := (t.d.cells t.ts.length)) rfl rfl) λa A↦?_)))
 refine sct A (ef rfl rfl) (qdd M.bel ht (by omega) (hT.below M.bel) hs (by rw [hx]; rfl)) ?_
 rintro _ w7 ⟨so7, ca7, ys, rfl, ⟨hy1, hy2, hy3⟩, hM7⟩
 have hyb := ym hx
 have hye : ys.map Dt.tr = xs := by rw [hx] at hy1; exact (Option.some.inj hy1).symm
 have hyk : ∀ z ∈ ys, z.rd _ ∧ zd qn z.tr = true := fun z hz => ⟨hy2 z hz, qlh hx hs _ (hye ▸ List.mem_map_of_mem hz)⟩
 replace M : Mg w w7 (.row 30 11 (.slice so7 ys.length ca7) ys.length (cellsOf ys) :: .obj g4 (.cells (qr.d.cells qr.ts.length).toArray 30) :: .obj g2 (.cells (t.d.cells t.ts.length).toArray 30) :: []) := (M.both hM7 (jj (by simp) (jj (by simp) (jg jn))) (jj (by simp) (jg jn)))
 refine ⟨_, rfl, ?_⟩
 intro a A
 refine sdm A λa A↦?_
 iterate 2 refine sdo A (zj (vs := [.slice so7 ys.length ca7, .int .i64 0]) rfl rfl) λa A↦?_
 iterate 2 refine sda A λa A↦?_
 refine qa (hK6 _ _ (wsk fun K8 hK8 => wsk fun K9 hK9 => wrl (sdm A λa A↦?_)))
 refine sdo (v := .bool false) A (qf rfl rfl (fun w => by kernel_rfl)) λa A↦?_
 refine qa (hK9 _ _ (wp_cond_false (A.ev rfl) ?_))
 refine wp_skip (hK8 _ _ (wsk fun K10 hK10 => wrl (sdm A λa A↦?_)))
 refine sct A (ef rfl rfl) (qwa (by omega) hyk hT M) ?_
 rintro _ w11 ⟨rfl, hM8⟩
 replace M : Mg w w11 (.row 30 11 (.slice so7 ys.length ca7) ys.length (cellsOf (zp (ltC qgd) ys)) :: .obj g4 (.cells (qr.d.cells qr.ts.length).toArray 30) :: .obj g2 (.cells (t.d.cells t.ts.length).toArray 30) :: []) := hM8
 refine ⟨_, rfl, ?_⟩
 intro a A
 refine qa (hK10 _ _ (wsk fun K12 hK12 => wrl (sdm A λa A↦?_)))
 have hlt13 := (Ck.lt (M.has 1 rfl) g4 rfl).2
 have hlt14 := (Ck.lt (M.has 2 rfl) g2 rfl).2
 have hzt2 := M.bel.size
 refine sct A (ef rfl rfl) (zab (qab (M.has 0 rfl)).1 (fun t ht => Dt.keep M.bel _ (hy2 t ((jw _).mem_iff.1 ht))) (by rw [qog, qlb (jw _), hye]; omega)) ?_
 rintro _ w16 ⟨t2, rfl, ⟨hrt2, hat2, htt2⟩, hb15⟩
 replace M := M.call hb15
 refine ⟨_, rfl, ?_⟩
 intro a A
 refine vq (us := (t2.d.cells t2.ts.length)) (L' := (.row 30 11 (.slice so7 ys.length ca7) ys.length (cellsOf (zp (ltC qgd) ys)) :: .obj g4 (.cells (t2.d.cells t2.ts.length).toArray 30) :: .obj g2 (.cells (t.d.cells t.ts.length).toArray 30) :: [])) A M rfl rfl (ze rfl rfl rfl (by kernel_rfl) M 1 rfl rfl rfl) 1 rfl rfl rfl ?_
 intro w17 M hK18
 replace hrt2 := Dt.kept hK18 _ hrt2 (Dt.at_mono (fun b hb => by rintro rfl; omega) _ hat2)
 refine sda A λa A↦?_
 refine qa (hK12 _ _ (wp_ret (hret _ _ (en2 A rfl (jr M LiZ_isS_30 rfl 1 rfl (cs := [.int .i64 t2.d.k, .int .i64 t2.d.n, .bool t2.d.y.q.b1, .slice t2.d.y.o1 t2.d.y.q.t1.length t2.d.y.c1, .slice t2.d.y.o2 t2.d.y.q.q1.length t2.d.y.c2, .bool t2.d.y.q.b2, .slice t2.d.y.o3 t2.d.y.q.t2.length t2.d.y.c3, .slice t2.d.y.o4 t2.d.y.q.q2.length t2.d.y.c4, .string t2.d.s, .slice t2.d.ro t2.d.rl.length t2.d.rc, .slice t2.d.lo t2.ts.length t2.d.lc]) rfl rfl) (qh rfl) ?_))))
 exact ⟨t2, 0, rfl, ⟨hrt2, Dt.at_mono (fun b hb => Nat.le_trans hzt2 hb) _ hat2, by rw [htt2, qog, hye]⟩, M.bel⟩
end Go.Proofs.YtipikhcmieboaaaGreatDoor.G
namespace Go.Proofs.YtipikhcmieboaaaGreatDoor
open Go.RowKit
set_option linter.unusedVariables false
set_option linter.unusedSimpArgs false
set_option maxRecDepth 100000
theorem EqO_fld_27_0 : FieldAt Tryz.prog 27 0 0 := ⟨_, _, Tryz.underlying27, rfl, rfl, by kernel_rfl⟩
theorem EqO_fld_27_1 : FieldAt Tryz.prog 27 1 3 := ⟨_, _, Tryz.underlying27, rfl, rfl, by kernel_rfl⟩
theorem EqO_isS_25 : IsS Tryz.prog 25 3 := ⟨⟨_, Tryz.underlying25⟩, by kernel_rfl⟩
theorem zad {w : World} {p q : Q6} {a1 a2 a3 a4 : Option Addr} {ac1 ac2 ac3 ac4 : Nat} (ha : Nm w p a1 ac1 a2 ac2 a3 ac3 a4 ac4) (hl : LenQ p) {u1 u2 u3 u4 : Option Addr} {uc1 uc2 uc3 uc4 : Nat} (hu : Nm w q u1 uc1 u2 uc2 u3 uc3 u4 uc4) (hm : LenQ q) {r : Bool} (hr : (xf p.b1 p.t1 p.q1 q.b1 q.t1 q.q1 && xf p.b2 p.t2 p.q2 q.b2 q.t2 q.q2) = r) : Calls Tryz.prog 43 #[qce p a1 ac1 a2 ac2 a3 ac3 a4 ac4, qce q u1 uc1 u2 uc2 u3 uc3 u4 uc4] w fun e w' => e = .returned (.bool r) ∧ Below w.heap.size w w' := by
 have S : St w w [] [(u4, q.q2), (u3, q.t2), (u2, q.q1), (u1, q.t1), (a4, p.q2), (a3, p.t2), (a2, p.q1), (a1, p.t1)] [] := ((((((((St.start w).addR ha.s1.rd).addR ha.s2.rd).addR ha.s3.rd).addR ha.s4.rd).addR hu.s1.rd).addR hu.s2.rd).addR hu.s3.rd).addR hu.s4.rd
 refine qm (l := [(0, .agg #[.bool p.b1, .slice a1 p.t1.length ac1, .slice a2 p.q1.length ac2, .bool p.b2, .slice a3 p.t2.length ac3, .slice a4 p.q2.length ac4]), (1, .agg #[.bool q.b1, .slice u1 q.t1.length uc1, .slice u2 q.q1.length uc2, .bool q.b2, .slice u3 q.t2.length uc3, .slice u4 q.q2.length uc4])]) Tryz.func43 rfl Tryz.ntmps43 rfl rfl ?_
 intro Q hret hnorm hP a A
 refine wsk fun K1 hK1 => wrl (zt A S rfl rfl rfl pg (qs rfl rfl) rfl ?_)
 intro g2 w3 S a A
 refine zt A S rfl rfl rfl pg (qs rfl rfl) rfl ?_
 intro g4 w5 S a A
 refine sda A λa A↦?_
 refine qa (hK1 _ _ (wsk fun K6 hK6 => wrl (sdo (v := .pointer (some ⟨g2, 0, none⟩)) A (qb EqO_fld_27_0 rfl rfl) λa A↦?_)))
 refine sdo A (zi S EqO_isS_25 rfl 1 rfl (cs := [.bool p.b1, .slice a1 p.t1.length ac1, .slice a2 p.q1.length ac2]) rfl rfl) λa A↦?_
 refine sdo (v := .pointer (some ⟨g4, 0, none⟩)) A (qb EqO_fld_27_0 rfl rfl) λa A↦?_
 refine sdo A (zi S EqO_isS_25 rfl 0 rfl (cs := [.bool q.b1, .slice u1 q.t1.length uc1, .slice u2 q.q1.length uc2]) rfl rfl) λa A↦?_
 rcases tf (xf p.b1 p.t1 p.q1 q.b1 q.t1 q.q1) with hb7 | hb7
 ·
  refine sct A (ef rfl rfl) (yp ⟨(S.rd 7 rfl), ha.s1.nil, ha.s1.cap⟩ ⟨(S.rd 6 rfl), ha.s2.nil, ha.s2.cap⟩ ⟨(S.rd 3 rfl), hu.s1.nil, hu.s1.cap⟩ ⟨(S.rd 2 rfl), hu.s2.nil, hu.s2.cap⟩ hl.l1 hl.l2 hm.l1 hm.l2 hb7) ?_
  rintro _ w9 ⟨rfl, hb8⟩
  replace S := S.call hb8
  refine ⟨_, rfl, ?_⟩
  intro a A
  refine sdm A λa A↦?_
  refine sdo (v := .pointer (some ⟨g2, 3, none⟩)) A (qb EqO_fld_27_1 rfl rfl) λa A↦?_
  refine sdo A (zi S EqO_isS_25 rfl 1 rfl (cs := [.bool p.b2, .slice a3 p.t2.length ac3, .slice a4 p.q2.length ac4]) rfl rfl) λa A↦?_
  refine sdo (v := .pointer (some ⟨g4, 3, none⟩)) A (qb EqO_fld_27_1 rfl rfl) λa A↦?_
  refine sdo A (zi S EqO_isS_25 rfl 0 rfl (cs := [.bool q.b2, .slice u3 q.t2.length uc3, .slice u4 q.q2.length uc4]) rfl rfl) λa A↦?_
  rcases tf (xf p.b2 p.t2 p.q2 q.b2 q.t2 q.q2) with hb10 | hb10
  ·
   refine sct A (ef rfl rfl) (yp ⟨(S.rd 5 rfl), ha.s3.nil, ha.s3.cap⟩ ⟨(S.rd 4 rfl), ha.s4.nil, ha.s4.cap⟩ ⟨(S.rd 1 rfl), hu.s3.nil, hu.s3.cap⟩ ⟨(S.rd 0 rfl), hu.s4.nil, hu.s4.cap⟩ hl.l3 hl.l4 hm.l3 hm.l4 hb10) ?_
   rintro _ w12 ⟨rfl, hb11⟩
   replace S := S.call hb11
   refine ⟨_, rfl, ?_⟩
   intro a A
   refine sdk (v := .bool true) A λa A↦?_
   refine sda A λa A↦?_
   refine qa (hK6 _ _ (wp_ret (hret _ _ (en1 A rfl (qh rfl) ?_))))
   subst hr
   exact ⟨by rw [hb7, hb10]; try rfl, S.bel⟩
  ·
   refine sct A (ef rfl rfl) (yp ⟨(S.rd 5 rfl), ha.s3.nil, ha.s3.cap⟩ ⟨(S.rd 4 rfl), ha.s4.nil, ha.s4.cap⟩ ⟨(S.rd 1 rfl), hu.s3.nil, hu.s3.cap⟩ ⟨(S.rd 0 rfl), hu.s4.nil, hu.s4.cap⟩ hl.l3 hl.l4 hm.l3 hm.l4 hb10) ?_
   rintro _ w14 ⟨rfl, hb13⟩
   replace S := S.call hb13
   refine ⟨_, rfl, ?_⟩
   intro a A
   refine sdk (v := .bool false) A λa A↦?_
   refine sda A λa A↦?_
   refine qa (hK6 _ _ (wp_ret (hret _ _ (en1 A rfl (qh rfl) ?_))))
   subst hr
   exact ⟨by rw [hb7, hb10]; try rfl, S.bel⟩
 ·
  refine sct A (ef rfl rfl) (yp ⟨(S.rd 7 rfl), ha.s1.nil, ha.s1.cap⟩ ⟨(S.rd 6 rfl), ha.s2.nil, ha.s2.cap⟩ ⟨(S.rd 3 rfl), hu.s1.nil, hu.s1.cap⟩ ⟨(S.rd 2 rfl), hu.s2.nil, hu.s2.cap⟩ hl.l1 hl.l2 hm.l1 hm.l2 hb7) ?_
  rintro _ w16 ⟨rfl, hb15⟩
  replace S := S.call hb15
  refine ⟨_, rfl, ?_⟩
  intro a A
  refine sdm A λa A↦?_
  iterate 5 refine qx A rfl rfl rfl λa A↦?_
  refine sdk (v := .bool false) A λa A↦?_
  refine sda A λa A↦?_
  refine qa (hK6 _ _ (wp_ret (hret _ _ (en1 A rfl (qh rfl) ?_))))
  subst hr
  exact ⟨by rw [hb7]; try rfl, S.bel⟩

end Go.Proofs.YtipikhcmieboaaaGreatDoor
namespace Go.Proofs.YtipikhcmieboaaaGreatDoor.G
open Go.RowKit
set_option linter.unusedVariables false
set_option linter.unusedSimpArgs false
/-! ### The same trees, by the document -/
mutual
def uq : Tr → Tr → Bool
  | .mk k n q s rl ts, u => (decide (k = u.k) && (decide (n = u.n) && (decide (s = u.s) && (decide (rl = u.rl) && (xf q.b1 q.t1 q.q1 u.q.b1 u.q.t1 u.q.q1 && xf q.b2 q.t2 q.q2 u.q.b2 u.q.t2 u.q.q2))))) && (decide (ts.length = u.ts.length) && kl ts u.ts)
def kl : List Tr → List Tr → Bool
  | [], _ => true
  | _ :: _, [] => true
  | t :: ts, u :: us => uq t u && kl ts us
end
theorem zhc {b b' : Bool} {t q t' q' : List Nat} : xf b t q b' t' q' = true ↔ b = b' ∧ t = t' ∧ q = q' := by
  unfold xf
  simp
theorem zni (k n : Int) (q : Q6) (s : ByteArray) (rl : List UInt8) (ts : List Tr) (k' n' : Int) (q' : Q6) (s' : ByteArray) (rl' : List UInt8) (ts' : List Tr) : uq (.mk k n q s rl ts) (.mk k' n' q' s' rl' ts') = true ↔ k = k' ∧ n = n' ∧ q = q' ∧ s = s' ∧ rl = rl' ∧ ts.length = ts'.length ∧ kl ts ts' = true := by
  rw [uq]
  show ((decide (k = k') && (decide (n = n') && (decide (s = s') && (decide (rl = rl') && (xf q.b1 q.t1 q.q1 q'.b1 q'.t1 q'.q1 && xf q.b2 q.t2 q.q2 q'.b2 q'.t2 q'.q2))))) && (decide (ts.length = ts'.length) && kl ts ts')) = true ↔ _
  simp only [Bool.and_eq_true, decide_eq_true_eq, zhc]
  constructor
  · rintro ⟨⟨a, b, c, d, ⟨e1, e2, e3⟩, f1, f2, f3⟩, g, h⟩
    refine ⟨a, b, ?_, c, d, g, h⟩
    cases q; cases q'
    simp_all
  · rintro ⟨a, b, c, d, e, f, g⟩
    subst c
    exact ⟨⟨a, b, d, e, ⟨rfl, rfl, rfl⟩, rfl, rfl, rfl⟩, f, g⟩
theorem qwc {ts : List Tr} (h : ∀ t ∈ ts, ∀ u, uq t u = true ↔ t = u) : ∀ us : List Tr, ts.length = us.length → (kl ts us = true ↔ ts = us) := by
  induction ts with
  | nil =>
    intro us hl
    cases us with
    | nil => simp [kl]
    | cons u us => simp at hl
  | cons t ts ih =>
    intro us hl
    cases us with
    | nil => simp at hl
    | cons u us =>
      rw [kl, Bool.and_eq_true, h t List.mem_cons_self u, ih (fun x hx => h x (List.mem_cons_of_mem _ hx)) us (by simpa using hl)]
      simp
theorem qwd : ∀ t u : Tr, uq t u = true ↔ t = u := by
  refine Tr.indT fun k n q s rl ts ih u => ?_
  obtain ⟨k', n', q', s', rl', ts'⟩ := u
  rw [zni]
  constructor
  · rintro ⟨a, b, c, d, e, f, g⟩
    rw [a, b, c, d, e, (qwc ih ts' f).1 g]
  · intro h
    cases h
    exact ⟨rfl, rfl, rfl, rfl, rfl, rfl, (qwc ih ts rfl).2 rfl⟩
theorem qwe {ts us : List Dt} {i : Nat} {t u : Dt} (hi : ts[i]? = some t) (hj : us[i]? = some u) : kl ((ts.map Dt.tr).drop i) ((us.map Dt.tr).drop i) = (uq t.tr u.tr && kl ((ts.map Dt.tr).drop (i + 1)) ((us.map Dt.tr).drop (i + 1))) := by
  rw [kx hi, kx hj, kl]
theorem zhd {ts us : List Dt} {i : Nat} (h : ¬ i < ts.length) : kl ((ts.map Dt.tr).drop i) ((us.map Dt.tr).drop i) = true := by
  rw [qbc h, kl]
theorem qwf (p r : Dt) : uq p.tr r.tr = ((decide (p.d.k = r.d.k) && (decide (p.d.n = r.d.n) && (decide (p.d.s = r.d.s) && (decide (p.d.rl = r.d.rl) && (xf p.d.y.q.b1 p.d.y.q.t1 p.d.y.q.q1 r.d.y.q.b1 r.d.y.q.t1 r.d.y.q.q1 && xf p.d.y.q.b2 p.d.y.q.t2 p.d.y.q.q2 r.d.y.q.b2 r.d.y.q.t2 r.d.y.q.q2))))) && (decide (p.ts.length = r.ts.length) && kl (p.ts.map Dt.tr) (r.ts.map Dt.tr))) := by
  rw [Dt.tr_eta p, Dt.tr_eta r, uq, List.length_map]
  show _ = (_ && (decide (p.ts.length = r.ts.length) && _))
  rw [show (Tr.mk r.d.k r.d.n r.d.y.q r.d.s r.d.rl (r.ts.map Dt.tr)).ts.length = r.ts.length from List.length_map _]
  rfl
def SQ2 (p r : Dt) : Bool := xf p.d.y.q.b1 p.d.y.q.t1 p.d.y.q.q1 r.d.y.q.b1 r.d.y.q.t1 r.d.y.q.q1 && xf p.d.y.q.b2 p.d.y.q.t2 p.d.y.q.q2 r.d.y.q.b2 r.d.y.q.t2 r.d.y.q.q2
theorem un {p r : Dt} (h : p.d.k ≠ r.d.k ∨ p.d.n ≠ r.d.n ∨ p.d.s ≠ r.d.s ∨ p.d.rl ≠ r.d.rl ∨ p.ts.length ≠ r.ts.length ∨ SQ2 p r = false) : uq p.tr r.tr = false := by
  rw [qwf]
  unfold SQ2 at h
  rcases h with h | h | h | h | h | h <;> simp [h]
theorem znj {p r : Dt} (h1 : p.d.k = r.d.k) (h2 : p.d.n = r.d.n) (h3 : p.d.s = r.d.s) (h4 : p.d.rl = r.d.rl) (h5 : p.ts.length = r.ts.length) (h6 : SQ2 p r = true) : uq p.tr r.tr = kl (p.ts.map Dt.tr) (r.ts.map Dt.tr) := by
  rw [qwf]
  unfold SQ2 at h6
  rw [decide_eq_true h1, decide_eq_true h2, decide_eq_true h3, decide_eq_true h4, decide_eq_true h5, h6]
  simp
theorem zhe {a b : List UInt8} (hl : a.length = b.length) (h : ∀ j, j < a.length → a.getD j 0 = b.getD j 0) : a = b := by
  apply List.ext_getElem hl
  intro j h1 h2
  have := h j h1
  rwa [show a.getD j 0 = a[j] from by simp [List.getD, List.getElem?_eq_getElem h1], show b.getD j 0 = b[j] from by simp [List.getD, List.getElem?_eq_getElem h2]] at this
theorem zuj {a b : List UInt8} {i : Nat} (h : (((a.getD i 0).toNat : Nat) : Int) ≠ (((b.getD i 0).toNat : Nat) : Int)) : a ≠ b := fun e => h (by rw [e])
theorem zva {a b : UInt8} (h : ((a.toNat : Nat) : Int) = ((b.toNat : Nat) : Int)) : a = b := UInt8.toNat_inj.1 (by omega)
end Go.Proofs.YtipikhcmieboaaaGreatDoor.G
