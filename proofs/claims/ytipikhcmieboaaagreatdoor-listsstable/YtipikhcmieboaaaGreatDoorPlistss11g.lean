/- The walk of symMerge. The walk of slices.SortStableFunc. Walks of lists that are taken apart. A range over a function: steps within a round, and slices.Backward. slices.Backward over data. Items, linked one behind the other. Walks of the items of lists. Walks of lists that are joined, and of new lists. Walks of Of, Append, Tail and Reverse. Walks of SortBy, where the firsts are characters. The walk of SortBy, where the firsts are characters. Pairs of two characters: what ListsStable builds, and what becomes of it. Walks of the document's sameness and order of numbers. The same trees. The walk of the document's utf8. Units of a text as rows; when a text has no bad byte. Walks of the document's Sound. The walk of the document's Sound. The walk of the document's sameness of data. Walks of the document's lists. Walks of the document's Of, Reverse, Tail and Append. The walk of the law of joined lists. The walk of the law of lists that are made. The walk of ListsStable. Transcoders that come in as arguments. Rows of bytes that come in as arguments; the first part of a row, and of a text. -/
import Derived.Test.YtipikhcmieboaaaGreatDoorPlistss11f
import Derived.RangeFuncNested
import Derived.RangeFuncLeaves
import Derived.LoopNIn
import Derived.Test.YtipikhcmieboaaaGreatDoorProg
import Derived.Test.YtipikhcmieboaaaGreatDoorArith
import Derived.Test.YtipikhcmieboaaaGreatDoorPlistss11c
import Derived.Test.YtipikhcmieboaaaGreatDoorPlistss11d
import Derived.Lib.ConvBytes
import Derived.WalkKit
import Derived.ProofKit
import Derived.OpenShut
import Derived.ChangeOld
import Derived.Lib.SmallJoins
import Derived.Deep.Strs
namespace Go.Proofs.YtipikhcmieboaaaGreatDoor.G
open Go.RowKit
set_option linter.unusedVariables false
set_option linter.unusedSimpArgs false
set_option maxRecDepth 100000
theorem LiU_isS_30 : IsS Tryz.prog 30 11 := ⟨⟨_, Tryz.underlying30⟩, by kernel_rfl⟩
def SymC (f : FuncId) (cs : List Value) (c : Dt → Dt → Int) (ts : List Dt) (w0 : World) (g9 c9 n9 : Nat) (T : List Ck) (d : Nat) : Prop := ∀ {w : World} {zs : List Dt} {la lm lb : Nat}, lb - la ≤ d → zs.length = n9 → (∀ t ∈ zs, t ∈ ts) → la < lm → lm < lb → lb ≤ n9 → UpS (ltC c) zs la lm → UpS (ltC c) zs lm lb → Mg w0 w (.row 30 11 (.slice (some ⟨g9, 0, none⟩) n9 c9) n9 (qb zs) :: T) → Calls Tryz.prog 104 #[.slice (some ⟨g9, 0, none⟩) n9 c9, .int .i64 ((la : Nat) : Int), .int .i64 ((lm : Nat) : Int), .int .i64 ((lb : Nat) : Int), .func (.func f) #[] cs.toArray] w fun e w' => e = .returned (.tuple #[]) ∧ Mg w0 w' (.row 30 11 (.slice (some ⟨g9, 0, none⟩) n9 c9) n9 (qb (mg (ltC c) zs la lm lb)) :: T)
set_option maxHeartbeats 1000000 in
theorem qwe {f : FuncId} {cs : List Value} {c : Dt → Dt → Int} {ts : List Dt} {w0 : World} {g9 c9 n9 : Nat} {T : List Ck} (hl : n9 ≤ 1000000000) (hF : Cmps Tryz.prog f cs w0 T ts c) (H : Swo (ltC c)) {d : Nat} (ih : SymC f cs c ts w0 g9 c9 n9 T d) : SymC f cs c ts w0 g9 c9 n9 T (d + 1) := by
 intro w zs la lm lb hd hzl hsub ham hmb hbn hu1 hu2 hM0
 have M : Mg w0 w (.row 30 11 (.slice (some ⟨g9, 0, none⟩) n9 c9) n9 (qb zs) :: T) := hM0
 refine qp (l := [(0, .slice (some ⟨g9, 0, none⟩) n9 c9), (1, .int .i64 (((la : Nat) : Int))), (2, .int .i64 (((lm : Nat) : Int))), (3, .int .i64 (((lb : Nat) : Int))), (4, .func (.func f) #[] cs.toArray)]) Tryz.func104 rfl Tryz.ntmps104 rfl rfl ?_
 intro Q hret hnorm hP a A
 refine wsk fun K1 hK1 => wsk fun K2 hK2 => wrl ?_
 iterate 2 refine sdm A λa A↦?_
 refine sdo (v := .int .i64 (((lm - la : Nat) : Int))) A (qf rfl rfl (ar_sub ((in_i64 (by omega) (by omega)).trans (by omega)))) λa A↦?_
 rcases tf ((((lm - la : Nat) : Int) == 1)) with hb3 | hb3
 ·
  have hb3' := eq_of_beq hb3
  refine sdc A ql hb3 λa A↦?_
  refine qa (hK2 _ _ (wp_cond_true (A.ev rfl) ?_))
  refine wsk fun K4 hK4 => wrl (sdm A λa A↦?_)
  refine sda A λa A↦?_
  refine qa (hK4 _ _ (wsk fun K5 hK5 => wrl (sdm A λa A↦?_)))
  refine sda A λa A↦?_
  refine qa (hK5 _ _ (wsk fun K6 hK6 => wp_block (zk (fun m_ a w1 => ∃ (i : Nat) (j : Nat), m_ = 1 + (j - i) ∧ (lm ≤ i ∧ i ≤ j ∧ j ≤ lb ∧ (i = lm ∨ ltA (ltC c) zs (i - 1) la = true) ∧ (j = lb ∨ ltA (ltC c) zs j la = false)) ∧ Sl a 220 [(0, .slice (some ⟨g9, 0, none⟩) n9 c9), (1, .int .i64 (((la : Nat) : Int))), (2, .int .i64 (((lm : Nat) : Int))), (3, .int .i64 (((lb : Nat) : Int))), (4, .func (.func f) #[] cs.toArray), (10, .int .i64 (((i : Nat) : Int))), (11, .int .i64 (((j : Nat) : Int))), (25, .int .i64 (((lm : Nat) : Int))), (26, .int .i64 (((la : Nat) : Int))), (27, .int .i64 (((lm - la : Nat) : Int))), (28, .bool true), (29, .int .i64 (((lm : Nat) : Int))), (30, .int .i64 (((lb : Nat) : Int)))] ∧ Mg w0 w1 (.row 30 11 (.slice (some ⟨g9, 0, none⟩) n9 c9) n9 (qb zs) :: T)) _ ⟨lm, lb, rfl, ⟨Nat.le_refl _, by omega, Nat.le_refl _, .inl rfl, .inl rfl⟩, A.keep _ (by repeat' constructor), M⟩ ?_)))
  clear M A
  rintro m_ a w7 ⟨i, j, rfl, hinv9, A, M⟩ K8 hK8
  obtain ⟨hi0, hi1, hi2, hil, hjr⟩ := hinv9
  refine wsk fun K10 hK10 => wsk fun K11 hK11 => wrl ?_
  iterate 2 refine sdm A λa A↦?_
  rcases tf (decide (((i : Nat) : Int) < ((j : Nat) : Int))) with hb12 | hb12
  ·
   have hb12' := of_decide_eq_true hb12
   refine sdc A qm hb12 λa A↦?_
   refine qa (hK11 _ _ (wp_cond_true (A.ev rfl) ?_))
   refine wp_skip (hK10 _ _ (wp_block (wsk fun K13 hK13 => wrl ?_)))
   iterate 2 refine sdm A λa A↦?_
   refine sdo (v := .int .i64 (((i + j : Nat) : Int))) A (qf rfl rfl (ar_add ((in_i64 (by omega) (by omega)).trans (by omega)))) λa A↦?_
   refine sdo (v := .int .u64 (((i + j : Nat) : Int))) A (jb rfl (ar_conv Tryz.underlying3 Tryz.underlying113 (qhd (by omega) (by omega)))) λa A↦?_
   refine sdo (v := .int .u64 ((((i + j) / 2 : Nat) : Int))) A (qf rfl rfl (ar_shr (n := 1) rfl rfl (show ((i + j : Nat) : Int) / 2 ^ 1 = (((i + j) / 2 : Nat) : Int) from by rw [show ((2 : Int) ^ 1) = 2 from rfl]; omega))) λa A↦?_
   refine sdo (v := .int .i64 ((((i + j) / 2 : Nat) : Int))) A (jb rfl (ar_conv Tryz.underlying113 Tryz.underlying3 (in_i64 (by omega) (by omega)))) λa A↦?_
   refine sda A λa A↦?_
   refine qa (hK13 _ _ (wsk fun K14 hK14 => js (S := fun w1 => Mg w0 w1 (.row 30 11 (.slice (some ⟨g9, 0, none⟩) n9 c9) n9 (qb zs) :: [])) (by kernel_rfl) ?_))
   replace M := M.drew
   refine qe A 0 rfl rfl rfl rfl hP (M.sub (cc (List.nil_sublist _))) (fun w1 M => qh rfl) λa A↦?_
   refine qe A 1 rfl rfl rfl rfl hP (M.sub (cc (List.nil_sublist _))) (fun w1 M => qh rfl) λa A↦?_
   refine qe A 2 rfl rfl rfl rfl hP (M.sub (cc (List.nil_sublist _))) (fun w1 M => qh rfl) λa A↦?_
   refine qe (v := .pointer (some ⟨g9, ((i + j) / 2) * 11, none⟩)) A 3 rfl rfl rfl rfl hP (M.sub (cc (List.nil_sublist _))) (fun w1 M => qj (k := ((i + j) / 2)) Tryz.underlying22 (by kernel_rfl) rfl rfl rfl (by omega)) λa A↦?_
   obtain ⟨e15, he15⟩ : ∃ z, zs[((i + j) / 2)]? = some z := ⟨_, List.getElem?_eq_getElem (by omega)⟩
   refine qe A 4 rfl rfl rfl rfl hP (M.sub (cc (List.nil_sublist _))) (fun w1 M => zf (o := ((i + j) / 2) * 11) (cs := e15.d.cells e15.ts.length) M 0 rfl LiU_isS_30 (qr he15) rfl rfl) λa A↦?_
   refine qe A 5 rfl rfl rfl rfl hP (M.sub (cc (List.nil_sublist _))) (fun w1 M => qh rfl) λa A↦?_
   refine qe A 6 rfl rfl rfl rfl hP (M.sub (cc (List.nil_sublist _))) (fun w1 M => qh rfl) λa A↦?_
   refine qe (v := .pointer (some ⟨g9, la * 11, none⟩)) A 7 rfl rfl rfl rfl hP (M.sub (cc (List.nil_sublist _))) (fun w1 M => qj (k := la) Tryz.underlying22 (by kernel_rfl) rfl rfl rfl (by omega)) λa A↦?_
   obtain ⟨e16, he16⟩ : ∃ z, zs[la]? = some z := ⟨_, List.getElem?_eq_getElem (by omega)⟩
   refine qe A 8 rfl rfl rfl rfl hP (M.sub (cc (List.nil_sublist _))) (fun w1 M => zf (o := la * 11) (cs := e16.d.cells e16.ts.length) M 0 rfl LiU_isS_30 (qr he16) rfl rfl) λa A↦?_
   refine qs (by kernel_rfl) (jr A 9 rfl rfl rfl rfl (vj rfl rfl hF.inv) (hF.run e15 e16 _ (hsub _ (List.mem_of_getElem? he15)) (hsub _ (List.mem_of_getElem? he16)) (M.sub (cn (List.Sublist.refl _)))) ?_)
   rintro _ w18 ⟨rfl, hb17⟩
   replace M := M.call hb17
   refine ⟨_, rfl, (M.sub (cc (List.nil_sublist _))), ?_⟩
   intro a A
   rcases tf (decide ((c e15 e16) < 0)) with hb19 | hb19
   ·
    have hb19' := of_decide_eq_true hb19
    refine qe (v := .bool true) A 10 rfl rfl rfl rfl hP (M.sub (cc (List.nil_sublist _))) (fun w1 M => qf rfl rfl (fun w => (qm w).trans (by rw [hb19]))) λa A↦?_
    refine zu (by kernel_rfl) ?_
    refine hK14 _ _ (wp_cond_true (A.ev rfl) ?_)
    refine wrl (sdm A λa A↦?_)
    refine sdo (v := .int .i64 (((((i + j) / 2) + 1 : Nat) : Int))) A (qf rfl rfl (ar_add ((in_i64 (by omega) (by omega)).trans (by omega)))) λa A↦?_
    refine sda A λa A↦?_
    refine qa ?_
    refine hK8 _ _ _ (by omega) ⟨(i + j) / 2 + 1, j, rfl, ⟨by omega, by omega, by omega, .inr (by rw [Nat.add_sub_cancel]; exact kq he15 he16 hb19), hjr⟩, A.keep _ (by repeat' constructor), M⟩
   ·
    have hb19' := of_decide_eq_false hb19
    refine qe (v := .bool false) A 10 rfl rfl rfl rfl hP (M.sub (cc (List.nil_sublist _))) (fun w1 M => qf rfl rfl (fun w => (qm w).trans (by rw [hb19]))) λa A↦?_
    refine zu (by kernel_rfl) ?_
    refine hK14 _ _ (wp_cond_false (A.ev rfl) ?_)
    refine wrl (sdm A λa A↦?_)
    refine sda A λa A↦?_
    refine qa ?_
    refine hK8 _ _ _ (by omega) ⟨i, (i + j) / 2, rfl, ⟨by omega, by omega, by omega, hil, .inr (kq he15 he16 hb19)⟩, A.keep _ (by repeat' constructor), M⟩
  ·
   have hb12' := of_decide_eq_false hb12
   refine sdc A qm hb12 λa A↦?_
   refine qa (hK11 _ _ (wp_cond_false (A.ev rfl) ?_))
   refine wp_exit (hK6 _ _ (wsk fun K20 hK20 => wsk fun K21 hK21 => wrl (sdm A λa A↦?_)))
   refine sda A λa A↦?_
   refine qa (hK21 _ _ (wp_block (zk (fun m_ a w1 => ∃ (k : Nat) (xs : List Dt), m_ = 1 + (i - k) ∧ (la ≤ k ∧ k + 1 ≤ i ∧ xs.length = n9 ∧ mvU xs k (i - 1 - k) = mvU zs la (i - 1 - la)) ∧ Sl a 220 [(0, .slice (some ⟨g9, 0, none⟩) n9 c9), (1, .int .i64 (((la : Nat) : Int))), (2, .int .i64 (((lm : Nat) : Int))), (3, .int .i64 (((lb : Nat) : Int))), (4, .func (.func f) #[] cs.toArray), (10, .int .i64 (((i : Nat) : Int))), (11, .int .i64 (((j : Nat) : Int))), (13, .int .i64 (((k : Nat) : Int))), (25, .int .i64 (((lm : Nat) : Int))), (26, .int .i64 (((la : Nat) : Int))), (27, .int .i64 (((lm - la : Nat) : Int))), (28, .bool true), (29, .int .i64 (((lm : Nat) : Int))), (30, .int .i64 (((lb : Nat) : Int))), (31, .int .i64 (((i : Nat) : Int))), (32, .int .i64 (((j : Nat) : Int))), (33, .bool false), (54, .int .i64 (((la : Nat) : Int)))] ∧ Mg w0 w1 (.row 30 11 (.slice (some ⟨g9, 0, none⟩) n9 c9) n9 (qb xs) :: T)) _ ⟨la, zs, rfl, ⟨Nat.le_refl _, by omega, hzl, rfl⟩, A.keep _ (by repeat' constructor), M⟩ ?_)))
   clear M A
   rintro m_ a w22 ⟨k, xs, rfl, hinv24, A, M⟩ K23 hK23
   obtain ⟨hk0, hk1, hxl, hin⟩ := hinv24
   refine wsk fun K25 hK25 => wsk fun K26 hK26 => wrl ?_
   iterate 2 refine sdm A λa A↦?_
   refine sdo (v := .int .i64 (((i - 1 : Nat) : Int))) A (qf rfl rfl (ar_sub ((in_i64 (by omega) (by omega)).trans (by omega)))) λa A↦?_
   rcases tf (decide (((k : Nat) : Int) < ((i - 1 : Nat) : Int))) with hb27 | hb27
   ·
    have hb27' := of_decide_eq_true hb27
    refine sdc A qm hb27 λa A↦?_
    refine qa (hK26 _ _ (wp_cond_true (A.ev rfl) ?_))
    refine wp_skip (hK25 _ _ (wsk fun K28 hK28 => wp_block (js (S := fun w1 => Mg w0 w1 ([])) (by kernel_rfl) ?_)))
    replace M := M.drew
    refine qe A 0 rfl rfl rfl rfl hP (M.sub (cn (List.nil_sublist _))) (fun w1 M => qh rfl) λa A↦?_
    refine qe A 1 rfl rfl rfl rfl hP (M.sub (cn (List.nil_sublist _))) (fun w1 M => qh rfl) λa A↦?_
    refine qe A 2 rfl rfl rfl rfl hP (M.sub (cn (List.nil_sublist _))) (fun w1 M => qh rfl) λa A↦?_
    refine qe A 3 rfl rfl rfl rfl hP (M.sub (cn (List.nil_sublist _))) (fun w1 M => qh rfl) λa A↦?_
    refine qe (v := .int .i64 (((k + 1 : Nat) : Int))) A 4 rfl rfl rfl rfl hP (M.sub (cn (List.nil_sublist _))) (fun w1 M => qf rfl rfl (ar_add ((in_i64 (by omega) (by omega)).trans (by omega)))) λa A↦?_
    refine qe A 5 rfl rfl rfl rfl hP (M.sub (cn (List.nil_sublist _))) (fun w1 M => qh rfl) λa A↦?_
    refine qe A 6 rfl rfl rfl rfl hP (M.sub (cn (List.nil_sublist _))) (fun w1 M => qh rfl) λa A↦?_
    refine qe (v := .int .i64 (((k + 1 : Nat) : Int))) A 7 rfl rfl rfl rfl hP (M.sub (cn (List.nil_sublist _))) (fun w1 M => qf rfl rfl (ar_add ((in_i64 (by omega) (by omega)).trans (by omega)))) λa A↦?_
    refine qe (v := .pointer (some ⟨g9, (k + 1) * 11, none⟩)) A 8 rfl rfl rfl rfl hP (M.sub (cn (List.nil_sublist _))) (fun w1 M => qj (k := (k + 1)) Tryz.underlying22 (by kernel_rfl) rfl rfl rfl (by omega)) λa A↦?_
    refine qe A 10 rfl rfl rfl rfl hP (M.sub (cn (List.nil_sublist _))) (fun w1 M => qh rfl) λa A↦?_
    refine qe A 11 rfl rfl rfl rfl hP (M.sub (cn (List.nil_sublist _))) (fun w1 M => qh rfl) λa A↦?_
    refine qe (v := .pointer (some ⟨g9, k * 11, none⟩)) A 12 rfl rfl rfl rfl hP (M.sub (cn (List.nil_sublist _))) (fun w1 M => qj (k := k) Tryz.underlying22 (by kernel_rfl) rfl rfl rfl (by omega)) λa A↦?_
    refine vz (rs := [9, 13]) (by kernel_rfl) (by simp) ⟨?_, ?_, trivial⟩
    ·
     obtain ⟨e29, he29⟩ : ∃ z, xs[(k + 1)]? = some z := ⟨_, List.getElem?_eq_getElem (by omega)⟩
     refine jz A 9 rfl rfl rfl rfl (zf (o := (k + 1) * 11) (cs := e29.d.cells e29.ts.length) M 0 rfl LiU_isS_30 (qr he29) rfl rfl) (M.sub (cn (List.nil_sublist _))) λa A↦?_
     obtain ⟨e30, he30⟩ : ∃ z, xs[k]? = some z := ⟨_, List.getElem?_eq_getElem (by omega)⟩
     refine qs (by kernel_rfl) (jz A 13 rfl rfl rfl rfl (zf (o := k * 11) (cs := e30.d.cells e30.ts.length) M 0 rfl LiU_isS_30 (qr he30) rfl rfl) (M.sub (cn (List.nil_sublist _))) ?_)
     intro a A
     refine qe (v := .pointer (some ⟨g9, k * 11, none⟩)) A 14 rfl rfl rfl rfl hP (M.sub (cn (List.nil_sublist _))) (fun w1 M => qj (k := k) Tryz.underlying22 (by kernel_rfl) rfl rfl rfl (by omega)) λa A↦?_
     refine qs (by kernel_rfl) (zn (us := qb (xs.set k e29)) (L' := (.row 30 11 (.slice (some ⟨g9, 0, none⟩) n9 c9) n9 (qb (xs.set k e29)) :: T)) A M 15 rfl rfl rfl (zx (cs := e29.d.cells e29.ts.length) rfl rfl rfl (by kernel_rfl) M 0 rfl (by show _ + 11 ≤ _; omega) (zh e29)) 0 rfl (zy (by omega) rfl) rfl ?_)
     intro w31 M
     refine ⟨(M.sub (cn (List.nil_sublist _))), ?_⟩
     refine qe (v := .pointer (some ⟨g9, (k + 1) * 11, none⟩)) A 16 rfl rfl rfl rfl hP (M.sub (cn (List.nil_sublist _))) (fun w1 M => qj (k := (k + 1)) Tryz.underlying22 (by kernel_rfl) rfl rfl rfl (by omega)) λa A↦?_
     refine qs (by kernel_rfl) (zn (us := qb ((xs.set k e29).set (k + 1) e30)) (L' := (.row 30 11 (.slice (some ⟨g9, 0, none⟩) n9 c9) n9 (qb ((xs.set k e29).set (k + 1) e30)) :: T)) A M 17 rfl rfl rfl (zx (cs := e30.d.cells e30.ts.length) rfl rfl rfl (by kernel_rfl) M 0 rfl (by show _ + 11 ≤ _; omega) (zh e30)) 0 rfl (zy (by rw [List.length_set]; omega) rfl) rfl ?_)
     intro w32 M
     rw [vx he30 he29] at M
     refine ⟨(M.sub (cn (List.nil_sublist _))), ?_⟩
     refine zu (by kernel_rfl) ?_
     refine hK28 _ _ (wrl (sdm A λa A↦?_))
     refine sdo (v := .int .i64 (((k + 1 : Nat) : Int))) A (qf rfl rfl (ar_add ((in_i64 (by omega) (by omega)).trans (by omega)))) λa A↦?_
     refine sda A λa A↦?_
     refine qa ?_
     refine hK23 _ _ _ (by omega) ⟨k + 1, (swp xs k (k + 1)), rfl, ⟨by omega, by omega, by rw [vh]; exact hxl, by rw [← hin, show i - 1 - k = i - 1 - (k + 1) + 1 by omega]; rfl⟩, A.keep _ (by repeat' constructor), M⟩
    ·
     obtain ⟨e33, he33⟩ : ∃ z, xs[k]? = some z := ⟨_, List.getElem?_eq_getElem (by omega)⟩
     refine jz A 13 rfl rfl rfl rfl (zf (o := k * 11) (cs := e33.d.cells e33.ts.length) M 0 rfl LiU_isS_30 (qr he33) rfl rfl) (M.sub (cn (List.nil_sublist _))) λa A↦?_
     obtain ⟨e34, he34⟩ : ∃ z, xs[(k + 1)]? = some z := ⟨_, List.getElem?_eq_getElem (by omega)⟩
     refine qs (by kernel_rfl) (jz A 9 rfl rfl rfl rfl (zf (o := (k + 1) * 11) (cs := e34.d.cells e34.ts.length) M 0 rfl LiU_isS_30 (qr he34) rfl rfl) (M.sub (cn (List.nil_sublist _))) ?_)
     intro a A
     refine qe (v := .pointer (some ⟨g9, k * 11, none⟩)) A 14 rfl rfl rfl rfl hP (M.sub (cn (List.nil_sublist _))) (fun w1 M => qj (k := k) Tryz.underlying22 (by kernel_rfl) rfl rfl rfl (by omega)) λa A↦?_
     refine qs (by kernel_rfl) (zn (us := qb (xs.set k e34)) (L' := (.row 30 11 (.slice (some ⟨g9, 0, none⟩) n9 c9) n9 (qb (xs.set k e34)) :: T)) A M 15 rfl rfl rfl (zx (cs := e34.d.cells e34.ts.length) rfl rfl rfl (by kernel_rfl) M 0 rfl (by show _ + 11 ≤ _; omega) (zh e34)) 0 rfl (zy (by omega) rfl) rfl ?_)
     intro w35 M
     refine ⟨(M.sub (cn (List.nil_sublist _))), ?_⟩
     refine qe (v := .pointer (some ⟨g9, (k + 1) * 11, none⟩)) A 16 rfl rfl rfl rfl hP (M.sub (cn (List.nil_sublist _))) (fun w1 M => qj (k := (k + 1)) Tryz.underlying22 (by kernel_rfl) rfl rfl rfl (by omega)) λa A↦?_
     refine qs (by kernel_rfl) (zn (us := qb ((xs.set k e34).set (k + 1) e33)) (L' := (.row 30 11 (.slice (some ⟨g9, 0, none⟩) n9 c9) n9 (qb ((xs.set k e34).set (k + 1) e33)) :: T)) A M 17 rfl rfl rfl (zx (cs := e33.d.cells e33.ts.length) rfl rfl rfl (by kernel_rfl) M 0 rfl (by show _ + 11 ≤ _; omega) (zh e33)) 0 rfl (zy (by rw [List.length_set]; omega) rfl) rfl ?_)
     intro w36 M
     rw [vx he33 he34] at M
     refine ⟨(M.sub (cn (List.nil_sublist _))), ?_⟩
     refine zu (by kernel_rfl) ?_
     refine hK28 _ _ (wrl (sdm A λa A↦?_))
     refine sdo (v := .int .i64 (((k + 1 : Nat) : Int))) A (qf rfl rfl (ar_add ((in_i64 (by omega) (by omega)).trans (by omega)))) λa A↦?_
     refine sda A λa A↦?_
     refine qa ?_
     refine hK23 _ _ _ (by omega) ⟨k + 1, (swp xs k (k + 1)), rfl, ⟨by omega, by omega, by rw [vh]; exact hxl, by rw [← hin, show i - 1 - k = i - 1 - (k + 1) + 1 by omega]; rfl⟩, A.keep _ (by repeat' constructor), M⟩
   ·
    have hb27' := of_decide_eq_false hb27
    refine sdc A qm hb27 λa A↦?_
    refine qa (hK26 _ _ (wp_cond_false (A.ev rfl) ?_))
    refine wp_exit (hK20 _ _ (wp_ret (hret _ _ (xf (v := .tuple #[]) A rfl .nil rfl ?_))))
    obtain rfl : i = j := by omega
    rw [show i - 1 - k = 0 by omega] at hin
    replace hin : xs = mvU zs la (i - 1 - la) := hin
    rw [hin, zdf H (by omega) (by omega) (by omega) (by omega) hu2 hil hjr] at M
    exact ⟨rfl, M⟩
 ·
  have hb3' := ne_of_beq_false hb3
  refine sdc A ql hb3 λa A↦?_
  refine qa (hK2 _ _ (wp_cond_false (A.ev rfl) ?_))
  refine wp_skip (hK1 _ _ (wsk fun K37 hK37 => wsk fun K38 hK38 => wrl ?_))
  iterate 2 refine sdm A λa A↦?_
  refine sdo (v := .int .i64 (((lb - lm : Nat) : Int))) A (qf rfl rfl (ar_sub ((in_i64 (by omega) (by omega)).trans (by omega)))) λa A↦?_
  rcases tf ((((lb - lm : Nat) : Int) == 1)) with hb39 | hb39
  ·
   have hb39' := eq_of_beq hb39
   refine sdc A ql hb39 λa A↦?_
   refine qa (hK38 _ _ (wp_cond_true (A.ev rfl) ?_))
   refine wsk fun K40 hK40 => wrl (sdm A λa A↦?_)
   refine sda A λa A↦?_
   refine qa (hK40 _ _ (wsk fun K41 hK41 => wrl (sdm A λa A↦?_)))
   refine sda A λa A↦?_
   refine qa (hK41 _ _ (wsk fun K42 hK42 => wp_block (zk (fun m_ a w1 => ∃ (i : Nat) (j : Nat), m_ = 1 + (j - i) ∧ (la ≤ i ∧ i ≤ j ∧ j ≤ lm ∧ (i = la ∨ ltA (ltC c) zs lm (i - 1) = false) ∧ (j = lm ∨ ltA (ltC c) zs lm j = true)) ∧ Sl a 220 [(0, .slice (some ⟨g9, 0, none⟩) n9 c9), (1, .int .i64 (((la : Nat) : Int))), (2, .int .i64 (((lm : Nat) : Int))), (3, .int .i64 (((lb : Nat) : Int))), (4, .func (.func f) #[] cs.toArray), (14, .int .i64 (((i : Nat) : Int))), (15, .int .i64 (((j : Nat) : Int))), (25, .int .i64 (((lm : Nat) : Int))), (26, .int .i64 (((la : Nat) : Int))), (27, .int .i64 (((lm - la : Nat) : Int))), (28, .bool false), (77, .int .i64 (((lb : Nat) : Int))), (78, .int .i64 (((lm : Nat) : Int))), (79, .int .i64 (((lb - lm : Nat) : Int))), (80, .bool true), (81, .int .i64 (((la : Nat) : Int))), (82, .int .i64 (((lm : Nat) : Int)))] ∧ Mg w0 w1 (.row 30 11 (.slice (some ⟨g9, 0, none⟩) n9 c9) n9 (qb zs) :: T)) _ ⟨la, lm, rfl, ⟨Nat.le_refl _, by omega, Nat.le_refl _, .inl rfl, .inl rfl⟩, A.keep _ (by repeat' constructor), M⟩ ?_)))
   clear M A
   rintro m_ a w43 ⟨i, j, rfl, hinv45, A, M⟩ K44 hK44
   obtain ⟨hi0, hi1, hi2, hil, hjr⟩ := hinv45
   refine wsk fun K46 hK46 => wsk fun K47 hK47 => wrl ?_
   iterate 2 refine sdm A λa A↦?_
   rcases tf (decide (((i : Nat) : Int) < ((j : Nat) : Int))) with hb48 | hb48
   ·
    have hb48' := of_decide_eq_true hb48
    refine sdc A qm hb48 λa A↦?_
    refine qa (hK47 _ _ (wp_cond_true (A.ev rfl) ?_))
    refine wp_skip (hK46 _ _ (wp_block (wsk fun K49 hK49 => wrl ?_)))
    iterate 2 refine sdm A λa A↦?_
    refine sdo (v := .int .i64 (((i + j : Nat) : Int))) A (qf rfl rfl (ar_add ((in_i64 (by omega) (by omega)).trans (by omega)))) λa A↦?_
    refine sdo (v := .int .u64 (((i + j : Nat) : Int))) A (jb rfl (ar_conv Tryz.underlying3 Tryz.underlying113 (qhd (by omega) (by omega)))) λa A↦?_
    refine sdo (v := .int .u64 ((((i + j) / 2 : Nat) : Int))) A (qf rfl rfl (ar_shr (n := 1) rfl rfl (show ((i + j : Nat) : Int) / 2 ^ 1 = (((i + j) / 2 : Nat) : Int) from by rw [show ((2 : Int) ^ 1) = 2 from rfl]; omega))) λa A↦?_
    refine sdo (v := .int .i64 ((((i + j) / 2 : Nat) : Int))) A (jb rfl (ar_conv Tryz.underlying113 Tryz.underlying3 (in_i64 (by omega) (by omega)))) λa A↦?_
    refine sda A λa A↦?_
    refine qa (hK49 _ _ (wsk fun K50 hK50 => js (S := fun w1 => Mg w0 w1 (.row 30 11 (.slice (some ⟨g9, 0, none⟩) n9 c9) n9 (qb zs) :: [])) (by kernel_rfl) ?_))
    replace M := M.drew
    refine qe A 0 rfl rfl rfl rfl hP (M.sub (cc (List.nil_sublist _))) (fun w1 M => qh rfl) λa A↦?_
    refine qe A 1 rfl rfl rfl rfl hP (M.sub (cc (List.nil_sublist _))) (fun w1 M => qh rfl) λa A↦?_
    refine qe A 2 rfl rfl rfl rfl hP (M.sub (cc (List.nil_sublist _))) (fun w1 M => qh rfl) λa A↦?_
    refine qe (v := .pointer (some ⟨g9, lm * 11, none⟩)) A 3 rfl rfl rfl rfl hP (M.sub (cc (List.nil_sublist _))) (fun w1 M => qj (k := lm) Tryz.underlying22 (by kernel_rfl) rfl rfl rfl (by omega)) λa A↦?_
    obtain ⟨e51, he51⟩ : ∃ z, zs[lm]? = some z := ⟨_, List.getElem?_eq_getElem (by omega)⟩
    refine qe A 4 rfl rfl rfl rfl hP (M.sub (cc (List.nil_sublist _))) (fun w1 M => zf (o := lm * 11) (cs := e51.d.cells e51.ts.length) M 0 rfl LiU_isS_30 (qr he51) rfl rfl) λa A↦?_
    refine qe A 5 rfl rfl rfl rfl hP (M.sub (cc (List.nil_sublist _))) (fun w1 M => qh rfl) λa A↦?_
    refine qe A 6 rfl rfl rfl rfl hP (M.sub (cc (List.nil_sublist _))) (fun w1 M => qh rfl) λa A↦?_
    refine qe (v := .pointer (some ⟨g9, ((i + j) / 2) * 11, none⟩)) A 7 rfl rfl rfl rfl hP (M.sub (cc (List.nil_sublist _))) (fun w1 M => qj (k := ((i + j) / 2)) Tryz.underlying22 (by kernel_rfl) rfl rfl rfl (by omega)) λa A↦?_
    obtain ⟨e52, he52⟩ : ∃ z, zs[((i + j) / 2)]? = some z := ⟨_, List.getElem?_eq_getElem (by omega)⟩
    refine qe A 8 rfl rfl rfl rfl hP (M.sub (cc (List.nil_sublist _))) (fun w1 M => zf (o := ((i + j) / 2) * 11) (cs := e52.d.cells e52.ts.length) M 0 rfl LiU_isS_30 (qr he52) rfl rfl) λa A↦?_
    refine qs (by kernel_rfl) (jr A 9 rfl rfl rfl rfl (vj rfl rfl hF.inv) (hF.run e51 e52 _ (hsub _ (List.mem_of_getElem? he51)) (hsub _ (List.mem_of_getElem? he52)) (M.sub (cn (List.Sublist.refl _)))) ?_)
    rintro _ w54 ⟨rfl, hb53⟩
    replace M := M.call hb53
    refine ⟨_, rfl, (M.sub (cc (List.nil_sublist _))), ?_⟩
    intro a A
    rcases tf (decide ((c e51 e52) < 0)) with hb55 | hb55
    ·
     have hb55' := of_decide_eq_true hb55
     refine qe (v := .bool true) A 10 rfl rfl rfl rfl hP (M.sub (cc (List.nil_sublist _))) (fun w1 M => qf rfl rfl (fun w => (qm w).trans (by rw [hb55]))) λa A↦?_
     refine qe (v := .bool false) A 11 rfl rfl rfl rfl hP (M.sub (cc (List.nil_sublist _))) (fun w1 M => zv rfl jg) λa A↦?_
     refine zu (by kernel_rfl) ?_
     refine hK50 _ _ (wp_cond_false (A.ev rfl) ?_)
     refine wrl (sdm A λa A↦?_)
     refine sda A λa A↦?_
     refine qa ?_
     refine hK44 _ _ _ (by omega) ⟨i, (i + j) / 2, rfl, ⟨by omega, by omega, by omega, hil, .inr (kq he51 he52 hb55)⟩, A.keep _ (by repeat' constructor), M⟩
    ·
     have hb55' := of_decide_eq_false hb55
     refine qe (v := .bool false) A 10 rfl rfl rfl rfl hP (M.sub (cc (List.nil_sublist _))) (fun w1 M => qf rfl rfl (fun w => (qm w).trans (by rw [hb55]))) λa A↦?_
     refine qe (v := .bool true) A 11 rfl rfl rfl rfl hP (M.sub (cc (List.nil_sublist _))) (fun w1 M => zv rfl jg) λa A↦?_
     refine zu (by kernel_rfl) ?_
     refine hK50 _ _ (wp_cond_true (A.ev rfl) ?_)
     refine wrl (sdm A λa A↦?_)
     refine sdo (v := .int .i64 (((((i + j) / 2) + 1 : Nat) : Int))) A (qf rfl rfl (ar_add ((in_i64 (by omega) (by omega)).trans (by omega)))) λa A↦?_
     refine sda A λa A↦?_
     refine qa ?_
     refine hK44 _ _ _ (by omega) ⟨(i + j) / 2 + 1, j, rfl, ⟨by omega, by omega, by omega, .inr (by rw [Nat.add_sub_cancel]; exact kq he51 he52 hb55), hjr⟩, A.keep _ (by repeat' constructor), M⟩
   ·
    have hb48' := of_decide_eq_false hb48
    refine sdc A qm hb48 λa A↦?_
    refine qa (hK47 _ _ (wp_cond_false (A.ev rfl) ?_))
    refine wp_exit (hK42 _ _ (wsk fun K56 hK56 => wsk fun K57 hK57 => wrl (sdm A λa A↦?_)))
    refine sda A λa A↦?_
    refine qa (hK57 _ _ (wp_block (zk (fun m_ a w1 => ∃ (k : Nat) (xs : List Dt), m_ = 1 + k ∧ (i ≤ k ∧ k ≤ lm ∧ xs.length = n9 ∧ mvD xs k (k - i) = mvD zs lm (lm - i)) ∧ Sl a 220 [(0, .slice (some ⟨g9, 0, none⟩) n9 c9), (1, .int .i64 (((la : Nat) : Int))), (2, .int .i64 (((lm : Nat) : Int))), (3, .int .i64 (((lb : Nat) : Int))), (4, .func (.func f) #[] cs.toArray), (14, .int .i64 (((i : Nat) : Int))), (15, .int .i64 (((j : Nat) : Int))), (17, .int .i64 (((k : Nat) : Int))), (25, .int .i64 (((lm : Nat) : Int))), (26, .int .i64 (((la : Nat) : Int))), (27, .int .i64 (((lm - la : Nat) : Int))), (28, .bool false), (77, .int .i64 (((lb : Nat) : Int))), (78, .int .i64 (((lm : Nat) : Int))), (79, .int .i64 (((lb - lm : Nat) : Int))), (80, .bool true), (81, .int .i64 (((la : Nat) : Int))), (82, .int .i64 (((lm : Nat) : Int))), (83, .int .i64 (((i : Nat) : Int))), (84, .int .i64 (((j : Nat) : Int))), (85, .bool false), (107, .int .i64 (((lm : Nat) : Int)))] ∧ Mg w0 w1 (.row 30 11 (.slice (some ⟨g9, 0, none⟩) n9 c9) n9 (qb xs) :: T)) _ ⟨lm, zs, rfl, ⟨by omega, Nat.le_refl _, hzl, rfl⟩, A.keep _ (by repeat' constructor), M⟩ ?_)))
    clear M A
    rintro m_ a w58 ⟨k, xs, rfl, hinv60, A, M⟩ K59 hK59
    obtain ⟨hk0, hk1, hxl, hin⟩ := hinv60
    refine wsk fun K61 hK61 => wsk fun K62 hK62 => wrl ?_
    iterate 2 refine sdm A λa A↦?_
    rcases tf (decide (((i : Nat) : Int) < ((k : Nat) : Int))) with hb63 | hb63
    ·
     have hb63' := of_decide_eq_true hb63
     refine sdc A jn hb63 λa A↦?_
     refine qa (hK62 _ _ (wp_cond_true (A.ev rfl) ?_))
     refine wp_skip (hK61 _ _ (wsk fun K64 hK64 => wp_block (js (S := fun w1 => Mg w0 w1 ([])) (by kernel_rfl) ?_)))
     replace M := M.drew
     refine qe A 0 rfl rfl rfl rfl hP (M.sub (cn (List.nil_sublist _))) (fun w1 M => qh rfl) λa A↦?_
     refine qe A 1 rfl rfl rfl rfl hP (M.sub (cn (List.nil_sublist _))) (fun w1 M => qh rfl) λa A↦?_
     refine qe A 2 rfl rfl rfl rfl hP (M.sub (cn (List.nil_sublist _))) (fun w1 M => qh rfl) λa A↦?_
     refine qe A 3 rfl rfl rfl rfl hP (M.sub (cn (List.nil_sublist _))) (fun w1 M => qh rfl) λa A↦?_
     refine qe (v := .int .i64 (((k - 1 : Nat) : Int))) A 4 rfl rfl rfl rfl hP (M.sub (cn (List.nil_sublist _))) (fun w1 M => qf rfl rfl (ar_sub ((in_i64 (by omega) (by omega)).trans (by omega)))) λa A↦?_
     refine qe A 5 rfl rfl rfl rfl hP (M.sub (cn (List.nil_sublist _))) (fun w1 M => qh rfl) λa A↦?_
     refine qe A 6 rfl rfl rfl rfl hP (M.sub (cn (List.nil_sublist _))) (fun w1 M => qh rfl) λa A↦?_
     refine qe (v := .int .i64 (((k - 1 : Nat) : Int))) A 7 rfl rfl rfl rfl hP (M.sub (cn (List.nil_sublist _))) (fun w1 M => qf rfl rfl (ar_sub ((in_i64 (by omega) (by omega)).trans (by omega)))) λa A↦?_
     refine qe (v := .pointer (some ⟨g9, (k - 1) * 11, none⟩)) A 8 rfl rfl rfl rfl hP (M.sub (cn (List.nil_sublist _))) (fun w1 M => qj (k := (k - 1)) Tryz.underlying22 (by kernel_rfl) rfl rfl rfl (by omega)) λa A↦?_
     refine qe A 10 rfl rfl rfl rfl hP (M.sub (cn (List.nil_sublist _))) (fun w1 M => qh rfl) λa A↦?_
     refine qe A 11 rfl rfl rfl rfl hP (M.sub (cn (List.nil_sublist _))) (fun w1 M => qh rfl) λa A↦?_
     refine qe (v := .pointer (some ⟨g9, k * 11, none⟩)) A 12 rfl rfl rfl rfl hP (M.sub (cn (List.nil_sublist _))) (fun w1 M => qj (k := k) Tryz.underlying22 (by kernel_rfl) rfl rfl rfl (by omega)) λa A↦?_
     refine vz (rs := [9, 13]) (by kernel_rfl) (by simp) ⟨?_, ?_, trivial⟩
     ·
      obtain ⟨e65, he65⟩ : ∃ z, xs[(k - 1)]? = some z := ⟨_, List.getElem?_eq_getElem (by omega)⟩
      refine jz A 9 rfl rfl rfl rfl (zf (o := (k - 1) * 11) (cs := e65.d.cells e65.ts.length) M 0 rfl LiU_isS_30 (qr he65) rfl rfl) (M.sub (cn (List.nil_sublist _))) λa A↦?_
      obtain ⟨e66, he66⟩ : ∃ z, xs[k]? = some z := ⟨_, List.getElem?_eq_getElem (by omega)⟩
      refine qs (by kernel_rfl) (jz A 13 rfl rfl rfl rfl (zf (o := k * 11) (cs := e66.d.cells e66.ts.length) M 0 rfl LiU_isS_30 (qr he66) rfl rfl) (M.sub (cn (List.nil_sublist _))) ?_)
      intro a A
      refine qe (v := .pointer (some ⟨g9, k * 11, none⟩)) A 14 rfl rfl rfl rfl hP (M.sub (cn (List.nil_sublist _))) (fun w1 M => qj (k := k) Tryz.underlying22 (by kernel_rfl) rfl rfl rfl (by omega)) λa A↦?_
      refine qs (by kernel_rfl) (zn (us := qb (xs.set k e65)) (L' := (.row 30 11 (.slice (some ⟨g9, 0, none⟩) n9 c9) n9 (qb (xs.set k e65)) :: T)) A M 15 rfl rfl rfl (zx (cs := e65.d.cells e65.ts.length) rfl rfl rfl (by kernel_rfl) M 0 rfl (by show _ + 11 ≤ _; omega) (zh e65)) 0 rfl (zy (by omega) rfl) rfl ?_)
      intro w67 M
      refine ⟨(M.sub (cn (List.nil_sublist _))), ?_⟩
      refine qe (v := .pointer (some ⟨g9, (k - 1) * 11, none⟩)) A 16 rfl rfl rfl rfl hP (M.sub (cn (List.nil_sublist _))) (fun w1 M => qj (k := (k - 1)) Tryz.underlying22 (by kernel_rfl) rfl rfl rfl (by omega)) λa A↦?_
      refine qs (by kernel_rfl) (zn (us := qb ((xs.set k e65).set (k - 1) e66)) (L' := (.row 30 11 (.slice (some ⟨g9, 0, none⟩) n9 c9) n9 (qb ((xs.set k e65).set (k - 1) e66)) :: T)) A M 17 rfl rfl rfl (zx (cs := e66.d.cells e66.ts.length) rfl rfl rfl (by kernel_rfl) M 0 rfl (by show _ + 11 ≤ _; omega) (zh e66)) 0 rfl (zy (by rw [List.length_set]; omega) rfl) rfl ?_)
      intro w68 M
      rw [vx he66 he65] at M
      refine ⟨(M.sub (cn (List.nil_sublist _))), ?_⟩
      refine zu (by kernel_rfl) ?_
      refine hK64 _ _ (wrl (sdm A λa A↦?_))
      refine sdo (v := .int .i64 (((k - 1 : Nat) : Int))) A (qf rfl rfl (ar_sub ((in_i64 (by omega) (by omega)).trans (by omega)))) λa A↦?_
      refine sda A λa A↦?_
      refine qa ?_
      refine hK59 _ _ _ (by omega) ⟨k - 1, (swp xs k (k - 1)), rfl, ⟨by omega, by omega, by rw [vh]; exact hxl, by rw [← hin, show k - i = k - 1 - i + 1 by omega]; rfl⟩, A.keep _ (by repeat' constructor), M⟩
     ·
      obtain ⟨e69, he69⟩ : ∃ z, xs[k]? = some z := ⟨_, List.getElem?_eq_getElem (by omega)⟩
      refine jz A 13 rfl rfl rfl rfl (zf (o := k * 11) (cs := e69.d.cells e69.ts.length) M 0 rfl LiU_isS_30 (qr he69) rfl rfl) (M.sub (cn (List.nil_sublist _))) λa A↦?_
      obtain ⟨e70, he70⟩ : ∃ z, xs[(k - 1)]? = some z := ⟨_, List.getElem?_eq_getElem (by omega)⟩
      refine qs (by kernel_rfl) (jz A 9 rfl rfl rfl rfl (zf (o := (k - 1) * 11) (cs := e70.d.cells e70.ts.length) M 0 rfl LiU_isS_30 (qr he70) rfl rfl) (M.sub (cn (List.nil_sublist _))) ?_)
      intro a A
      refine qe (v := .pointer (some ⟨g9, k * 11, none⟩)) A 14 rfl rfl rfl rfl hP (M.sub (cn (List.nil_sublist _))) (fun w1 M => qj (k := k) Tryz.underlying22 (by kernel_rfl) rfl rfl rfl (by omega)) λa A↦?_
      refine qs (by kernel_rfl) (zn (us := qb (xs.set k e70)) (L' := (.row 30 11 (.slice (some ⟨g9, 0, none⟩) n9 c9) n9 (qb (xs.set k e70)) :: T)) A M 15 rfl rfl rfl (zx (cs := e70.d.cells e70.ts.length) rfl rfl rfl (by kernel_rfl) M 0 rfl (by show _ + 11 ≤ _; omega) (zh e70)) 0 rfl (zy (by omega) rfl) rfl ?_)
      intro w71 M
      refine ⟨(M.sub (cn (List.nil_sublist _))), ?_⟩
      refine qe (v := .pointer (some ⟨g9, (k - 1) * 11, none⟩)) A 16 rfl rfl rfl rfl hP (M.sub (cn (List.nil_sublist _))) (fun w1 M => qj (k := (k - 1)) Tryz.underlying22 (by kernel_rfl) rfl rfl rfl (by omega)) λa A↦?_
      refine qs (by kernel_rfl) (zn (us := qb ((xs.set k e70).set (k - 1) e69)) (L' := (.row 30 11 (.slice (some ⟨g9, 0, none⟩) n9 c9) n9 (qb ((xs.set k e70).set (k - 1) e69)) :: T)) A M 17 rfl rfl rfl (zx (cs := e69.d.cells e69.ts.length) rfl rfl rfl (by kernel_rfl) M 0 rfl (by show _ + 11 ≤ _; omega) (zh e69)) 0 rfl (zy (by rw [List.length_set]; omega) rfl) rfl ?_)
      intro w72 M
      rw [vx he69 he70] at M
      refine ⟨(M.sub (cn (List.nil_sublist _))), ?_⟩
      refine zu (by kernel_rfl) ?_
      refine hK64 _ _ (wrl (sdm A λa A↦?_))
      refine sdo (v := .int .i64 (((k - 1 : Nat) : Int))) A (qf rfl rfl (ar_sub ((in_i64 (by omega) (by omega)).trans (by omega)))) λa A↦?_
      refine sda A λa A↦?_
      refine qa ?_
      refine hK59 _ _ _ (by omega) ⟨k - 1, (swp xs k (k - 1)), rfl, ⟨by omega, by omega, by rw [vh]; exact hxl, by rw [← hin, show k - i = k - 1 - i + 1 by omega]; rfl⟩, A.keep _ (by repeat' constructor), M⟩
    ·
     have hb63' := of_decide_eq_false hb63
     refine sdc A jn hb63 λa A↦?_
     refine qa (hK62 _ _ (wp_cond_false (A.ev rfl) ?_))
     refine wp_exit (hK56 _ _ (wp_ret (hret _ _ (xf (v := .tuple #[]) A rfl .nil rfl ?_))))
     obtain rfl : i = j := by omega
     rw [show k - i = 0 by omega] at hin
     replace hin : xs = mvD zs lm (lm - i) := hin
     have h9 : mvD zs lm (lm - i) = mg (ltC c) zs la lm lb := zdg H (by omega) (by omega) (by omega) (by omega) hu1 hil hjr
     rw [hin, h9] at M
     exact ⟨rfl, M⟩
  ·
   have hb39' := ne_of_beq_false hb39
   refine sdc A ql hb39 λa A↦?_
   refine qa (hK38 _ _ (wp_cond_false (A.ev rfl) ?_))
   refine wp_skip (hK37 _ _ (wsk fun K73 hK73 => wrl ?_))
   iterate 2 refine sdm A λa A↦?_
   refine sdo (v := .int .i64 (((la + lb : Nat) : Int))) A (qf rfl rfl (ar_add ((in_i64 (by omega) (by omega)).trans (by omega)))) λa A↦?_
   refine sdo (v := .int .u64 (((la + lb : Nat) : Int))) A (jb rfl (ar_conv Tryz.underlying3 Tryz.underlying113 (qhd (by omega) (by omega)))) λa A↦?_
   refine sdo (v := .int .u64 ((((la + lb) / 2 : Nat) : Int))) A (qf rfl rfl (ar_shr (n := 1) rfl rfl (show ((la + lb : Nat) : Int) / 2 ^ 1 = (((la + lb) / 2 : Nat) : Int) from by rw [show ((2 : Int) ^ 1) = 2 from rfl]; omega))) λa A↦?_
   refine sdo (v := .int .i64 ((((la + lb) / 2 : Nat) : Int))) A (jb rfl (ar_conv Tryz.underlying113 Tryz.underlying3 (in_i64 (by omega) (by omega)))) λa A↦?_
   refine sda A λa A↦?_
   refine qa (hK73 _ _ (wsk fun K74 hK74 => wrl ?_))
   iterate 2 refine sdm A λa A↦?_
   refine sdo (v := .int .i64 (((((la + lb) / 2) + lm : Nat) : Int))) A (qf rfl rfl (ar_add ((in_i64 (by omega) (by omega)).trans (by omega)))) λa A↦?_
   refine sda A λa A↦?_
   refine qa (hK74 _ _ (wsk fun K75 hK75 => wrl ?_))
   iterate 2 refine sda A λa A↦?_
   refine qa (hK75 _ _ (wsk fun K76 hK76 => ?_))
   have hJ77 : ∀ a w1, (∃ (i3 : Nat) (j3 : Nat), (la ≤ i3 ∧ i3 ≤ j3 ∧ j3 ≤ lm ∧ j3 ≤ ((la + lb) / 2) ∧ (((la + lb) / 2) + lm) ≤ i3 + lb ∧ (i3 = la ∨ (((la + lb) / 2) + lm) - i3 = lb) ∧ (j3 = lm ∨ (((la + lb) / 2) + lm) - j3 = lm)) ∧ Sl a 220 [(0, .slice (some ⟨g9, 0, none⟩) n9 c9), (1, .int .i64 (((la : Nat) : Int))), (2, .int .i64 (((lm : Nat) : Int))), (3, .int .i64 (((lb : Nat) : Int))), (4, .func (.func f) #[] cs.toArray), (18, .int .i64 ((((la + lb) / 2 : Nat) : Int))), (19, .int .i64 (((((la + lb) / 2) + lm : Nat) : Int))), (20, .int .i64 (((i3 : Nat) : Int))), (21, .int .i64 (((j3 : Nat) : Int))), (25, .int .i64 (((lm : Nat) : Int))), (26, .int .i64 (((la : Nat) : Int))), (27, .int .i64 (((lm - la : Nat) : Int))), (28, .bool false), (77, .int .i64 (((lb : Nat) : Int))), (78, .int .i64 (((lm : Nat) : Int))), (79, .int .i64 (((lb - lm : Nat) : Int))), (80, .bool false), (129, .int .i64 (((la : Nat) : Int))), (130, .int .i64 (((lb : Nat) : Int))), (131, .int .i64 (((la + lb : Nat) : Int))), (132, .int .u64 (((la + lb : Nat) : Int))), (133, .int .u64 ((((la + lb) / 2 : Nat) : Int))), (134, .int .i64 ((((la + lb) / 2 : Nat) : Int))), (135, .int .i64 ((((la + lb) / 2 : Nat) : Int))), (136, .int .i64 (((lm : Nat) : Int))), (137, .int .i64 (((((la + lb) / 2) + lm : Nat) : Int)))] ∧ Mg w0 w1 (.row 30 11 (.slice (some ⟨g9, 0, none⟩) n9 c9) n9 (qb zs) :: T)) → K76 a w1 := by
    clear A M
    rintro a w78 ⟨i3, j3, hf79, A, M⟩
    obtain ⟨q1, q2, q3, q4, q5, q6, q7⟩ := hf79
    refine hK76 _ _ (wsk fun K80 hK80 => wrl (sdm A λa A↦?_))
    refine sdo (v := .int .i64 ((((((la + lb) / 2) + lm) - 1 : Nat) : Int))) A (qf rfl rfl (ar_sub ((in_i64 (by omega) (by omega)).trans (by omega)))) λa A↦?_
    refine sda A λa A↦?_
    refine qa (hK80 _ _ (wsk fun K81 hK81 => wp_block (zk (fun m_ a w1 => ∃ (i : Nat) (j : Nat), m_ = 1 + (j - i) ∧ (i3 ≤ i ∧ i ≤ j ∧ j ≤ j3 ∧ (i = la ∨ (((la + lb) / 2) + lm) - i = lb ∨ ltA (ltC c) zs ((((la + lb) / 2) + lm) - i) (i - 1) = false) ∧ (j = lm ∨ (((la + lb) / 2) + lm) - j = lm ∨ ltA (ltC c) zs ((((la + lb) / 2) + lm) - j - 1) j = true)) ∧ Sl a 220 [(0, .slice (some ⟨g9, 0, none⟩) n9 c9), (1, .int .i64 (((la : Nat) : Int))), (2, .int .i64 (((lm : Nat) : Int))), (3, .int .i64 (((lb : Nat) : Int))), (4, .func (.func f) #[] cs.toArray), (18, .int .i64 ((((la + lb) / 2 : Nat) : Int))), (19, .int .i64 (((((la + lb) / 2) + lm : Nat) : Int))), (20, .int .i64 (((i : Nat) : Int))), (21, .int .i64 (((j : Nat) : Int))), (22, .int .i64 ((((((la + lb) / 2) + lm) - 1 : Nat) : Int))), (25, .int .i64 (((lm : Nat) : Int))), (26, .int .i64 (((la : Nat) : Int))), (27, .int .i64 (((lm - la : Nat) : Int))), (28, .bool false), (77, .int .i64 (((lb : Nat) : Int))), (78, .int .i64 (((lm : Nat) : Int))), (79, .int .i64 (((lb - lm : Nat) : Int))), (80, .bool false), (129, .int .i64 (((la : Nat) : Int))), (130, .int .i64 (((lb : Nat) : Int))), (131, .int .i64 (((la + lb : Nat) : Int))), (132, .int .u64 (((la + lb : Nat) : Int))), (133, .int .u64 ((((la + lb) / 2 : Nat) : Int))), (134, .int .i64 ((((la + lb) / 2 : Nat) : Int))), (135, .int .i64 ((((la + lb) / 2 : Nat) : Int))), (136, .int .i64 (((lm : Nat) : Int))), (137, .int .i64 (((((la + lb) / 2) + lm : Nat) : Int))), (147, .int .i64 (((((la + lb) / 2) + lm : Nat) : Int))), (148, .int .i64 ((((((la + lb) / 2) + lm) - 1 : Nat) : Int)))] ∧ Mg w0 w1 (.row 30 11 (.slice (some ⟨g9, 0, none⟩) n9 c9) n9 (qb zs) :: T)) _ ⟨i3, j3, rfl, ⟨Nat.le_refl _, q2, Nat.le_refl _, q6.elim .inl fun h => .inr (.inl h), q7.elim .inl fun h => .inr (.inl h)⟩, A.keep _ (by repeat' constructor), M⟩ ?_)))
    clear M A
    rintro m_ a w82 ⟨i, j, rfl, hinv84, A, M⟩ K83 hK83
    obtain ⟨hi0, hi1, hi2, hil, hjr⟩ := hinv84
    refine wsk fun K85 hK85 => wsk fun K86 hK86 => wrl ?_
    iterate 2 refine sdm A λa A↦?_
    rcases tf (decide (((i : Nat) : Int) < ((j : Nat) : Int))) with hb87 | hb87
    ·
     have hb87' := of_decide_eq_true hb87
     refine sdc A qm hb87 λa A↦?_
     refine qa (hK86 _ _ (wp_cond_true (A.ev rfl) ?_))
     refine wp_skip (hK85 _ _ (wp_block (wsk fun K88 hK88 => wrl ?_)))
     iterate 2 refine sdm A λa A↦?_
     refine sdo (v := .int .i64 (((i + j : Nat) : Int))) A (qf rfl rfl (ar_add ((in_i64 (by omega) (by omega)).trans (by omega)))) λa A↦?_
     refine sdo (v := .int .u64 (((i + j : Nat) : Int))) A (jb rfl (ar_conv Tryz.underlying3 Tryz.underlying113 (qhd (by omega) (by omega)))) λa A↦?_
     refine sdo (v := .int .u64 ((((i + j) / 2 : Nat) : Int))) A (qf rfl rfl (ar_shr (n := 1) rfl rfl (show ((i + j : Nat) : Int) / 2 ^ 1 = (((i + j) / 2 : Nat) : Int) from by rw [show ((2 : Int) ^ 1) = 2 from rfl]; omega))) λa A↦?_
     refine sdo (v := .int .i64 ((((i + j) / 2 : Nat) : Int))) A (jb rfl (ar_conv Tryz.underlying113 Tryz.underlying3 (in_i64 (by omega) (by omega)))) λa A↦?_
     refine sda A λa A↦?_
     refine qa (hK88 _ _ (wsk fun K89 hK89 => js (S := fun w1 => Mg w0 w1 (.row 30 11 (.slice (some ⟨g9, 0, none⟩) n9 c9) n9 (qb zs) :: [])) (by kernel_rfl) ?_))
     replace M := M.drew
     refine qe A 0 rfl rfl rfl rfl hP (M.sub (cc (List.nil_sublist _))) (fun w1 M => qh rfl) λa A↦?_
     refine qe A 1 rfl rfl rfl rfl hP (M.sub (cc (List.nil_sublist _))) (fun w1 M => qh rfl) λa A↦?_
     refine qe A 2 rfl rfl rfl rfl hP (M.sub (cc (List.nil_sublist _))) (fun w1 M => qh rfl) λa A↦?_
     refine qe A 3 rfl rfl rfl rfl hP (M.sub (cc (List.nil_sublist _))) (fun w1 M => qh rfl) λa A↦?_
     refine qe (v := .int .i64 (((((((la + lb) / 2) + lm) - 1) - ((i + j) / 2) : Nat) : Int))) A 4 rfl rfl rfl rfl hP (M.sub (cc (List.nil_sublist _))) (fun w1 M => qf rfl rfl (ar_sub ((in_i64 (by omega) (by omega)).trans (by omega)))) λa A↦?_
     refine qe (v := .pointer (some ⟨g9, (((((la + lb) / 2) + lm) - 1) - ((i + j) / 2)) * 11, none⟩)) A 5 rfl rfl rfl rfl hP (M.sub (cc (List.nil_sublist _))) (fun w1 M => qj (k := (((((la + lb) / 2) + lm) - 1) - ((i + j) / 2))) Tryz.underlying22 (by kernel_rfl) rfl rfl rfl (by omega)) λa A↦?_
     obtain ⟨e90, he90⟩ : ∃ z, zs[(((((la + lb) / 2) + lm) - 1) - ((i + j) / 2))]? = some z := ⟨_, List.getElem?_eq_getElem (by omega)⟩
     refine qe A 6 rfl rfl rfl rfl hP (M.sub (cc (List.nil_sublist _))) (fun w1 M => zf (o := (((((la + lb) / 2) + lm) - 1) - ((i + j) / 2)) * 11) (cs := e90.d.cells e90.ts.length) M 0 rfl LiU_isS_30 (qr he90) rfl rfl) λa A↦?_
     refine qe A 7 rfl rfl rfl rfl hP (M.sub (cc (List.nil_sublist _))) (fun w1 M => qh rfl) λa A↦?_
     refine qe A 8 rfl rfl rfl rfl hP (M.sub (cc (List.nil_sublist _))) (fun w1 M => qh rfl) λa A↦?_
     refine qe (v := .pointer (some ⟨g9, ((i + j) / 2) * 11, none⟩)) A 9 rfl rfl rfl rfl hP (M.sub (cc (List.nil_sublist _))) (fun w1 M => qj (k := ((i + j) / 2)) Tryz.underlying22 (by kernel_rfl) rfl rfl rfl (by omega)) λa A↦?_
     obtain ⟨e91, he91⟩ : ∃ z, zs[((i + j) / 2)]? = some z := ⟨_, List.getElem?_eq_getElem (by omega)⟩
     refine qe A 10 rfl rfl rfl rfl hP (M.sub (cc (List.nil_sublist _))) (fun w1 M => zf (o := ((i + j) / 2) * 11) (cs := e91.d.cells e91.ts.length) M 0 rfl LiU_isS_30 (qr he91) rfl rfl) λa A↦?_
     refine qs (by kernel_rfl) (jr A 11 rfl rfl rfl rfl (vj rfl rfl hF.inv) (hF.run e90 e91 _ (hsub _ (List.mem_of_getElem? he90)) (hsub _ (List.mem_of_getElem? he91)) (M.sub (cn (List.Sublist.refl _)))) ?_)
     rintro _ w93 ⟨rfl, hb92⟩
     replace M := M.call hb92
     refine ⟨_, rfl, (M.sub (cc (List.nil_sublist _))), ?_⟩
     intro a A
     rcases tf (decide ((c e90 e91) < 0)) with hb94 | hb94
     ·
      have hb94' := of_decide_eq_true hb94
      refine qe (v := .bool true) A 12 rfl rfl rfl rfl hP (M.sub (cc (List.nil_sublist _))) (fun w1 M => qf rfl rfl (fun w => (qm w).trans (by rw [hb94]))) λa A↦?_
      refine qe (v := .bool false) A 13 rfl rfl rfl rfl hP (M.sub (cc (List.nil_sublist _))) (fun w1 M => zv rfl jg) λa A↦?_
      refine zu (by kernel_rfl) ?_
      refine hK89 _ _ (wp_cond_false (A.ev rfl) ?_)
      refine wrl (sdm A λa A↦?_)
      refine sda A λa A↦?_
      refine qa ?_
      refine hK83 _ _ _ (by omega) ⟨i, (i + j) / 2, rfl, ⟨by omega, by omega, by omega, hil, .inr (.inr (by rw [show (((la + lb) / 2) + lm) - (i + j) / 2 - 1 = (((la + lb) / 2) + lm) - 1 - (i + j) / 2 by omega]; exact kq he90 he91 hb94))⟩, A.keep _ (by repeat' constructor), M⟩
     ·
      have hb94' := of_decide_eq_false hb94
      refine qe (v := .bool false) A 12 rfl rfl rfl rfl hP (M.sub (cc (List.nil_sublist _))) (fun w1 M => qf rfl rfl (fun w => (qm w).trans (by rw [hb94]))) λa A↦?_
      refine qe (v := .bool true) A 13 rfl rfl rfl rfl hP (M.sub (cc (List.nil_sublist _))) (fun w1 M => zv rfl jg) λa A↦?_
      refine zu (by kernel_rfl) ?_
      refine hK89 _ _ (wp_cond_true (A.ev rfl) ?_)
      refine wrl (sdm A λa A↦?_)
      refine sdo (v := .int .i64 (((((i + j) / 2) + 1 : Nat) : Int))) A (qf rfl rfl (ar_add ((in_i64 (by omega) (by omega)).trans (by omega)))) λa A↦?_
      refine sda A λa A↦?_
      refine qa ?_
      refine hK83 _ _ _ (by omega) ⟨(i + j) / 2 + 1, j, rfl, ⟨by omega, by omega, by omega, .inr (.inr (by rw [show (((la + lb) / 2) + lm) - ((i + j) / 2 + 1) = (((la + lb) / 2) + lm) - 1 - (i + j) / 2 by omega, Nat.add_sub_cancel]; exact kq he90 he91 hb94)), hjr⟩, A.keep _ (by repeat' constructor), M⟩
    ·
     have hb87' := of_decide_eq_false hb87
     refine sdc A qm hb87 λa A↦?_
     refine qa (hK86 _ _ (wp_cond_false (A.ev rfl) ?_))
     refine wp_exit (hK81 _ _ (wsk fun K95 hK95 => wrl ?_))
     iterate 2 refine sdm A λa A↦?_
     refine sdo (v := .int .i64 ((((((la + lb) / 2) + lm) - i : Nat) : Int))) A (qf rfl rfl (ar_sub ((in_i64 (by omega) (by omega)).trans (by omega)))) λa A↦?_
     refine sda A λa A↦?_
     refine qa (hK95 _ _ (wsk fun K96 hK96 => ?_))
     have hJ97 : ∀ a w1, (∃ (xs : List Dt), (xs = rot zs i lm ((((la + lb) / 2) + lm) - i)) ∧ Sl a 220 [(0, .slice (some ⟨g9, 0, none⟩) n9 c9), (1, .int .i64 (((la : Nat) : Int))), (2, .int .i64 (((lm : Nat) : Int))), (3, .int .i64 (((lb : Nat) : Int))), (4, .func (.func f) #[] cs.toArray), (18, .int .i64 ((((la + lb) / 2 : Nat) : Int))), (19, .int .i64 (((((la + lb) / 2) + lm : Nat) : Int))), (20, .int .i64 (((i : Nat) : Int))), (21, .int .i64 (((j : Nat) : Int))), (22, .int .i64 ((((((la + lb) / 2) + lm) - 1 : Nat) : Int))), (24, .int .i64 ((((((la + lb) / 2) + lm) - i : Nat) : Int))), (25, .int .i64 (((lm : Nat) : Int))), (26, .int .i64 (((la : Nat) : Int))), (27, .int .i64 (((lm - la : Nat) : Int))), (28, .bool false), (77, .int .i64 (((lb : Nat) : Int))), (78, .int .i64 (((lm : Nat) : Int))), (79, .int .i64 (((lb - lm : Nat) : Int))), (80, .bool false), (129, .int .i64 (((la : Nat) : Int))), (130, .int .i64 (((lb : Nat) : Int))), (131, .int .i64 (((la + lb : Nat) : Int))), (132, .int .u64 (((la + lb : Nat) : Int))), (133, .int .u64 ((((la + lb) / 2 : Nat) : Int))), (134, .int .i64 ((((la + lb) / 2 : Nat) : Int))), (135, .int .i64 ((((la + lb) / 2 : Nat) : Int))), (136, .int .i64 (((lm : Nat) : Int))), (137, .int .i64 (((((la + lb) / 2) + lm : Nat) : Int))), (147, .int .i64 (((((la + lb) / 2) + lm : Nat) : Int))), (148, .int .i64 ((((((la + lb) / 2) + lm) - 1 : Nat) : Int))), (149, .int .i64 (((i : Nat) : Int))), (150, .int .i64 (((j : Nat) : Int))), (151, .bool false), (175, .int .i64 (((((la + lb) / 2) + lm : Nat) : Int))), (176, .int .i64 (((i : Nat) : Int))), (177, .int .i64 ((((((la + lb) / 2) + lm) - i : Nat) : Int)))] ∧ Mg w0 w1 (.row 30 11 (.slice (some ⟨g9, 0, none⟩) n9 c9) n9 (qb xs) :: T)) → K96 a w1 := by
      clear A M
      rintro a w98 ⟨xs, hf99, A, M⟩
      have hxe := hf99
      have hij : i = j := by omega
      rw [← hij] at hjr
      have hcut : Cut (ltC c) zs la lm lb i ((la + lb) / 2) ((((la + lb) / 2) + lm) - i) := zcc H (by omega) (by omega) (by omega) (by omega) (by omega) (by omega) hu1 hu2 hil hjr
      have hxl : xs.length = n9 := by rw [hxe, qze (by omega) (by omega) (by omega)]; exact hzl
      have hxs : ∀ t ∈ xs, t ∈ ts := fun t ht => hsub t (qzd (by omega) (by omega) (by omega) (hxe ▸ ht))
      refine hK96 _ _ (wsk fun K100 hK100 => ?_)
      have hJ101 : ∀ a w1, (∃ (ys : List Dt), (ys = mg (ltC c) xs la i ((la + lb) / 2)) ∧ Sl a 220 [(0, .slice (some ⟨g9, 0, none⟩) n9 c9), (1, .int .i64 (((la : Nat) : Int))), (2, .int .i64 (((lm : Nat) : Int))), (3, .int .i64 (((lb : Nat) : Int))), (4, .func (.func f) #[] cs.toArray), (18, .int .i64 ((((la + lb) / 2 : Nat) : Int))), (19, .int .i64 (((((la + lb) / 2) + lm : Nat) : Int))), (20, .int .i64 (((i : Nat) : Int))), (21, .int .i64 (((j : Nat) : Int))), (22, .int .i64 ((((((la + lb) / 2) + lm) - 1 : Nat) : Int))), (24, .int .i64 ((((((la + lb) / 2) + lm) - i : Nat) : Int))), (25, .int .i64 (((lm : Nat) : Int))), (26, .int .i64 (((la : Nat) : Int))), (27, .int .i64 (((lm - la : Nat) : Int))), (28, .bool false), (77, .int .i64 (((lb : Nat) : Int))), (78, .int .i64 (((lm : Nat) : Int))), (79, .int .i64 (((lb - lm : Nat) : Int))), (80, .bool false), (129, .int .i64 (((la : Nat) : Int))), (130, .int .i64 (((lb : Nat) : Int))), (131, .int .i64 (((la + lb : Nat) : Int))), (132, .int .u64 (((la + lb : Nat) : Int))), (133, .int .u64 ((((la + lb) / 2 : Nat) : Int))), (134, .int .i64 ((((la + lb) / 2 : Nat) : Int))), (135, .int .i64 ((((la + lb) / 2 : Nat) : Int))), (136, .int .i64 (((lm : Nat) : Int))), (137, .int .i64 (((((la + lb) / 2) + lm : Nat) : Int))), (147, .int .i64 (((((la + lb) / 2) + lm : Nat) : Int))), (148, .int .i64 ((((((la + lb) / 2) + lm) - 1 : Nat) : Int))), (149, .int .i64 (((i : Nat) : Int))), (150, .int .i64 (((j : Nat) : Int))), (151, .bool false), (175, .int .i64 (((((la + lb) / 2) + lm : Nat) : Int))), (176, .int .i64 (((i : Nat) : Int))), (177, .int .i64 ((((((la + lb) / 2) + lm) - i : Nat) : Int)))] ∧ Mg w0 w1 (.row 30 11 (.slice (some ⟨g9, 0, none⟩) n9 c9) n9 (qb ys) :: T)) → K100 a w1 := by
       clear A M
       rintro a w102 ⟨ys, hf103, A, M⟩
       have hye := hf103
       have hyl : ys.length = n9 := by rw [hye, zcb (by omega) (by omega) (by omega)]; exact hxl
       have hys : ∀ t ∈ ys, t ∈ ts := fun t ht => hxs t (qvi (by omega) (by omega) (by omega) (hye ▸ ht))
       refine hK100 _ _ (wsk fun K104 hK104 => wrl ?_)
       iterate 2 refine sdm A λa A↦?_
       rcases tf (decide ((((la + lb) / 2 : Nat) : Int) < (((((la + lb) / 2) + lm) - i : Nat) : Int))) with hb105 | hb105
       ·
        have hb105' := of_decide_eq_true hb105
        refine sdc A qm hb105 λa A↦?_
        iterate 3 refine sdm A λa A↦?_
        rcases tf (decide ((((((la + lb) / 2) + lm) - i : Nat) : Int) < ((lb : Nat) : Int))) with hb106 | hb106
        ·
         have hb106' := of_decide_eq_true hb106
         refine sdc A qm hb106 λa A↦?_
         refine sdk (v := .bool true) A λa A↦?_
         refine qa (hK104 _ _ (wp_cond_true (A.ev rfl) ?_))
         refine wrl ?_
         iterate 5 refine sdm A λa A↦?_
         refine sct A (ef rfl rfl) (ih (zs := ys) (by omega) hyl hys (by omega) (by omega) (by omega) (by rw [hye, hxe]; exact hcut.u3) (by rw [hye, hxe]; exact hcut.u4) M) ?_
         rintro _ w108 ⟨rfl, hM107⟩
         replace M : Mg w0 w108 (.row 30 11 (.slice (some ⟨g9, 0, none⟩) n9 c9) n9 (qb (mg (ltC c) ys ((la + lb) / 2) ((((la + lb) / 2) + lm) - i) lb)) :: T) := hM107
         refine ⟨_, rfl, ?_⟩
         intro a A
         refine qa (hnorm _ _ (xf (v := .tuple #[]) A rfl .nil rfl ?_))
         rw [hye, hxe, hcut.eq] at M
         exact ⟨rfl, M⟩
        ·
         have hb106' := of_decide_eq_false hb106
         refine sdc A qm hb106 λa A↦?_
         refine sdk (v := .bool false) A λa A↦?_
         refine qa (hK104 _ _ (wp_cond_false (A.ev rfl) ?_))
         refine wp_skip (hnorm _ _ (xf (v := .tuple #[]) A rfl .nil rfl ?_))
         have hye2 : ys = mg (ltC c) ys ((la + lb) / 2) ((((la + lb) / 2) + lm) - i) lb := (qbj (by omega) (by omega) (by omega) (by omega)).symm
         rw [hye2] at M
         rw [hye, hxe, hcut.eq] at M
         exact ⟨rfl, M⟩
       ·
        have hb105' := of_decide_eq_false hb105
        refine sdc A qm hb105 λa A↦?_
        refine sdm A λa A↦?_
        iterate 3 refine qy A rfl rfl rfl λa A↦?_
        refine sdk (v := .bool false) A λa A↦?_
        refine qa (hK104 _ _ (wp_cond_false (A.ev rfl) ?_))
        refine wp_skip (hnorm _ _ (xf (v := .tuple #[]) A rfl .nil rfl ?_))
        have hye2 : ys = mg (ltC c) ys ((la + lb) / 2) ((((la + lb) / 2) + lm) - i) lb := (qbj (by omega) (by omega) (by omega) (by omega)).symm
        rw [hye2] at M
        rw [hye, hxe, hcut.eq] at M
        exact ⟨rfl, M⟩
      refine wsk fun K109 hK109 => wrl ?_
      iterate 2 refine sdm A λa A↦?_
      rcases tf (decide (((la : Nat) : Int) < ((i : Nat) : Int))) with hb110 | hb110
      ·
       have hb110' := of_decide_eq_true hb110
       refine sdc A qm hb110 λa A↦?_
       iterate 3 refine sdm A λa A↦?_
       rcases tf (decide (((i : Nat) : Int) < (((la + lb) / 2 : Nat) : Int))) with hb111 | hb111
       ·
        have hb111' := of_decide_eq_true hb111
        refine sdc A qm hb111 λa A↦?_
        refine sdk (v := .bool true) A λa A↦?_
        refine qa (hK109 _ _ (wp_cond_true (A.ev rfl) ?_))
        refine wrl ?_
        iterate 5 refine sdm A λa A↦?_
        refine sct A (ef rfl rfl) (ih (zs := xs) (by omega) hxl hxs (by omega) (by omega) (by omega) (by rw [hxe]; exact hcut.u1) (by rw [hxe]; exact hcut.u2) M) ?_
        rintro _ w113 ⟨rfl, hM112⟩
        replace M : Mg w0 w113 (.row 30 11 (.slice (some ⟨g9, 0, none⟩) n9 c9) n9 (qb (mg (ltC c) xs la i ((la + lb) / 2))) :: T) := hM112
        refine ⟨_, rfl, ?_⟩
        intro a A
        refine qa ?_
        exact hJ101 _ _ ⟨(mg (ltC c) xs la i ((la + lb) / 2)), rfl, A.keep _ (by repeat' constructor), M⟩
       ·
        have hb111' := of_decide_eq_false hb111
        refine sdc A qm hb111 λa A↦?_
        refine sdk (v := .bool false) A λa A↦?_
        refine qa (hK109 _ _ (wp_cond_false (A.ev rfl) ?_))
        refine wp_skip ?_
        exact hJ101 _ _ ⟨xs, (qbj (by omega) (by omega) (by omega) (by omega)).symm, A.keep _ (by repeat' constructor), M⟩
      ·
       have hb110' := of_decide_eq_false hb110
       refine sdc A qm hb110 λa A↦?_
       refine sdm A λa A↦?_
       iterate 3 refine qy A rfl rfl rfl λa A↦?_
       refine sdk (v := .bool false) A λa A↦?_
       refine qa (hK109 _ _ (wp_cond_false (A.ev rfl) ?_))
       refine wp_skip ?_
       exact hJ101 _ _ ⟨xs, (qbj (by omega) (by omega) (by omega) (by omega)).symm, A.keep _ (by repeat' constructor), M⟩
     refine wsk fun K114 hK114 => wrl ?_
     iterate 2 refine sdm A λa A↦?_
     rcases tf (decide (((i : Nat) : Int) < ((lm : Nat) : Int))) with hb115 | hb115
     ·
      have hb115' := of_decide_eq_true hb115
      refine sdc A qm hb115 λa A↦?_
      iterate 3 refine sdm A λa A↦?_
      rcases tf (decide (((lm : Nat) : Int) < (((((la + lb) / 2) + lm) - i : Nat) : Int))) with hb116 | hb116
      ·
       have hb116' := of_decide_eq_true hb116
       refine sdc A qm hb116 λa A↦?_
       refine sdk (v := .bool true) A λa A↦?_
       refine qa (hK114 _ _ (wp_cond_true (A.ev rfl) ?_))
       refine wrl ?_
       iterate 5 refine sdm A λa A↦?_
       refine sct A (ef rfl rfl) (qzi (zs := zs) hl hzl (by omega) (by omega) (by omega) M) ?_
       rintro _ w118 ⟨rfl, hM117⟩
       replace M : Mg w0 w118 (.row 30 11 (.slice (some ⟨g9, 0, none⟩) n9 c9) n9 (qb (rot zs i lm ((((la + lb) / 2) + lm) - i))) :: T) := hM117
       refine ⟨_, rfl, ?_⟩
       intro a A
       refine qa ?_
       exact hJ97 _ _ ⟨(rot zs i lm ((((la + lb) / 2) + lm) - i)), rfl, A.keep _ (by repeat' constructor), M⟩
      ·
       have hb116' := of_decide_eq_false hb116
       refine sdc A qm hb116 λa A↦?_
       refine sdk (v := .bool false) A λa A↦?_
       refine qa (hK114 _ _ (wp_cond_false (A.ev rfl) ?_))
       refine wp_skip ?_
       exact hJ97 _ _ ⟨zs, (qkb (by omega) (by omega) (by omega) (by omega)).symm, A.keep _ (by repeat' constructor), M⟩
     ·
      have hb115' := of_decide_eq_false hb115
      refine sdc A qm hb115 λa A↦?_
      refine sdm A λa A↦?_
      iterate 3 refine qy A rfl rfl rfl λa A↦?_
      refine sdk (v := .bool false) A λa A↦?_
      refine qa (hK114 _ _ (wp_cond_false (A.ev rfl) ?_))
      refine wp_skip ?_
      exact hJ97 _ _ ⟨zs, (qkb (by omega) (by omega) (by omega) (by omega)).symm, A.keep _ (by repeat' constructor), M⟩
   refine wsk fun K119 hK119 => wrl ?_
   iterate 2 refine sdm A λa A↦?_
   rcases tf (decide ((((la + lb) / 2 : Nat) : Int) < ((lm : Nat) : Int))) with hb120 | hb120
   ·
    have hb120' := of_decide_eq_true hb120
    refine sdc A jn hb120 λa A↦?_
    refine qa (hK119 _ _ (wp_cond_true (A.ev rfl) ?_))
    refine wsk fun K121 hK121 => wrl ?_
    iterate 2 refine sdm A λa A↦?_
    refine sdo (v := .int .i64 ((((((la + lb) / 2) + lm) - lb : Nat) : Int))) A (qf rfl rfl (ar_sub ((in_i64 (by omega) (by omega)).trans (by omega)))) λa A↦?_
    refine sda A λa A↦?_
    refine qa (hK121 _ _ (wrl (sdm A λa A↦?_)))
    refine sda A λa A↦?_
    refine qa ?_
    exact hJ77 _ _ ⟨(((la + lb) / 2) + lm) - lb, (la + lb) / 2, ⟨by omega, by omega, by omega, by omega, by omega, by omega, by omega⟩, A.keep _ (by repeat' constructor), M⟩
   ·
    have hb120' := of_decide_eq_false hb120
    refine sdc A jn hb120 λa A↦?_
    refine qa (hK119 _ _ (wp_cond_false (A.ev rfl) ?_))
    refine wsk fun K122 hK122 => wrl (sdm A λa A↦?_)
    refine sda A λa A↦?_
    refine qa (hK122 _ _ (wrl (sdm A λa A↦?_)))
    refine sda A λa A↦?_
    refine qa ?_
    exact hJ77 _ _ ⟨la, lm, ⟨by omega, by omega, by omega, by omega, by omega, by omega, by omega⟩, A.keep _ (by repeat' constructor), M⟩
theorem qhj {f : FuncId} {cs : List Value} {c : Dt → Dt → Int} {ts : List Dt} {w0 : World} {g9 c9 n9 : Nat} {T : List Ck} (hl : n9 ≤ 1000000000) (hF : Cmps Tryz.prog f cs w0 T ts c) (H : Swo (ltC c)) : ∀ d, SymC f cs c ts w0 g9 c9 n9 T d
 | 0 => fun hd _ _ h1 h2 => by omega
 | d + 1 => qwe hl hF H (qhj hl hF H d)
theorem qni {w0 w : World} {g9 c9 n9 : Nat} {zs : List Dt} {T : List Ck} (hl : n9 ≤ 1000000000) (hzl : zs.length = n9) {f : FuncId} {cs : List Value} {c : Dt → Dt → Int} {ts : List Dt} (hF : Cmps Tryz.prog f cs w0 T ts c) (hsub : ∀ t ∈ zs, t ∈ ts) (H : Swo (ltC c)) (hM0 : Mg w0 w (.row 30 11 (.slice (some ⟨g9, 0, none⟩) n9 c9) n9 (qb zs) :: T)) : Calls Tryz.prog 86 #[.slice (some ⟨g9, 0, none⟩) n9 c9, .int .i64 ((n9 : Nat) : Int), .func (.func f) #[] cs.toArray] w fun e w' => e = .returned (.tuple #[]) ∧ Mg w0 w' (.row 30 11 (.slice (some ⟨g9, 0, none⟩) n9 c9) n9 (qb (qz (ltC c) zs)) :: T) := by
 have M : Mg w0 w (.row 30 11 (.slice (some ⟨g9, 0, none⟩) n9 c9) n9 (qb zs) :: T) := hM0
 refine qp (l := [(0, .slice (some ⟨g9, 0, none⟩) n9 c9), (1, .int .i64 (((n9 : Nat) : Int))), (2, .func (.func f) #[] cs.toArray)]) Tryz.func86 rfl Tryz.ntmps86 rfl rfl ?_
 intro Q hret hnorm hP a A
 refine wsk fun K1 hK1 => wrl (sda A λa A↦?_)
 refine qa (hK1 _ _ (wsk fun K2 hK2 => wrl (sdm A λa A↦?_)))
 iterate 2 refine sda A λa A↦?_
 refine qa (hK2 _ _ (wsk fun K3 hK3 => wp_block (zk (fun m_ a w1 => ∃ (p : Nat) (x : List Dt), m_ = 1 + (n9 - p) ∧ (p ≤ n9 ∧ x.length = p ∧ (∀ t ∈ x ++ zs.drop p, t ∈ ts) ∧ x ++ srt (ltC c) 20 (zs.drop p) = srt (ltC c) 20 zs) ∧ Sl a 63 [(0, .slice (some ⟨g9, 0, none⟩) n9 c9), (1, .int .i64 (((n9 : Nat) : Int))), (2, .func (.func f) #[] cs.toArray), (6, .int .i64 20), (7, .int .i64 (((p : Nat) : Int))), (8, .int .i64 (((p + 20 : Nat) : Int))), (10, .int .i64 20)] ∧ Mg w0 w1 (.row 30 11 (.slice (some ⟨g9, 0, none⟩) n9 c9) n9 (qb (x ++ zs.drop p)) :: T)) _ ⟨0, [], rfl, ⟨Nat.zero_le _, rfl, hsub, rfl⟩, A.keep _ (by repeat' constructor), M⟩ ?_)))
 clear M A
 rintro m_ a w4 ⟨p, x, rfl, hinv6, A, M⟩ K5 hK5
 obtain ⟨hp0, hx, hxs, hX⟩ := hinv6
 refine wsk fun K7 hK7 => wsk fun K8 hK8 => wrl ?_
 iterate 2 refine sdm A λa A↦?_
 rcases tf (decide (((p + 20 : Nat) : Int) ≤ ((n9 : Nat) : Int))) with hb9 | hb9
 ·
  have hb9' := of_decide_eq_true hb9
  refine sdc A kl hb9 λa A↦?_
  refine qa (hK8 _ _ (wp_cond_true (A.ev rfl) ?_))
  refine wp_skip (hK7 _ _ (wp_block (wsk fun K10 hK10 => wrl ?_)))
  iterate 4 refine sdm A λa A↦?_
  refine sct A (ef rfl rfl) (qqg (zs := (x ++ zs.drop p)) hl (by rw [List.length_append, List.length_drop]; omega) hF hxs (by omega) (by omega) M) ?_
  rintro _ w12 ⟨rfl, hM11⟩
  replace M : Mg w0 w12 (.row 30 11 (.slice (some ⟨g9, 0, none⟩) n9 c9) n9 (qb (yp (ltC c) p ((p + 20) - (p + 1)) (p + 1) (x ++ zs.drop p))) :: T) := hM11
  refine ⟨_, rfl, ?_⟩
  intro a A
  refine qa (hK10 _ _ (wsk fun K13 hK13 => wrl (sdm A λa A↦?_)))
  refine sda A λa A↦?_
  refine qa (hK13 _ _ (wrl ?_))
  iterate 2 refine sdm A λa A↦?_
  refine sdo (v := .int .i64 ((((p + 20) + 20 : Nat) : Int))) A (qf rfl rfl (ar_add ((in_i64 (by omega) (by omega)).trans (by omega)))) λa A↦?_
  refine sda A λa A↦?_
  refine qa ?_
  obtain ⟨y1, hy1, hy2, hy3⟩ := qzf H (by decide) hx (by omega) hX
  have hys : ∀ t ∈ y1 ++ zs.drop (p + 20), t ∈ ts := fun t ht => hxs t (qke _ _ _ (hy2 ▸ ht))
  rw [hy2] at M
  refine hK5 _ _ _ (by omega) ⟨p + 20, y1, rfl, ⟨by omega, hy1, hys, hy3⟩, A.keep _ (by repeat' constructor), M⟩
 ·
  have hb9' := of_decide_eq_false hb9
  refine sdc A kl hb9 λa A↦?_
  refine qa (hK8 _ _ (wp_cond_false (A.ev rfl) ?_))
  refine wp_exit (hK3 _ _ (wsk fun K14 hK14 => wrl ?_))
  iterate 4 refine sdm A λa A↦?_
  refine sct A (ef rfl rfl) (qqg (zs := (x ++ zs.drop p)) hl (by rw [List.length_append, List.length_drop]; omega) hF hxs (by omega) (by omega) M) ?_
  rintro _ w16 ⟨rfl, hM15⟩
  replace M : Mg w0 w16 (.row 30 11 (.slice (some ⟨g9, 0, none⟩) n9 c9) n9 (qb (yp (ltC c) p (n9 - (p + 1)) (p + 1) (x ++ zs.drop p))) :: T) := hM15
  refine ⟨_, rfl, ?_⟩
  intro a A
  refine qa (hK14 _ _ (wp_block ?_))
  have h9 := qvj H hx (by omega) (by omega) hX
  rw [hzl] at h9
  rw [h9] at M
  refine zk (fun m_ a w1 => ∃ (q : Nat), m_ = 1 + (n9 - q) ∧ (0 < q ∧ q ≤ 2 * n9 + 20) ∧ Sl a 63 [(0, .slice (some ⟨g9, 0, none⟩) n9 c9), (1, .int .i64 (((n9 : Nat) : Int))), (2, .func (.func f) #[] cs.toArray), (6, .int .i64 (((q : Nat) : Int))), (10, .int .i64 20), (11, .int .i64 (((p + 20 : Nat) : Int))), (12, .int .i64 (((n9 : Nat) : Int))), (13, .bool false), (23, .slice (some ⟨g9, 0, none⟩) n9 c9), (24, .int .i64 (((p : Nat) : Int))), (25, .int .i64 (((n9 : Nat) : Int))), (26, .func (.func f) #[] cs.toArray), (27, .tuple #[])] ∧ Mg w0 w1 (.row 30 11 (.slice (some ⟨g9, 0, none⟩) n9 c9) n9 (qb (srt (ltC c) q zs)) :: T)) _ ⟨20, rfl, ⟨by decide, by omega⟩, A.keep _ (by repeat' constructor), M⟩ ?_
  clear M A
  rintro m_ a w17 ⟨q, rfl, hinv19, A, M⟩ K18 hK18
  obtain ⟨hq0, hq1⟩ := hinv19
  refine wsk fun K20 hK20 => wsk fun K21 hK21 => wrl ?_
  iterate 2 refine sdm A λa A↦?_
  rcases tf (decide (((q : Nat) : Int) < ((n9 : Nat) : Int))) with hb22 | hb22
  ·
   have hb22' := of_decide_eq_true hb22
   refine sdc A qm hb22 λa A↦?_
   refine qa (hK21 _ _ (wp_cond_true (A.ev rfl) ?_))
   refine wp_skip (hK20 _ _ (wp_block (wsk fun K23 hK23 => wrl (sdm A λa A↦?_))))
   refine sdo (v := .int .i64 (((0 + 2 * q : Nat) : Int))) A (qf rfl rfl (qca ((in_i64 (by omega) (by omega)).trans (by omega)))) λa A↦?_
   iterate 2 refine sda A λa A↦?_
   refine qa (hK23 _ _ (wsk fun K24 hK24 => wp_block (zk (fun m_ a w1 => ∃ (p2 : Nat) (x2 : List Dt), m_ = 1 + (n9 - p2) ∧ (p2 ≤ n9 ∧ x2.length = p2 ∧ (∀ t ∈ x2 ++ srt (ltC c) q (zs.drop p2), t ∈ ts) ∧ x2 ++ srt (ltC c) (2 * q) (zs.drop p2) = srt (ltC c) (2 * q) zs) ∧ Sl a 63 [(0, .slice (some ⟨g9, 0, none⟩) n9 c9), (1, .int .i64 (((n9 : Nat) : Int))), (2, .func (.func f) #[] cs.toArray), (6, .int .i64 (((q : Nat) : Int))), (7, .int .i64 (((p2 : Nat) : Int))), (8, .int .i64 (((p2 + 2 * q : Nat) : Int))), (10, .int .i64 20), (11, .int .i64 (((p + 20 : Nat) : Int))), (12, .int .i64 (((n9 : Nat) : Int))), (13, .bool false), (23, .slice (some ⟨g9, 0, none⟩) n9 c9), (24, .int .i64 (((p : Nat) : Int))), (25, .int .i64 (((n9 : Nat) : Int))), (26, .func (.func f) #[] cs.toArray), (27, .tuple #[]), (28, .int .i64 (((q : Nat) : Int))), (29, .int .i64 (((n9 : Nat) : Int))), (30, .bool true), (31, .int .i64 (((q : Nat) : Int))), (32, .int .i64 (((0 + 2 * q : Nat) : Int)))] ∧ Mg w0 w1 (.row 30 11 (.slice (some ⟨g9, 0, none⟩) n9 c9) n9 (qb (x2 ++ srt (ltC c) q (zs.drop p2))) :: T)) _ ⟨0, [], rfl, ⟨Nat.zero_le _, rfl, fun t ht => hsub t ((qkc _ zs (Nat.le_refl _)).mem_iff.1 ht), rfl⟩, A.keep _ (by repeat' constructor), M⟩ ?_)))
   clear M A
   rintro m_ a w25 ⟨p2, x2, rfl, hinv27, A, M⟩ K26 hK26
   obtain ⟨hp2, hx2, hx2s, hX2⟩ := hinv27
   refine wsk fun K28 hK28 => wsk fun K29 hK29 => wrl ?_
   iterate 2 refine sdm A λa A↦?_
   rcases tf (decide (((p2 + 2 * q : Nat) : Int) ≤ ((n9 : Nat) : Int))) with hb30 | hb30
   ·
    have hb30' := of_decide_eq_true hb30
    refine sdc A kl hb30 λa A↦?_
    refine qa (hK29 _ _ (wp_cond_true (A.ev rfl) ?_))
    refine wp_skip (hK28 _ _ (wp_block (wsk fun K31 hK31 => wrl ?_)))
    iterate 4 refine sdm A λa A↦?_
    refine sdo (v := .int .i64 (((p2 + q : Nat) : Int))) A (qf rfl rfl (ar_add ((in_i64 (by omega) (by omega)).trans (by omega)))) λa A↦?_
    iterate 2 refine sdm A λa A↦?_
    obtain ⟨hv1, hv2, y2, hy1, hy2, hy3⟩ := qzg H hq0 hx2 (by omega) hX2
    refine sct A (ef rfl rfl) (qhj hl hF H _ (zs := (x2 ++ srt (ltC c) q (zs.drop p2))) (Nat.le_refl _) (by rw [List.length_append, qhc, List.length_drop]; omega) hx2s (by omega) (by omega) (by omega) hv1 hv2 M) ?_
    rintro _ w33 ⟨rfl, hM32⟩
    replace M : Mg w0 w33 (.row 30 11 (.slice (some ⟨g9, 0, none⟩) n9 c9) n9 (qb (mg (ltC c) (x2 ++ srt (ltC c) q (zs.drop p2)) p2 (p2 + q) (p2 + 2 * q))) :: T) := hM32
    refine ⟨_, rfl, ?_⟩
    intro a A
    refine qa (hK31 _ _ (wsk fun K34 hK34 => wrl (sdm A λa A↦?_)))
    refine sda A λa A↦?_
    refine qa (hK34 _ _ (wrl ?_))
    iterate 2 refine sdm A λa A↦?_
    refine sdo (v := .int .i64 (((2 * q : Nat) : Int))) A (qf rfl rfl (qca ((in_i64 (by omega) (by omega)).trans (by omega)))) λa A↦?_
    refine sdo (v := .int .i64 ((((p2 + 2 * q) + (2 * q) : Nat) : Int))) A (qf rfl rfl (ar_add ((in_i64 (by omega) (by omega)).trans (by omega)))) λa A↦?_
    refine sda A λa A↦?_
    refine qa ?_
    have hy2s : ∀ t ∈ y2 ++ srt (ltC c) q (zs.drop (p2 + 2 * q)), t ∈ ts := fun t ht => hx2s t (qvi (by omega) (by omega) (by rw [List.length_append, qhc, List.length_drop]; omega) (hy2 ▸ ht))
    rw [hy2] at M
    refine hK26 _ _ _ (by omega) ⟨p2 + 2 * q, y2, rfl, ⟨by omega, hy1, hy2s, hy3⟩, A.keep _ (by repeat' constructor), M⟩
   ·
    have hb30' := of_decide_eq_false hb30
    refine sdc A kl hb30 λa A↦?_
    refine qa (hK29 _ _ (wp_cond_false (A.ev rfl) ?_))
    refine wp_exit (hK24 _ _ (wsk fun K35 hK35 => wsk fun K36 hK36 => wrl ?_))
    iterate 2 refine sdm A λa A↦?_
    refine sdo (v := .int .i64 (((p2 + q : Nat) : Int))) A (qf rfl rfl (ar_add ((in_i64 (by omega) (by omega)).trans (by omega)))) λa A↦?_
    refine sda A λa A↦?_
    refine qa (hK36 _ _ (wsk fun K37 hK37 => wrl ?_))
    iterate 2 refine sdm A λa A↦?_
    rcases tf (decide (((p2 + q : Nat) : Int) < ((n9 : Nat) : Int))) with hb38 | hb38
    ·
     have hb38' := of_decide_eq_true hb38
     refine sdc A qm hb38 λa A↦?_
     refine qa (hK37 _ _ (wp_cond_true (A.ev rfl) ?_))
     refine wrl ?_
     iterate 5 refine sdm A λa A↦?_
     have hr := qwa H hq0 hx2 (by omega) (by omega) hX2
     rw [hzl] at hr
     refine sct A (ef rfl rfl) (qhj hl hF H _ (zs := (x2 ++ srt (ltC c) q (zs.drop p2))) (Nat.le_refl _) (by rw [List.length_append, qhc, List.length_drop]; omega) hx2s (by omega) (by omega) (by omega) hr.1 hr.2.1 M) ?_
     rintro _ w40 ⟨rfl, hM39⟩
     replace M : Mg w0 w40 (.row 30 11 (.slice (some ⟨g9, 0, none⟩) n9 c9) n9 (qb (mg (ltC c) (x2 ++ srt (ltC c) q (zs.drop p2)) p2 (p2 + q) n9)) :: T) := hM39
     refine ⟨_, rfl, ?_⟩
     intro a A
     refine qa (hK35 _ _ (wrl (sdm A λa A↦?_)))
     refine sdo (v := .int .i64 (((2 * q : Nat) : Int))) A (qf rfl rfl (qca ((in_i64 (by omega) (by omega)).trans (by omega)))) λa A↦?_
     refine sda A λa A↦?_
     refine qa ?_
     rw [hr.2.2] at M
     refine hK18 _ _ _ (by omega) ⟨2 * q, rfl, ⟨by omega, by omega⟩, A.keep _ (by repeat' constructor), M⟩
    ·
     have hb38' := of_decide_eq_false hb38
     refine sdc A qm hb38 λa A↦?_
     refine qa (hK37 _ _ (wp_cond_false (A.ev rfl) ?_))
     refine wp_skip (hK35 _ _ (wrl (sdm A λa A↦?_)))
     refine sdo (v := .int .i64 (((2 * q : Nat) : Int))) A (qf rfl rfl (qca ((in_i64 (by omega) (by omega)).trans (by omega)))) λa A↦?_
     refine sda A λa A↦?_
     refine qa ?_
     rw [qwb (by omega) hX2] at M
     refine hK18 _ _ _ (by omega) ⟨2 * q, rfl, ⟨by omega, by omega⟩, A.keep _ (by repeat' constructor), M⟩
  ·
   have hb22' := of_decide_eq_false hb22
   refine sdc A qm hb22 λa A↦?_
   refine qa (hK21 _ _ (wp_cond_false (A.ev rfl) ?_))
   refine wp_exit (hnorm _ _ (xf (v := .tuple #[]) A rfl .nil rfl ?_))
   rw [vu (by omega)] at M
   exact ⟨rfl, M⟩
theorem qnj {w0 w : World} {g9 c9 n9 : Nat} {zs : List Dt} {T : List Ck} (hl : n9 ≤ 1000000000) (hzl : zs.length = n9) {f : FuncId} {cs : List Value} {c : Dt → Dt → Int} {ts : List Dt} (hF : Cmps Tryz.prog f cs w0 T ts c) (hsub : ∀ t ∈ zs, t ∈ ts) (H : Swo (ltC c)) (hM0 : Mg w0 w (.row 30 11 (.slice (some ⟨g9, 0, none⟩) n9 c9) n9 (qb zs) :: T)) : Calls Tryz.prog 71 #[.slice (some ⟨g9, 0, none⟩) n9 c9, .func (.func f) #[] cs.toArray] w fun e w' => e = .returned (.tuple #[]) ∧ Mg w0 w' (.row 30 11 (.slice (some ⟨g9, 0, none⟩) n9 c9) n9 (qb (qz (ltC c) zs)) :: T) := by
 have M : Mg w0 w (.row 30 11 (.slice (some ⟨g9, 0, none⟩) n9 c9) n9 (qb zs) :: T) := hM0
 refine qp (l := [(0, .slice (some ⟨g9, 0, none⟩) n9 c9), (1, .func (.func f) #[] cs.toArray)]) Tryz.func71 rfl Tryz.ntmps71 rfl rfl ?_
 intro Q hret hnorm hP a A
 refine wrl ?_
 iterate 2 refine sdm A λa A↦?_
 refine sdo A (zq Tryz.underlying22 rfl) λa A↦?_
 refine sdm A λa A↦?_
 refine sct A (ef rfl rfl) (qni hl hzl hF hsub H M) ?_
 rintro _ w2 ⟨rfl, hM1⟩
 replace M : Mg w0 w2 (.row 30 11 (.slice (some ⟨g9, 0, none⟩) n9 c9) n9 (qb (qz (ltC c) zs)) :: T) := hM1
 refine ⟨_, rfl, ?_⟩
 intro a A
 refine qa (hnorm _ _ (xf (v := .tuple #[]) A rfl .nil rfl ?_))
 exact ⟨rfl, M⟩
theorem qzj {w : World} {so9 : Option Addr} {c9 : Nat} {fv : Value} : Calls Tryz.prog 103 #[.slice so9 0 c9, .int .i64 0, .int .i64 0, fv] w fun e w' => e = .returned (.tuple #[]) ∧ Below w.heap.size w w' := by
 have M : Mg w w ([]) := Mg.start w
 refine qp (l := [(0, .slice so9 0 c9), (1, .int .i64 0), (2, .int .i64 0), (3, fv)]) Tryz.func103 rfl Tryz.ntmps103 rfl rfl ?_
 intro Q hret hnorm hP a A
 refine wsk fun K1 hK1 => wrl (sdm A λa A↦?_)
 refine sdo (v := .int .i64 1) A (qf rfl rfl (fun w => by kernel_rfl)) λa A↦?_
 refine sda A λa A↦?_
 refine qa (hK1 _ _ (wp_block (wp_loop_rounds 12 ?_)))
 refine vn fun K2 hK2 => ?_
 refine wsk fun K3 hK3 => wsk fun K4 hK4 => wrl ?_
 iterate 2 refine sdm A λa A↦?_
 refine sdo (v := .bool false) A (qf rfl rfl (fun w => by kernel_rfl)) λa A↦?_
 refine qa (hK4 _ _ (wp_cond_false (A.ev rfl) ?_))
 refine wp_exit (hnorm _ _ (xf (v := .tuple #[]) A rfl .nil rfl ?_))
 exact ⟨rfl, M.bel⟩
theorem qoa {w : World} {so9 : Option Addr} {c9 : Nat} {fv : Value} : Calls Tryz.prog 86 #[.slice so9 0 c9, .int .i64 0, fv] w fun e w' => e = .returned (.tuple #[]) ∧ Below w.heap.size w w' := by
 have M : Mg w w ([]) := Mg.start w
 refine qp (l := [(0, .slice so9 0 c9), (1, .int .i64 0), (2, fv)]) Tryz.func86 rfl Tryz.ntmps86 rfl rfl ?_
 intro Q hret hnorm hP a A
 refine wsk fun K1 hK1 => wrl (sda A λa A↦?_)
 refine qa (hK1 _ _ (wsk fun K2 hK2 => wrl (sdm A λa A↦?_)))
 iterate 2 refine sda A λa A↦?_
 refine qa (hK2 _ _ (wsk fun K3 hK3 => wp_block (wp_loop_rounds 12 ?_)))
 refine vn fun K4 hK4 => ?_
 refine wsk fun K5 hK5 => wsk fun K6 hK6 => wrl ?_
 iterate 2 refine sdm A λa A↦?_
 refine sdo (v := .bool false) A (qf rfl rfl (fun w => by kernel_rfl)) λa A↦?_
 refine qa (hK6 _ _ (wp_cond_false (A.ev rfl) ?_))
 refine wp_exit (hK3 _ _ (wsk fun K7 hK7 => wrl ?_))
 iterate 4 refine sdm A λa A↦?_
 refine gcl A M (ef rfl rfl) (qzj) fun w9 hb8 M a A => ?_
 refine qa (hK7 _ _ (wp_block (wp_loop_rounds 12 ?_)))
 refine vn fun K10 hK10 => ?_
 refine wsk fun K11 hK11 => wsk fun K12 hK12 => wrl ?_
 iterate 2 refine sdm A λa A↦?_
 refine sdo (v := .bool false) A (qf rfl rfl (fun w => by kernel_rfl)) λa A↦?_
 refine qa (hK12 _ _ (wp_cond_false (A.ev rfl) ?_))
 refine wp_exit (hnorm _ _ (xf (v := .tuple #[]) A rfl .nil rfl ?_))
 exact ⟨rfl, M.bel⟩
theorem qsh {w : World} {so9 : Option Addr} {c9 : Nat} {fv : Value} : Calls Tryz.prog 71 #[.slice so9 0 c9, fv] w fun e w' => e = .returned (.tuple #[]) ∧ Below w.heap.size w w' := by
 have M : Mg w w ([]) := Mg.start w
 refine qp (l := [(0, .slice so9 0 c9), (1, fv)]) Tryz.func71 rfl Tryz.ntmps71 rfl rfl ?_
 intro Q hret hnorm hP a A
 refine wrl ?_
 iterate 2 refine sdm A λa A↦?_
 refine sdo A (zq Tryz.underlying22 rfl) λa A↦?_
 refine sdm A λa A↦?_
 refine gcl A M (ef rfl rfl) (qoa) fun w2 hb1 M a A => ?_
 refine qa (hnorm _ _ (xf (v := .tuple #[]) A rfl .nil rfl ?_))
 exact ⟨rfl, M.bel⟩
theorem qsi {w0 w : World} {so9 : Option Addr} {c9 : Nat} {zs : List Dt} {T : List Ck} (hl : zs.length ≤ 1000000000) {f : FuncId} {cs : List Value} {c : Dt → Dt → Int} {ts : List Dt} (hF : Cmps Tryz.prog f cs w0 T ts c) (hsub : ∀ t ∈ zs, t ∈ ts) (H : Swo (ltC c)) (hM0 : Mg w0 w (.row 30 11 (.slice so9 zs.length c9) zs.length (qb zs) :: T)) : Calls Tryz.prog 71 #[.slice so9 zs.length c9, .func (.func f) #[] cs.toArray] w fun e w' => e = .returned (.tuple #[]) ∧ Mg w0 w' (.row 30 11 (.slice so9 zs.length c9) zs.length (qb (qz (ltC c) zs)) :: T) := by
 by_cases h : zs = []
 ·
  subst h
  exact qsh.mono fun e w' h => ⟨h.1, hM0.call h.2⟩
 ·
  obtain ⟨g, c, e⟩ := qda (hM0.has 0 rfl) (fun k => h (List.length_eq_zero_iff.1 k))
  cases e
  exact qnj hl rfl hF hsub H hM0
theorem LiD_is1_22 : Is1 Tryz.prog 22 := ⟨⟨_, Tryz.underlying22, rfl⟩, by kernel_rfl⟩
theorem LiD_is1_3 : Is1 Tryz.prog 3 := ⟨⟨_, Tryz.underlying3, rfl⟩, by kernel_rfl⟩
theorem LiD_fld_30_0 : FieldAt Tryz.prog 30 0 0 := ⟨_, _, Tryz.underlying30, rfl, rfl, by kernel_rfl⟩
theorem LiD_fld_30_5 : FieldAt Tryz.prog 30 5 10 := ⟨_, _, Tryz.underlying30, rfl, rfl, by kernel_rfl⟩
theorem LiD_isS_30 : IsS Tryz.prog 30 11 := ⟨⟨_, Tryz.underlying30⟩, by kernel_rfl⟩
theorem qad {w : World} {t t0 : Dt} (ht : t.rd w) (h0 : t.ts[0]? = some t0) : Calls Tryz.prog 49 #[.agg (t.d.cells t.ts.length).toArray] w fun e w' => e = .returned (.agg (t0.d.cells t0.ts.length).toArray) ∧ Below w.heap.size w w' := by
 have hlt : 0 < t.ts.length := (List.getElem?_eq_some_iff.1 h0).1
 have M : Mg w w ([]) := Mg.start w
 refine qp (l := [(0, .agg (t.d.cells t.ts.length).toArray)]) Tryz.func49 rfl Tryz.ntmps49 rfl rfl ?_
 intro Q hret hnorm hP a A
 refine wsk fun K1 hK1 => wrl (ja (vs := (t.d.cells t.ts.length)) (t := 30) A M rfl rfl rfl pg (zd rfl rfl) (by decide) ?_)
 intro g2 w3 M a A
 refine ja (vs := (qn.d.cells qn.ts.length)) (t := 30) A M rfl rfl rfl pg (zi (z := .agg (qn.d.cells qn.ts.length).toArray) (by kernel_rfl) rfl) (by decide) ?_
 intro g4 w5 M a A
 refine qa (hK1 _ _ (wsk fun K6 hK6 => ?_))
 obtain ⟨t1, bt1, ot1, it1, mt1, rt1_, lt1, Ht1⟩ := qgh ht (i := 0) hlt
 obtain rfl : t1 = t0 := by rw [it1] at h0; exact Option.some.inj h0
 refine wrl (sdo (v := .pointer (some ⟨g2, 10, none⟩)) A (qg LiD_fld_30_5 rfl rfl) λa A↦?_)
 refine sdo A (qx M LiD_is1_22 rfl 1 rfl rfl) λa A↦?_
 refine sdo (v := .pointer (some ⟨bt1, ot1 + 0 * 11, none⟩)) A (zg (k := 0) Tryz.underlying22 (by kernel_rfl) rfl rfl rfl lt1 hlt) λa A↦?_
 refine sdo A (ue M Ht1 LiD_isS_30 rfl rfl) λa A↦?_
 refine zm (us := (t1.d.cells t1.ts.length)) (L' := (.obj g4 (.cells (t1.d.cells t1.ts.length).toArray 30) :: .obj g2 (.cells (t.d.cells t.ts.length).toArray 30) :: [])) A M rfl rfl (qw rfl rfl rfl (by kernel_rfl) M 0 rfl rfl rfl) 0 rfl rfl rfl ?_
 intro w7 M
 refine qa (hK6 _ _ (wp_ret (hret _ _ (en1 A rfl (jh M LiD_isS_30 rfl 0 rfl (cs := [.int .i64 t1.d.k, .int .i64 t1.d.n, .bool t1.d.y.q.b1, .slice t1.d.y.o1 t1.d.y.q.t1.length t1.d.y.c1, .slice t1.d.y.o2 t1.d.y.q.q1.length t1.d.y.c2, .bool t1.d.y.q.b2, .slice t1.d.y.o3 t1.d.y.q.t2.length t1.d.y.c3, .slice t1.d.y.o4 t1.d.y.q.q2.length t1.d.y.c4, .string t1.d.s, .slice t1.d.ro t1.d.rl.length t1.d.rc, .slice t1.d.lo t1.ts.length t1.d.lc]) rfl rfl) ?_))))
 exact ⟨rfl, M.bel⟩
theorem qqh {w : World} : Calls Tryz.prog 35 #[] w fun e w' => e = .returned (.agg (qjb.d.cells qjb.ts.length).toArray) ∧ Below w.heap.size w w' := by
 have M : Mg w w ([]) := Mg.start w
 refine qp (l := []) Tryz.func35 rfl Tryz.ntmps35 rfl rfl ?_
 intro Q hret hnorm hP a A
 refine wsk fun K1 hK1 => wrl (ja (vs := (qn.d.cells qn.ts.length)) (t := 30) A M rfl rfl rfl pg (zi (z := .agg (qn.d.cells qn.ts.length).toArray) (by kernel_rfl) rfl) (by decide) ?_)
 intro g2 w3 M a A
 refine qa (hK1 _ _ (wsk fun K4 hK4 => wrl (sdo (v := .agg #[.int .i64 1, .int .i64 0, .bool false, .slice none 0 0, .slice none 0 0, .bool false, .slice none 0 0, .slice none 0 0, .string (⟨#[]⟩), .slice none 0 0, .slice none 0 0]) A (zp rfl (fun w => by kernel_rfl)) λa A↦?_)))
 refine zm (us := [.int .i64 1, .int .i64 0, .bool false, .slice none 0 0, .slice none 0 0, .bool false, .slice none 0 0, .slice none 0 0, .string (⟨#[]⟩), .slice none 0 0, .slice none 0 0]) (L' := (.obj g2 (.cells #[.int .i64 1, .int .i64 0, .bool false, .slice none 0 0, .slice none 0 0, .bool false, .slice none 0 0, .slice none 0 0, .string (⟨#[]⟩), .slice none 0 0, .slice none 0 0] 30) :: [])) A M rfl rfl (qw rfl rfl rfl (by kernel_rfl) M 0 rfl rfl rfl) 0 rfl rfl rfl ?_
 intro w5 M
 refine qa (hK4 _ _ (wp_ret (hret _ _ (en1 A rfl (jh M LiD_isS_30 rfl 0 rfl (cs := [.int .i64 1, .int .i64 0, .bool false, .slice none 0 0, .slice none 0 0, .bool false, .slice none 0 0, .slice none 0 0, .string (⟨#[]⟩), .slice none 0 0, .slice none 0 0]) rfl rfl) ?_))))
 exact ⟨rfl, M.bel⟩
theorem qai {w0 w : World} {t : Dt} (h0 : Below w0.heap.size w0 w) (ht : t.rd w0) (hs : jt qk t.tr = true) (hb : t.tr.bulk ≤ 1000000000) : Calls Tryz.prog 58 #[.agg (t.d.cells t.ts.length).toArray] w fun e w' => (∃ so' ca' xs, e = .returned (.tuple #[.slice so' (xs : List Dt).length ca', .int .i64 0]) ∧ (jd t.tr = some (xs.map Dt.tr) ∧ (∀ x ∈ xs, x.rd w0) ∧ xs.length ≤ t.tr.bulk) ∧ Mg w w' [.row 30 11 (.slice so' xs.length ca') xs.length (qb xs)]) ∨ (e = .returned (.tuple #[.slice none 0 0, .int .i64 10]) ∧ jd t.tr = none ∧ Below w.heap.size w w') := by
 have M : Mg w w ([]) := Mg.start w
 refine qp (l := [(0, .agg (t.d.cells t.ts.length).toArray)]) Tryz.func58 rfl Tryz.ntmps58 rfl rfl ?_
 intro Q hret hnorm hP a A
 refine wsk fun K1 hK1 => wrl (ja (vs := (t.d.cells t.ts.length)) (t := 30) A M rfl rfl rfl pg (zd rfl rfl) (by decide) ?_)
 intro g2 w3 M a A
 iterate 2 refine sda A λa A↦?_
 refine qa (hK1 _ _ (wsk fun K4 hK4 => wrl (sda A λa A↦?_)))
 refine qa (hK4 _ _ (wsk fun K5 hK5 => wp_block ?_))
 replace M := M.nilRow (zr (by simp) (zl zt)) 30 11
 refine zk (fun m_ a w1 => ∃ (p : Dt) (xs : List Dt) (so_ : Option Addr) (ca_ : Nat), m_ = 1 + p.tr.bulk ∧ (p.rd w0 ∧ jt qk p.tr = true ∧ (∀ x ∈ xs, x.rd w0) ∧ t.tr = za (xs.map Dt.tr) p.tr ∧ xs.length + p.tr.bulk ≤ t.tr.bulk) ∧ Sl a 21 [(0, .agg (t.d.cells t.ts.length).toArray), (1, .pointer (some ⟨g2, 0, none⟩)), (2, .slice none 0 0), (3, .int .i64 0), (4, .slice so_ xs.length ca_)] ∧ Mg w w1 (.row 30 11 (.slice so_ xs.length ca_) xs.length (qb xs) :: .obj g2 (.cells (p.d.cells p.ts.length).toArray 30) :: [])) _ ⟨t, [], none, 0, rfl, ⟨ht, hs, (fun x h => by cases h), rfl, (by show 0 + t.tr.bulk ≤ t.tr.bulk; omega)⟩, A.keep _ ⟨rfl, rfl, rfl, rfl, rfl, trivial⟩, M⟩ ?_
 clear M A
 rintro m_ a w6 ⟨p, xs, so_, ca_, rfl, hinv8, A, M⟩ K7 hK7
 obtain ⟨hp, hps, hxs, htl, hbx⟩ := hinv8
 refine wsk fun K9 hK9 => wsk fun K10 hK10 => wrl (sdo (v := .pointer (some ⟨g2, 0, none⟩)) A (qg LiD_fld_30_0 rfl rfl) λa A↦?_)
 refine sdo A (qx M LiD_is1_3 rfl 1 rfl rfl) λa A↦?_
 rcases tf ((p.d.k == 8)) with hb11 | hb11
 ·
  have hb11' := eq_of_beq hb11
  refine sdc A ql hb11 λa A↦?_
  refine qa (hK10 _ _ (wp_cond_true (A.ev rfl) ?_))
  refine wp_skip (hK9 _ _ (wp_block (wsk fun K12 hK12 => ?_)))
  have l2p := (qpg hps hb11').1
  have hbp := quj p
  obtain ⟨p0, bp0, op0, ip0, mp0, rp0_, lp0, Hp0⟩ := qgh hp (i := 0) (by omega)
  obtain ⟨p1, bp1, op1, ip1, mp1, rp1_, lp1, Hp1⟩ := qgh hp (i := 1) (by omega)
  replace Hp0 := Hp0.below h0
  replace Hp1 := Hp1.below h0
  refine wrl (sdm A λa A↦?_)
  refine sdo A (ze M LiD_isS_30 rfl 1 rfl (cs := (p.d.cells p.ts.length)) rfl rfl) λa A↦?_
  refine gcl A M (ef rfl rfl) (qad (Dt.keep M.bel _ (Dt.keep h0 _ hp)) ip0) fun w14 hb13 M a A => ?_
  refine ux (e := 30) (sz := 11) (m := 1) (vs := qb [p0]) A M rfl rfl rfl (jc rfl (by kernel_rfl)) rfl rfl (.inl (by decide)) ?_
  intro g15 w16 M a A
  refine ka (e := 30) (sz := 11) (k := 1) (q := xs.length) (m := 1) (xs := qb xs) (news := qb [p0]) (L' := fun v17 => (.row 30 11 (.slice (some ⟨g15, 0, none⟩) 1 1) 1 (qb [p0]) :: .row 30 11 (v17) (xs.length + 1) (qb xs ++ qb [p0]) :: .obj g2 (.cells (p.d.cells p.ts.length).toArray 30) :: [])) A rfl rfl rfl (qcj (z := .agg #[.int .i64 0, .int .i64 0, .bool false, .slice none 0 0, .slice none 0 0, .bool false, .slice none 0 0, .slice none 0 0, .string ⟨#[]⟩, .slice none 0 0, .slice none 0 0]) (sz := 11) (by_ := 192) Tryz.underlying22 (by kernel_rfl) rfl rfl rfl M 1 rfl rfl rfl rfl (qmf (M.has 0 rfl)) (ko [p0]) (by omega)) (fun _ => rfl) ?_
  intro v17 w18 M a A
  replace M : Mg w w18 (.row 30 11 (.slice (some ⟨g15, 0, none⟩) 1 1) 1 (qb [p0]) :: .row 30 11 (v17) ((xs ++ [p0]).length) (qb (xs ++ [p0])) :: .obj g2 (.cells (p.d.cells p.ts.length).toArray 30) :: []) := by
   rw [xm, List.length_append]; exact M
  obtain ⟨so19, ca20, rfl⟩ := kz (M.has 1 rfl)
  refine sda A λa A↦?_
  refine qa (hK12 _ _ (wrl (sdo (v := .pointer (some ⟨g2, 10, none⟩)) A (qg LiD_fld_30_5 rfl rfl) λa A↦?_)))
  refine sdo A (qx M LiD_is1_22 rfl 2 rfl rfl) λa A↦?_
  refine sdo (v := .pointer (some ⟨bp1, op1 + 1 * 11, none⟩)) A (zg (k := 1) Tryz.underlying22 (by kernel_rfl) rfl rfl rfl lp1 (by omega)) λa A↦?_
  refine sdo A (ue M Hp1 LiD_isS_30 rfl rfl) λa A↦?_
  refine zm (us := (p1.d.cells p1.ts.length)) (L' := (.row 30 11 (.slice (some ⟨g15, 0, none⟩) 1 1) 1 (qb [p0]) :: .row 30 11 (.slice so19 ((xs ++ [p0]).length) ca20) ((xs ++ [p0]).length) (qb (xs ++ [p0])) :: .obj g2 (.cells (p1.d.cells p1.ts.length).toArray 30) :: [])) A M rfl rfl (qw rfl rfl rfl (by kernel_rfl) M 2 rfl rfl rfl) 2 rfl rfl rfl ?_
  intro w21 M
  refine qa ?_
  replace M : Mg w w21 (.row 30 11 (.slice so19 ((xs ++ [p0]).length) ca20) ((xs ++ [p0]).length) (qb (xs ++ [p0])) :: .obj g2 (.cells (p1.d.cells p1.ts.length).toArray 30) :: []) := by
   have h9 := M.sub (cn (cc (cc (.refl _))))
   exact h9
  refine hK7 _ _ _ (by have := zbb mp1; omega) ⟨p1, xs ++ [p0], so19, ca20, rfl, ⟨rp1_, (qna hps).2 _ mp1, qui hxs rp0_, qri htl hps hb11' ip0 ip1, by have := zbb mp1; rw [List.length_append]; simp only [List.length_cons, List.length_nil]; omega⟩, A.keep _ ⟨rfl, rfl, rfl, rfl, rfl, trivial⟩, M⟩
 ·
  have hb11' := ne_of_beq_false hb11
  refine sdc A ql hb11 λa A↦?_
  refine qa (hK10 _ _ (wp_cond_false (A.ev rfl) ?_))
  refine wp_exit (hK5 _ _ (wsk fun K22 hK22 => wsk fun K23 hK23 => wrl (sdo (v := .pointer (some ⟨g2, 0, none⟩)) A (qg LiD_fld_30_0 rfl rfl) λa A↦?_)))
  refine sdo A (qx M LiD_is1_3 rfl 1 rfl rfl) λa A↦?_
  rcases tf ((p.d.k != 1)) with hb24 | hb24
  ·
   have hb24' := bne_iff_ne.1 hb24
   refine sdc A jv hb24 λa A↦?_
   refine qa (hK23 _ _ (wp_cond_true (A.ev rfl) ?_))
   refine wsk fun K25 hK25 => wrl ?_
   iterate 2 refine sda A λa A↦?_
   refine qa (hK25 _ _ (wp_ret (hret _ _ (en2 A rfl (qi rfl) (qi rfl) ?_))))
   exact .inr ⟨rfl, qnc htl hb11' hb24', M.bel⟩
  ·
   have hb24' := bne_eq_false_iff_eq.1 hb24
   refine sdc A jv hb24 λa A↦?_
   refine qa (hK23 _ _ (wp_cond_false (A.ev rfl) ?_))
   refine wp_skip (hK22 _ _ (wsk fun K26 hK26 => wrl (sdm A λa A↦?_)))
   iterate 2 refine sda A λa A↦?_
   refine qa (hK26 _ _ (wp_ret (hret _ _ (en2 A rfl (qi rfl) (qi rfl) ?_))))
   replace M : Mg w w6 (.row 30 11 (.slice so_ xs.length ca_) xs.length (qb xs) :: []) := by
    have h9 := M.sub (cc (cn (.refl _)))
    exact h9
   exact .inl ⟨_, _, xs, rfl, ⟨qnb htl hps hb24', hxs, by omega⟩, M⟩
theorem qee {w0 w : World} {t : Dt} (h0 : Below w0.heap.size w0 w) (ht : t.rd w0) (hs : jt qk t.tr = true) (hb : t.tr.bulk ≤ 1000000000) (h : (jd t.tr).isSome = true) : Calls Tryz.prog 58 #[.agg (t.d.cells t.ts.length).toArray] w fun e w' => ∃ so' ca' xs, e = .returned (.tuple #[.slice so' (xs : List Dt).length ca', .int .i64 0]) ∧ (jd t.tr = some (xs.map Dt.tr) ∧ (∀ x ∈ xs, x.rd w0) ∧ xs.length ≤ t.tr.bulk) ∧ Mg w w' [.row 30 11 (.slice so' xs.length ca') xs.length (qb xs)] := by
 refine (qai h0 ht hs hb).mono ?_
 rintro e w' (h1 | ⟨_, h2, _⟩)
 ·
  exact h1
 ·
  rw [h2] at h; cases h
theorem qef {w0 w : World} {t : Dt} (h0 : Below w0.heap.size w0 w) (ht : t.rd w0) (hs : jt qk t.tr = true) (hb : t.tr.bulk ≤ 1000000000) (h : (jd t.tr).isSome = false) : Calls Tryz.prog 58 #[.agg (t.d.cells t.ts.length).toArray] w fun e w' => e = .returned (.tuple #[.slice none 0 0, .int .i64 10]) ∧ Below w.heap.size w w' := by
 refine (qai h0 ht hs hb).mono ?_
 rintro e w' (⟨_, _, xs, _, h1, _⟩ | ⟨h1, _, h3⟩)
 ·
  rw [h1.1] at h; cases h
 ·
  exact ⟨h1, h3⟩
section
variable {F : Fence} {m : Nat} {P : Program} {w0 w w' : World} {L : List Ck} {l : List (Nat × Value)} {ops : List Oper} {Q : Exit → Act → World → Prop} {a : Act} {n : Nat} {o : Oper} {rest : List Oper} {d : Nat} {v : Value}
/-- The slots, whatever waits for the function's end. -/
def Sd (a : Act) (n : Nat) (l : List (Nat × Value)) : Prop := Sl { a with defers := [] } n l
theorem qia (hnd : ∀ c, o.op ≠ .defer c) (r : Option Nat) (ρ : Operand → Value) : o.semAt r ρ = execOp ρ o := by
  cases r with
  | none => rfl
  | some k => exact Oper.semAt_some k _ _ hnd
theorem vq (hF : ∀ f, F.fn f) (hA : Sd a n l) (hg : zb l ops o = true) (hdst : o.dst = some d) (hd : Nat.blt d n = true) (hnd : ∀ c, o.op ≠ .defer c) (he : Does P l o w v w')
    (hk : ∀ a', Sd a' n ((d, v) :: l) → a'.defers = a.defers → wpListIn F m P ops.toArray Q rest a' w') : wpListIn F m P ops.toArray Q (o :: rest) a w := by
  unfold wpListIn
  rw [if_pos (show Region.wanted o (yielded ops.toArray a.tmps) = true from hA.wanted hg)]
  refine ⟨fun f _ => hF f, ?_⟩
  rw [qia hnd, he a.eval (fun x u hx => hA.ev hx), Oper.uponIn_value, hdst]
  exact hk _ (hA.put hd v) rfl
theorem qwf (hF : ∀ f, F.fn f) (hA : Sd a n l) (hg : zb l ops o = true) (hdst : o.dst = none) (hnd : ∀ c, o.op ≠ .defer c) (he : Sets P l o w w')
    (hk : wpListIn F m P ops.toArray Q rest a w') : wpListIn F m P ops.toArray Q (o :: rest) a w := by
  unfold wpListIn
  rw [if_pos (show Region.wanted o (yielded ops.toArray a.tmps) = true from hA.wanted hg)]
  refine ⟨fun f _ => hF f, ?_⟩
  rw [qia hnd, he a.eval (fun x u hx => hA.ev hx), Oper.uponIn_skip, hdst]
  exact hk
theorem zcd (hF : ∀ f, F.fn f) (hd0 : F.depth = none) (hA : Sd a n l) (hg : zb l ops o = true) (hdst : o.dst = some d) (hd : Nat.blt d n = true) (hnd : ∀ c, o.op ≠ .defer c) {f : FuncId} {vs : List Value} (he : Enters P l o w f vs) {R : World → Prop} (hc : CallsIn F (m - 1) P f vs.toArray w fun e w' => e = .returned v ∧ R w')
    (hk : ∀ w', R w' → ∀ a', Sd a' n ((d, v) :: l) → a'.defers = a.defers → wpListIn F m P ops.toArray Q rest a' w') : wpListIn F m P ops.toArray Q (o :: rest) a w := by
  unfold wpListIn
  rw [if_pos (show Region.wanted o (yielded ops.toArray a.tmps) = true from hA.wanted hg)]
  refine ⟨fun f _ => hF f, ?_⟩
  rw [qia hnd, he a.eval (fun x u hx => hA.ev hx), Oper.uponIn_enter]
  refine ⟨(fun h => by rw [hd0] at h; cases h), hc.mono ?_⟩
  rintro _ w' ⟨rfl, h⟩
  rw [hdst]
  exact hk w' h _ (hA.put hd v) rfl
/-- A loop of so many rounds. -/
theorem zce {c : Code} (I : Nat → Act → World → Prop) (N : Nat) (h0 : I N a w) (round : ∀ k a w, I k a w → c.wpIn F m P (Exit.then (fun a' w' => ∃ j, k = j + 1 ∧ I j a' w') Q) a w) : (Code.loop c).wpIn F m P Q a w := by
  have key : ∀ k a w, I k a w → Code.roundsIn F m P c Q (k + 1) a w := by
    intro k
    induction k with
    | zero =>
      intro a w h
      refine wpIn_mono (round 0 a w h) (fun e a' w' hq => ?_)
      cases e with
      | normal => obtain ⟨j, hj, _⟩ := hq; omega
      | _ => exact hq
    | succ k ih =>
      intro a w h
      refine wpIn_mono (round (k + 1) a w h) (fun e a' w' hq => ?_)
      cases e with
      | normal =>
        obtain ⟨j, hj, hI⟩ := hq
        obtain rfl : k = j := by omega
        exact ih a' w' hI
      | _ => exact hq
  exact wpIn_loop_rounds (N + 1) (key N a w h0)
/-- A round of a loop is called. -/
theorem zaa (hF : ∀ f, F.fn f) (hd0 : F.depth = none) (hA : Sd a n l) (hg : zb l ops o = true) (hdst : o.dst = some d) (hd : Nat.blt d n = true) (hnd : ∀ c, o.op ≠ .defer c) {k : Nat} {vs : List Value} (he : ∀ ρ : Operand → Value, (∀ x u, ev l x = some u → ρ x = u) → (execOp ρ o).run P w = (Instr.yield k vs.toArray).run P w) {R : Bool → World → Prop} (hy : YieldAt F (m - 1) P k vs.toArray w fun e w' => ∃ b, e = .returned (.bool b) ∧ R b w')
    (hk : ∀ b w', R b w' → ∀ a', Sd a' n ((d, .bool b) :: l) → a'.defers = a.defers → wpListIn F m P ops.toArray Q rest a' w') : wpListIn F m P ops.toArray Q (o :: rest) a w := by
  obtain ⟨fn, tmps, assign, body, h1, h2⟩ := hy
  unfold wpListIn
  rw [if_pos (show Region.wanted o (yielded ops.toArray a.tmps) = true from hA.wanted hg)]
  refine ⟨fun f _ => hF f, ?_⟩
  rw [qia hnd, he a.eval (fun x u hx => hA.ev hx), h1, Oper.uponIn_round]
  refine ⟨(fun h => by rw [hd0] at h; cases h), h2.mono ?_⟩
  rintro _ w' ⟨b, rfl, h⟩
  rw [hdst]
  exact hk b w' h _ (hA.put hd (.bool b)) rfl
theorem qki {x : Operand} {k : Nat} {args : List Operand} {ts : Array TypeId} {vs : List Value} {dst : Option Tmp} {ty : TypeId} {pos : String} {after : Array Edge} {guard : Option (Nat × Bool)} (hx : ev l x = some (.func (.yield k) #[] #[])) (ha : evs l args = some vs) :
    ∀ ρ : Operand → Value, (∀ x u, ev l x = some u → ρ x = u) → (execOp ρ ⟨dst, .call ⟨.value x, args.toArray, ts⟩, ty, pos, after, guard⟩).run P w = (Instr.yield k vs.toArray).run P w := fun ρ h => by
  have e := qge h args vs ha
  simp [execOp, resolve, invoke, h x _ hx, Deferred.ofValue, e]
theorem Sd.sl (h : Sd a n l) (hd : a.defers = []) : Sl a n l := ⟨h.size, h.holds, hd⟩
theorem Sd.ev (h : Sd a n l) {x : Operand} {v : Value} (hx : Go.Proofs.YtipikhcmieboaaaGreatDoor.G.ev l x = some v) : a.eval x = v := Sl.ev h hx
theorem Sd.keep (h : Sd a n l) (l' : List (Nat × Value)) (hs : AllIn l l') : Sd a n l' := Sl.keep h l' hs
theorem zcf {f : FuncId} {fn : Func} {c : Code} {args : List Value} {Z : Ending → World → Prop} (hf : P.funcs[f]? = some fn) (hb : fn.body = some c) (hF : F.fn f) (hn : fn.ntmps = n) (hl : Nat.ble args.length n = true) (hs : (args.zipIdx.map fun p => (p.2, p.1)) = l) (hro : F.round = none)
    (h : ∀ Q : Exit → Act → World → Prop, (∀ a w, bodyPost P fn Z .ret a w → Q .ret a w) → (∀ a w, bodyPost P fn Z .ret a w → Q .normal a w) → ∀ a, Sd a n l → a.defers = [] → c.wpIn F m P Q a w) : CallsIn F m P f args.toArray w Z := by
  subst hs
  refine callsIn_of_wp hf hb hF (h _ (fun _ _ h => h) (fun _ _ h => h) _ ?_ rfl) hro
  rw [hn]
  exact Sl.enter (Nat.le_of_ble_eq_true hl)
theorem zab {f : FuncId} {fn : Func} {c : Code} {args : List Value} {Z : Ending → World → Prop} (hf : P.funcs[f]? = some fn) (hb : fn.body = some c) (hF : F.fn f) (hn : fn.ntmps = n) (hl : Nat.ble args.length n = true) (hs : (args.zipIdx.map fun p => (p.2, p.1)) = l) (hro : F.round = none)
    (h : ∀ Q : Exit → Act → World → Prop, (∀ a w, bodyPostM F m P fn Z .ret a w → Q .ret a w) → ∀ a, Sd a n l → a.defers = [] → c.wpIn F m P Q a w) : CallsIn F m P f args.toArray w Z := by
  subst hs
  refine callsIn_of_wp_marks hf hb hF (h _ (fun _ _ h => h) _ ?_ rfl) hro
  rw [hn]
  exact Sl.enter (Nat.le_of_ble_eq_true hl)
theorem ur {x y : Code} (h : ∀ K : Act → World → Prop, (∀ a w, y.wpIn F m P Q a w → K a w) → x.wpIn F m P (Exit.then K Q) a w) : (Code.seq x y).wpIn F m P Q a w := wpIn_seq (h _ (fun _ _ h => h))
theorem qwg (hF : ∀ f, F.fn f) (hA : Sd a n l) (hM : Mg w0 w L) (hg : zb l ops o = true) (hdst : o.dst = some d) (hd : Nat.blt d n = true) (hnd : ∀ c, o.op ≠ .defer c) {vs : List Value} {t : TypeId} (val : Nat → Value) (he : Does P l o w (val w.heap.size) (w.alloc (.cells vs.toArray t))) (ht : t ≠ BY)
    (hk : ∀ g w', Mg w0 w' (.obj g (.cells vs.toArray t) :: L) → w.heap.size ≤ g → g < w'.heap.size → Below w.heap.size w w' → KeepsOthers w w' → ∀ a', Sd a' n ((d, val g) :: l) → a'.defers = a.defers → wpListIn F m P ops.toArray Q rest a' w') : wpListIn F m P ops.toArray Q (o :: rest) a w :=
  vq hF hA hg hdst hd hnd he (hk _ _ (hM.addObj _ (vr ht)) (Nat.le_refl _) (by simp) ((Below.refl _ w).alloc (Nat.le_refl _) _) (KeepsOthers.alloc _ _))
end
theorem kt (g : Nat) : ∀ (cs : List Value) (w : World) (o : Nat), KeepsOthers w (w.setCells g o cs)
  | [], w, o => KeepsOthers.refl w
  | c :: cs, w, o => (KeepsOthers.setCell w ⟨g, o, none⟩ c).trans (kt g cs _ _)
theorem yt {B : Nat} (g : Nat) (hg : B ≤ g) : ∀ (cs : List Value) (w : World) (o : Nat), Below B w (w.setCells g o cs)
  | [], w, o => Below.refl _ w
  | c :: cs, w, o => ((Below.refl B w).setCell (p := ⟨g, o, none⟩) hg c).trans (yt g hg cs _ _)
/-- A block that holds no cells is turned: all cells are kept. -/
theorem qae {w w' : World} {row : Option Nat} (hg : w.grownBy w' row) (hr : ∀ r, row = some r → ∃ o : Obj, w.heap[r]? = some o ∧ o.isCells = false) : Kept (fun _ => True) w w' := ⟨hg.size, fun b i v _ hc => by
  by_cases e : row = some b
  · obtain ⟨o, ho, hn⟩ := hr b e
    unfold World.cell? at hc
    simp only [ho] at hc
    cases o <;> simp_all [Obj.isCells]
  · exact hg.cell hc (fun k => e k.symm)⟩
theorem Mg.calm {w0 w w' : World} {L : List Ck} {row : Option Nat} (h : Mg w0 w L) (hg : w.grownBy w' row) (hr : ∀ r, row = some r → w0.heap.size ≤ r ∧ ∃ o : Obj, w.heap[r]? = some o ∧ o.isCells = false) (hL : ∀ c ∈ L, ∃ g vs t, c = .obj g (.cells vs t)) : Mg w0 w' L := by
  refine ⟨h.bel.grown hg h.bel.size (fun k e => (hr k e).1), fun c hc => ?_, h.dis⟩
  obtain ⟨g, vs, t, rfl⟩ := hL c hc
  have h2 := h.all _ hc
  refine ⟨h2.1, (hg.block g (Array.getElem?_eq_some_iff.1 h2.2).1 (fun e => ?_)).trans h2.2⟩
  obtain ⟨_, o, ho, hn⟩ := hr g e.symm
  rw [h2.2] at ho
  cases ho
  cases hn
theorem Dt.at_true : ∀ t : Dt, t.at_ (fun _ => True) := Dt.indT fun d ts ih => Dt.at_iff.2 ⟨⟨fun _ _ _ _ => trivial, fun _ _ _ _ => trivial, fun _ _ _ _ => trivial, fun _ _ _ _ => trivial, fun _ _ _ _ => trivial⟩, fun _ _ _ _ => trivial, ih⟩
theorem Here.kept {w w' : World} {b o : Nat} {cs : List Value} (h : Here w b o cs) (hk : Kept (fun _ => True) w w') : Here w' b o cs := ⟨Nat.lt_of_lt_of_le h.1 hk.1, fun j v hj => hk.2 _ _ _ trivial (h.2 j v hj)⟩
theorem qdj : Is1 Tryz.prog 22 := ⟨⟨_, Tryz.underlying22, rfl⟩, by kernel_rfl⟩
theorem ki : IsS Tryz.prog 30 11 := ⟨⟨_, Tryz.underlying30⟩, by kernel_rfl⟩
/-- What is handed to a round: a place, and a datum that was there. -/
def Al (w : World) : Type := { x : Int × Dt // x.2.rd w }
def zdj {w : World} (x : Al w) : Array Value := #[.int .i64 x.1.1, .agg (x.1.2.d.cells x.1.2.ts.length).toArray]
/-- What a round keeps: what lay there, and the iterator's own box. -/
def KpB (n₀ Bs : Nat) (W W' : World) : Prop := Below n₀ W W' ∧ ∀ v, W.cell? ⟨Bs, 0, none⟩ = some v → W'.cell? ⟨Bs, 0, none⟩ = some v
theorem KpB.refl (n₀ Bs : Nat) (W : World) : KpB n₀ Bs W W := ⟨Below.refl _ _, fun _ h => h⟩
theorem KpB.trans {n₀ Bs : Nat} {A B C : World} (h : KpB n₀ Bs A B) (k : KpB n₀ Bs B C) : KpB n₀ Bs A C := ⟨h.1.trans k.1, fun v hv => k.2 v (h.2 v hv)⟩
set_option maxRecDepth 100000 in
set_option maxHeartbeats 400000 in
theorem qob {wA w0 : World} {Bs : Nat} {so : Option Addr} {ca : Nat} {ts : List Dt} (hR : Rt wA so ts) (hD : ∀ t ∈ ts, t.rd wA) (hb : Below wA.heap.size wA w0) (hBs : w0.cell? ⟨Bs, 0, none⟩ = some (.slice so ts.length ca)) (hBl : Bs < w0.heap.size) (hl : ts.length ≤ 1000000000) (n : Nat) :
    SeqStopsK Fence.wide n Tryz.prog 98 #[.pointer (some ⟨Bs, 0, none⟩)] (zdj (w := wA)) (KpB wA.heap.size Bs) (fun ys => ys.map (fun x => x.1.2) = ts.reverse) (fun _ => True) ts.length w0 := by
  intro l J Jx W hW hJ hJx hY h0
  have hF : ∀ f, Fence.wide.fn f := fun _ => trivial
  rw [List.append_toArray]
  refine zcf (l := [(0, .func (.yield l) #[] #[]), (1, .pointer (some ⟨Bs, 0, none⟩))]) Tryz.func98 rfl trivial rfl rfl rfl rfl ?_
  intro Q hret hnorm a hA hdf
  have hc : W.cell? ⟨Bs, 0, none⟩ = some (.slice so ts.length ca) := (hW.cell (p := ⟨Bs, 0, none⟩) hBl).trans hBs
  refine ur fun K1 hK1 => wpIn_region_lit ?_
  refine vq (v := .slice so ts.length ca) hF hA rfl rfl rfl (by intro c h; cases h) (jm rfl (xt qdj hc)) fun a hA h2 => ?_
  refine vq (v := .int .i64 (ts.length : Nat)) hF hA rfl rfl rfl (by intro c h; cases h) (zq Tryz.underlying22 rfl) fun a hA h3 => ?_
  refine vq (v := .int .i64 ((ts.length : Int) - 1)) hF hA rfl rfl rfl (by intro c h; cases h) (qf rfl rfl (ar_sub (in_i64 (by omega) (by omega)))) fun a hA h4 => ?_
  refine vq (v := .int .i64 ((ts.length : Int) - 1)) hF hA rfl rfl rfl (by intro c h; cases h) (ji rfl) fun a hA h5 => ?_
  refine wpListIn_nil (hK1 _ _ (wpIn_block ?_))
  refine zce (fun k a W' => k ≤ ts.length ∧ Sd a 19 [(0, .func (.yield l) #[] #[]), (1, .pointer (some ⟨Bs, 0, none⟩)), (3, .int .i64 ((k : Int) - 1))] ∧ a.defers = [] ∧ KpB wA.heap.size Bs W W' ∧ ∃ pre, J pre W' ∧ pre.map (fun x => x.1.2) = (ts.drop k).reverse) ts.length ⟨Nat.le_refl _, hA.keep _ ⟨rfl, rfl, rfl, trivial⟩, by rw [h5, h4, h3, h2, hdf], KpB.refl _ _ _, [], h0, by rw [List.drop_length]; rfl⟩ ?_
  rintro k a W' ⟨hk, hA, hd, hKp, pre, hJp, hpre⟩
  have hc' := hKp.2 _ hc
  refine ur fun K2 hK2 => ur fun K3 hK3 => wpIn_region_lit ?_
  refine vq (v := .int .i64 ((k : Int) - 1)) hF hA rfl rfl rfl (by intro c h; cases h) (qh rfl) fun a hA h2 => ?_
  refine vq (v := .bool (decide ((0 : Int) ≤ (k : Int) - 1))) hF hA rfl rfl rfl (by intro c h; cases h) (qf rfl rfl km) fun a hA h3 => ?_
  refine wpListIn_nil (hK3 _ _ ?_)
  refine wpIn_cond_split (t := decide ((0 : Int) ≤ (k : Int) - 1)) (hA.ev rfl) (fun hq => ?_) (fun hq => ?_)
  · have hq' := of_decide_eq_true hq
    refine wpIn_skip (hK2 _ _ (ur fun K4 hK4 => wpIn_block (ur fun K5 hK5 => wpIn_region_lit ?_)))
    obtain ⟨t1, b1, o1, it1, mt1, rt1, lt1, Ht1⟩ := qyi hR hD (i := k - 1) (by omega)
    refine vq (v := .func (.yield l) #[] #[]) hF hA rfl rfl rfl (by intro c h; cases h) (qh rfl) fun a hA h4 => ?_
    refine vq (v := .int .i64 ((k : Int) - 1)) hF hA rfl rfl rfl (by intro c h; cases h) (qh rfl) fun a hA h5 => ?_
    refine vq (v := .slice so ts.length ca) hF hA rfl rfl rfl (by intro c h; cases h) (jm rfl (xt qdj hc')) fun a hA h6 => ?_
    refine vq (v := .int .i64 ((k : Int) - 1)) hF hA rfl rfl rfl (by intro c h; cases h) (qh rfl) fun a hA h7 => ?_
    refine vq (v := .pointer (some ⟨b1, o1 + (k - 1) * 11, none⟩)) hF hA rfl rfl rfl (by intro c h; cases h) (zg (k := k - 1) Tryz.underlying22 (by kernel_rfl) rfl rfl (by omega) lt1 (by omega)) fun a hA h8 => ?_
    have hbW : Below wA.heap.size wA W' := (hb.trans (hW.mono hb.size)).trans hKp.1
    refine vq (v := .agg (t1.d.cells t1.ts.length).toArray) hF hA rfl rfl rfl (by intro c h; cases h) (jm rfl (xr ki _ rfl (fun j v hj => (hbW.cell Ht1.1).trans (Ht1.2 j v hj)))) fun a hA h9 => ?_
    have hlen : pre.length < ts.length := by
      have := congrArg List.length hpre
      simp only [List.length_map, List.length_reverse, List.length_drop] at this
      omega
    refine zaa (k := l) (vs := [.int .i64 ((k : Int) - 1), .agg (t1.d.cells t1.ts.length).toArray]) (R := fun b W2 => (b = true ∧ J (pre ++ [⟨((k : Int) - 1, t1), rt1⟩]) W2 ∧ KpB wA.heap.size Bs W' W2) ∨ (b = false ∧ Jx (pre ++ [⟨((k : Int) - 1, t1), rt1⟩]) W2)) hF rfl hA rfl rfl rfl (by intro c h; cases h) (qki rfl rfl) ?_ ?_
    · have := hY pre ⟨((k : Int) - 1, t1), rt1⟩ W' hJp hlen
      obtain ⟨fn, tmps, assign, body, e1, e2⟩ := this
      refine ⟨fn, tmps, assign, body, e1, e2.mono ?_⟩
      rintro e W2 (⟨rfl, h1, h2⟩ | ⟨rfl, h1⟩)
      · exact ⟨true, rfl, .inl ⟨rfl, h1, h2⟩⟩
      · exact ⟨false, rfl, .inr ⟨rfl, h1⟩⟩
    · rintro b W2 hR2 a hA h10
      refine vq (v := .bool (!b)) hF hA rfl rfl rfl (by intro c h; cases h) (zv rfl jg) fun a hA h11 => ?_
      refine wpListIn_nil (hK5 _ _ ?_)
      have hdd : a.defers = [] := by rw [h11, h10, h9, h8, h7, h6, h5, h4, h3, h2, hd]
      rcases hR2 with ⟨rfl, hJ2, hK2'⟩ | ⟨rfl, hJx2⟩
      · refine wpIn_cond_false (hA.ev rfl) (wpIn_skip (hK4 _ _ (wpIn_region_lit ?_)))
        refine vq (v := .int .i64 ((k : Int) - 1)) hF hA rfl rfl rfl (by intro c h; cases h) (qh rfl) fun a hA g1 => ?_
        refine vq (v := .int .i64 (((k - 1 : Nat) : Int) - 1)) hF hA rfl rfl rfl (by intro c h; cases h) (qf rfl rfl (ar_sub ((in_i64 (by omega) (by omega)).trans (by omega)))) fun a hA g2 => ?_
        refine vq (v := .int .i64 (((k - 1 : Nat) : Int) - 1)) hF hA rfl rfl rfl (by intro c h; cases h) (ji rfl) fun a hA g3 => ?_
        refine wpListIn_nil ?_
        refine ⟨k - 1, by omega, by omega, hA.keep _ ⟨rfl, rfl, rfl, trivial⟩, by rw [g3, g2, g1, hdd], hKp.trans hK2', _, hJ2, ?_⟩
        rw [List.map_append, hpre, List.drop_eq_getElem_cons (show k - 1 < ts.length by omega), List.reverse_cons, show k - 1 + 1 = k by omega]
        congr 1
        have := (List.getElem?_eq_some_iff.1 it1).2
        rw [this]
        rfl
      · refine wpIn_cond_true (hA.ev rfl) (wpIn_ret ?_)
        refine hret _ _ ?_
        exact xf (rs := []) (vs := []) (v := .tuple #[]) (hA.sl hdd) rfl .nil rfl ⟨⟨_, rfl⟩, .inr ⟨_, trivial, hJx2⟩⟩
  · have hq' := of_decide_eq_false hq
    refine wpIn_exit ?_
    obtain rfl : k = 0 := by omega
    refine hnorm _ _ ?_
    exact xf (rs := []) (vs := []) (v := .tuple #[]) (hA.sl (by rw [h3, h2, hd])) rfl .nil rfl ⟨⟨_, rfl⟩, .inl ⟨pre, hpre, hJp⟩⟩
theorem qwh {w : World} {so : Option Addr} {k ca : Nat} : Calls Tryz.prog 81 #[.slice so k ca] w fun e w' => e = .returned (.func (.func 98) #[] #[.pointer (some ⟨w.heap.size, 0, none⟩)]) ∧ w' = w.alloc (.cells #[.slice so k ca] 22) := by
  refine qp (l := [(0, .slice so k ca)]) Tryz.func81 rfl Tryz.ntmps81 rfl rfl ?_
  intro Q hret hnorm hP a hA
  refine wp_seq_k (fun K1 hK1 => ?_)
  refine wp_region_lit ?_
  refine vm (v := .pointer (some ⟨w.heap.size, 0, none⟩)) (w' := w.alloc (.cells #[.slice so k ca] 22)) hA rfl rfl rfl (zd (vs := [.slice so k ca]) rfl rfl) fun a hA => ?_
  refine vm hA rfl rfl rfl (ji rfl) fun a hA => ?_
  refine qa (hK1 _ _ (wp_seq_k (fun K2 hK2 => wp_region_lit ?_)))
  refine vm hA rfl rfl rfl (yh rfl) fun a hA => ?_
  refine vm hA rfl rfl rfl (ji rfl) fun a hA => ?_
  refine qa (hK2 _ _ (wp_ret (hret _ _ ?_)))
  exact xf (rs := [.tmp 2]) hA rfl (.cons (qi rfl) .nil) rfl ⟨rfl, rfl⟩
def ZC : List Value := [.int .i64 0, .int .i64 0, .bool false, .slice none 0 0, .slice none 0 0, .bool false, .slice none 0 0, .slice none 0 0, .string ⟨#[]⟩, .slice none 0 0, .slice none 0 0]
theorem qkj {g1 g2 : Nat} {v1 v2 : Array Value} {t : TypeId} : ∀ c ∈ [Ck.obj g1 (.cells v1 t), Ck.obj g2 (.cells v2 t)], ∃ g vs t, c = Ck.obj g (.cells vs t) := by
  intro c hc
  simp only [List.mem_cons, List.not_mem_nil, or_false] at hc
  rcases hc with rfl | rfl
  · exact ⟨_, _, _, rfl⟩
  · exact ⟨_, _, _, rfl⟩
/-- The last datum so far lies in the box. -/
def LinkI (w : World) (g3 g4 : Nat) (u : Tr) (pre : List (Al w)) (W : World) : Prop := ∃ z : Dt, Mg w W [.obj g4 (.cells ZC.toArray 30), .obj g3 (.cells (z.d.cells z.ts.length).toArray 30)] ∧ z.rd W ∧ z.at_ (fun b => b ≠ g3 ∧ b ≠ g4) ∧ z.tr = za ((pre.map (fun x => x.1.2.tr)).reverse) u
theorem qsj (w : World) (g3 g4 : Nat) (u : Tr) (B : Nat) (hB : w.heap.size ≤ B) : OwnFrom B (LinkI w g3 g4 u) := by
  rintro pre W W' row ⟨z, hM, hr, ha, ht⟩ hg hrow
  exact ⟨z, hM.calm hg (fun r e => ⟨Nat.le_trans hB (hrow r e).1, (hrow r e).2⟩) qkj, Dt.kept (qae hg (fun r e => (hrow r e).2)) _ hr (Dt.at_true _), ha, ht⟩
set_option maxRecDepth 100000 in
set_option maxHeartbeats 1000000 in
theorem qea {w : World} {so : Option Addr} {ca : Nat} {ts : List Dt} {u : Dt} (hR : Rt w so ts) (hD : ∀ t ∈ ts, t.rd w) (hu : u.rd w) (hl : ts.length ≤ 1000000000) : Calls Tryz.prog 63 #[.slice so ts.length ca, .agg (u.d.cells u.ts.length).toArray] w fun e w' => ∃ t2 : Dt, e = .returned (.agg (t2.d.cells t2.ts.length).toArray) ∧ (t2.rd w' ∧ t2.tr = za (ts.map Dt.tr) u.tr) ∧ Below w.heap.size w w' := by
  refine (callsIn_wide (n := 5)).1 ?_
  have hF : ∀ f, Fence.wide.fn f := fun _ => trivial
  refine zab (l := [(0, .slice so ts.length ca), (1, .agg (u.d.cells u.ts.length).toArray)]) Tryz.func63 rfl trivial rfl rfl rfl rfl ?_
  intro Q hret a hA hdf
  have hM : Mg w w [] := Mg.start w
  refine ur fun K1 hK1 => wpIn_region_lit ?_
  refine qwg (vs := u.d.cells u.ts.length) (t := 30) hF hA hM rfl rfl rfl (by intro c h; cases h) (fun g => .pointer (some ⟨g, 0, none⟩)) (zd rfl rfl) (by decide) ?_
  intro g3 W1 hM hg3 hg3' hB1 _ a hA h2
  refine qwg (vs := ZC) (t := 30) hF hA hM rfl rfl rfl (by intro c h; cases h) (fun g => .pointer (some ⟨g, 0, none⟩)) (zi (z := .agg ZC.toArray) (by kernel_rfl) rfl) (by decide) ?_
  intro g4 W2 hM hg4 hg4' hB2 _ a hA h3
  refine wpListIn_nil (hK1 _ _ (ur fun K2 hK2 => ur fun K3 hK3 => wpIn_region_lit ?_))
  refine vq (v := .slice so ts.length ca) hF hA rfl rfl rfl (by intro c h; cases h) (qh rfl) fun a hA h4 => ?_
  refine zcd (R := fun W3 => W3 = W2.alloc (.cells #[.slice so ts.length ca] 22)) hF rfl hA rfl rfl rfl (by intro c h; cases h) (zw rfl rfl (fun w => by kernel_rfl)) (callsIn_wide.2 qwh) ?_
  rintro W3 hW3 a hA h5
  refine wpListIn_nil (hK3 _ _ (wpIn_block ?_))
  have hB3 : Below W2.heap.size W2 W3 := hW3 ▸ (Below.refl _ W2).alloc (Nat.le_refl _) _
  have hs3 : W3.heap.size = W2.heap.size + 1 := by rw [hW3]; simp
  have hc3 : W3.cell? ⟨W2.heap.size, 0, none⟩ = some (.slice so ts.length ca) := by
    rw [hW3, cell_of_row _ _ _ _ _ _ (heap_alloc_new W2 _)]; rfl
  replace hM := hM.call hB3
  have hw2 : w.heap.size ≤ W2.heap.size := by omega
  have hur : u.rd W3 := Dt.keep hM.bel _ hu
  have hua : u.at_ (fun b => b ≠ g3 ∧ b ≠ g4) := Dt.at_mono (fun b hb => by constructor <;> omega) _ (Dt.at_lt _ hu)
  refine wpIn_rangeFunc_ownH (F := Fence.wide) rfl (by decide) (gf := 98) (lb := #[.pointer (some ⟨W2.heap.size, 0, none⟩)]) (hA.ev rfl) trivial (fun us w => by kernel_rfl)
    (qob hR hD hM.bel hc3 (by omega) hl _) KpB.trans ?hkb (Below.refl _ _) (fun _ => rfl)
    (LinkI w g3 g4 u.tr) (fun _ _ _ => False) (qsj w g3 g4 u.tr _ (by omega)) (fun _ _ _ _ _ hs _ _ => hs)
    ⟨u, hM, hur, hua, rfl⟩
    (fun x a' W => ∃ Bx, Sd a' 16 [(3, .pointer (some ⟨g3, 0, none⟩)), (4, .pointer (some ⟨g4, 0, none⟩)), (6, .pointer (some ⟨Bx, 0, none⟩))] ∧ Here W Bx 0 (x.1.2.d.cells x.1.2.ts.length))
    (fun x a' _ X Y row hs hg hr => by obtain ⟨Bx, h1, h2⟩ := hs; exact ⟨Bx, h1, h2.kept (qae hg (fun r e => (hr r e).2))⟩)
    ?assign ?body ?done ?stop
  case hkb =>
    intro W l o o' hl1 hl2 hl3 _
    refine ⟨⟨rfl, rfl, rfl, (grownBy_putObj' W l o').size, fun k hk => ?_⟩, fun v hv => ?_⟩
    · by_cases hk2 : k < W.heap.size
      · exact (grownBy_putObj' W l o').block k hk2 (fun e => by cases e; omega)
      · have := (Array.getElem?_eq_some_iff.1 hl2).1; omega
    · exact (grownBy_putObj' W l o').cell hv (fun e => by have e' : W2.heap.size = l := Option.some.inj e; omega)
  case assign =>
    rintro l pre x W K ⟨z, hMz, hrz, haz, htz⟩ hK
    have hA1 : Sd { tmps := (a.tmps.setIfInBounds 9 (.int .i64 x.1.1)).setIfInBounds 10 (.agg (x.1.2.d.cells x.1.2.ts.length).toArray), defers := [] } 16 _ := Sl.put (Sl.put hA (d := 9) rfl (.int .i64 x.1.1)) (d := 10) rfl (.agg (x.1.2.d.cells x.1.2.ts.length).toArray)
    have hF2 : ∀ f, (Fence.wide.inRound l).fn f := fun _ => trivial
    have hxr : x.1.2.rd W := Dt.keep hMz.bel _ x.2
    simp only [zdj, List.zip_toArray, List.zip_cons_cons, List.zip_nil_left, List.zip_nil_right, List.foldl_toArray', List.foldl_toArray, List.foldl_cons, List.foldl_nil]
    refine wpIn_region_lit ?_
    refine qwg (a := { tmps := (a.tmps.setIfInBounds 9 (.int .i64 x.1.1)).setIfInBounds 10 (.agg (x.1.2.d.cells x.1.2.ts.length).toArray), defers := [] }) (vs := ZC) (t := 30) hF2 hA1 hMz rfl rfl rfl (by intro c h; cases h) (fun g => .pointer (some ⟨g, 0, none⟩)) (zi (z := .agg ZC.toArray) (by kernel_rfl) rfl) (by decide) ?_
    intro Bx W6 hM6 hBx hBx' hB6 hK6 a6 hA6 _
    refine qwf (w' := W6.setCells Bx 0 (x.1.2.d.cells x.1.2.ts.length)) hF2 hA6 rfl rfl (by intro c h; cases h) (qw rfl rfl rfl (by kernel_rfl) hM6 0 rfl rfl (zh x.1.2)) ?_
    have hM7 : Mg w (W6.setCells Bx 0 (x.1.2.d.cells x.1.2.ts.length)) (.obj Bx (.cells (x.1.2.d.cells x.1.2.ts.length).toArray 30) :: [.obj g4 (.cells ZC.toArray 30), .obj g3 (.cells (z.d.cells z.ts.length).toArray 30)]) := Mg.puts (x.1.2.d.cells x.1.2.ts.length) W6 _ ZC 0 hM6 0 rfl
    have hkp : Kept (· ≠ Bx) W6 (W6.setCells Bx 0 (x.1.2.d.cells x.1.2.ts.length)) := kd _ _ _ _
    have hks := hK6.trans (kt Bx (x.1.2.d.cells x.1.2.ts.length) W6 0)
    have hsW := hMz.bel.size
    have hbs := (hB6.mono hsW).trans (yt (B := w.heap.size) Bx (by omega) (x.1.2.d.cells x.1.2.ts.length) W6 0)
    revert hkp hM7 hks hbs
    generalize W6.setCells Bx 0 (x.1.2.d.cells x.1.2.ts.length) = W7
    intro hM7 hkp hks hbs
    refine wpListIn_nil (hK _ _ (hks.from _) ⟨hbs, fun v hv => hkp.2 _ _ _ (show W2.heap.size ≠ Bx by have := cell_lt hv; omega) ((hB6.cell (p := ⟨W2.heap.size, 0, none⟩) (cell_lt hv)).trans hv)⟩ ⟨z, hM7.sub (cn (.refl _)), Dt.kept hkp _ (Dt.keep hB6 _ hrz) (Dt.at_mono (fun b hb => by intro e; omega) _ (Dt.at_lt _ hrz)), haz, htz⟩ ⟨Bx, hA6.keep _ ⟨rfl, rfl, rfl, trivial⟩, (Array.getElem?_eq_some_iff.1 (hM7.obj 0 rfl)).1, fun j v hj => by rw [Nat.zero_add]; exact hM7.cell 0 rfl j hj⟩)
  case body =>
    rintro l pre x a' W hl1 _ ⟨z, hMz, hrz, haz, htz⟩ ⟨Bx, hA, hH⟩ _
    have hF2 : ∀ f, (Fence.wide.inRound l).fn f := fun _ => trivial
    have hxr : x.1.2.rd W := Dt.keep hMz.bel _ x.2
    refine wpIn_block (wpIn_region_lit ?_)
    refine vq (v := .agg (x.1.2.d.cells x.1.2.ts.length).toArray) hF2 hA rfl rfl rfl (by intro c h; cases h) (jm rfl (xr ki _ rfl (fun j v hj => by have := hH.2 j v hj; rwa [Nat.zero_add] at this ⊢))) fun a hA h6 => ?_
    refine vq (v := .agg (z.d.cells z.ts.length).toArray) hF2 hA rfl rfl rfl (by intro c h; cases h) (ze hMz ki rfl 1 rfl (cs := z.d.cells z.ts.length) rfl rfl) fun a hA h7 => ?_
    refine vq (v := .slice (some ⟨W.heap.size, 0, none⟩) 2 2) (w' := W.alloc (.cells (qb [x.1.2, z]).toArray 30)) hF2 hA rfl rfl rfl (by intro c h; cases h) (jc rfl (by kernel_rfl)) fun a hA h8 => ?_
    obtain ⟨z2, hz2⟩ : ∃ z2 : Dt, z2 = jw W.heap.size x.1.2 z := ⟨_, rfl⟩
    refine vq (v := .agg (z2.d.cells z2.ts.length).toArray) hF2 hA rfl rfl rfl (by intro c h; cases h) (by rw [hz2, qje]; exact zp rfl (fun w => by kernel_rfl)) fun a hA h9 => ?_
    have hB4 : Below W.heap.size W (W.alloc (.cells (qb [x.1.2, z]).toArray 30)) := (Below.refl _ W).alloc (Nat.le_refl _) _
    have hM4 := hMz.call hB4
    have hnew := heap_alloc_new W (.cells (qb [x.1.2, z]).toArray 30)
    have hK4 : KeepsOthers W (W.alloc (.cells (qb [x.1.2, z]).toArray 30)) := KeepsOthers.alloc _ _
    have hs4 : (W.alloc (.cells (qb [x.1.2, z]).toArray 30)).heap.size = W.heap.size + 1 := by simp
    have hg3W : g3 < W.heap.size := (Ck.lt (hMz.has 1 rfl) g3 rfl).2
    have hg4W : g4 < W.heap.size := (Ck.lt (hMz.has 0 rfl) g4 rfl).2
    have hsW := hMz.bel.size
    revert hB4 hM4 hnew hK4 hs4
    generalize W.alloc (.cells (qb [x.1.2, z]).toArray 30) = W4
    intro hB4 hM4 hnew hK4 hs4
    refine qwf (w' := W4.setCells g3 0 (z2.d.cells z2.ts.length)) hF2 hA rfl rfl (by intro c h; cases h) (qw rfl rfl rfl (by kernel_rfl) hM4 1 rfl rfl (zh z2)) ?_
    refine wpListIn_nil ?_
    have hkp : Kept (· ≠ g3) W4 (W4.setCells g3 0 (z2.d.cells z2.ts.length)) := kd _ _ _ _
    have hM5 : Mg w (W4.setCells g3 0 (z2.d.cells z2.ts.length)) [.obj g4 (.cells ZC.toArray 30), .obj g3 (.cells (z2.d.cells z2.ts.length).toArray 30)] := Mg.puts (z2.d.cells z2.ts.length) W4 _ (z.d.cells z.ts.length) 0 hM4 1 rfl
    have hx5 : x.1.2.rd (W4.setCells g3 0 (z2.d.cells z2.ts.length)) := Dt.keep hM5.bel _ x.2
    have hz5 : z.rd (W4.setCells g3 0 (z2.d.cells z2.ts.length)) := Dt.kept hkp _ (Dt.keep hB4 _ hrz) (Dt.at_mono (fun b hb => hb.1) _ haz)
    have hxa : x.1.2.at_ (fun b => b ≠ g3 ∧ b ≠ g4) := Dt.at_mono (fun b hb => by constructor <;> omega) _ (Dt.at_lt _ x.2)
    have hks := hK4.trans (kt g3 (z2.d.cells z2.ts.length) W4 0)
    have hbs := (hB4.mono hsW).trans (yt (B := w.heap.size) g3 (by omega) (z2.d.cells z2.ts.length) W4 0)
    revert hkp hM5 hx5 hz5 hks hbs
    generalize W4.setCells g3 0 (z2.d.cells z2.ts.length) = W5
    intro hkp hM5 hx5 hz5 hks hbs
    refine ⟨hks.from _, ⟨hbs, fun v hv => hkp.2 _ _ _ (show W2.heap.size ≠ g3 by omega) ((hB4.cell (p := ⟨W2.heap.size, 0, none⟩) (cell_lt hv)).trans hv)⟩, z2, hM5, ?_, ?_, ?_⟩
    · rw [hz2]
      refine qjg (by have := hkp.1; omega) (fun p v hp => hkp.2 _ _ _ (show W.heap.size ≠ g3 by omega) ?_) hx5 hz5
      rw [cell_of_row _ _ _ _ _ _ hnew]
      simpa using hp
    · rw [hz2]
      exact qva ⟨by omega, by omega⟩ hxa haz
    · rw [hz2, qjf, List.map_append, List.reverse_append]
      show Tr.mk 8 0 Q6.zero ⟨#[]⟩ [] [x.1.2.tr, z.tr] = za (x.1.2.tr :: _) u.tr
      rw [htz]
      rfl
  case done =>
    rintro D xs W hD1 hS ⟨z, hMz, hrz, haz, htz⟩ hDf
    have hA2 : Sd { a with defers := { target := .collected D, args := #[] } :: a.defers } 16 _ := hA
    revert hA2
    generalize hae : ({ a with defers := { target := .collected D, args := #[] } :: a.defers } : Act) = a2
    intro hA2
    have had : a2.defers = [{ target := .collected D, args := #[] }] := by rw [← hae]; show _ :: a.defers = _; rw [h5, h4, h3, h2, hdf]
    refine hK2 _ _ (ur fun K6 hK6 => wpIn_region_lit ?_)
    refine vq (v := .agg (z.d.cells z.ts.length).toArray) hF hA2 rfl rfl rfl (by intro c h; cases h) (ze hMz ki rfl 1 rfl (cs := z.d.cells z.ts.length) rfl rfl) fun a3 hA3 h6 => ?_
    refine qwf (w' := W.setCells g4 0 (z.d.cells z.ts.length)) hF hA3 rfl rfl (by intro c h; cases h) (qw rfl rfl rfl (by kernel_rfl) hMz 0 rfl rfl (zh z)) ?_
    have hM5 : Mg w (W.setCells g4 0 (z.d.cells z.ts.length)) [.obj g4 (.cells (z.d.cells z.ts.length).toArray 30), .obj g3 (.cells (z.d.cells z.ts.length).toArray 30)] := Mg.puts (z.d.cells z.ts.length) W _ ZC 0 hMz 0 rfl
    have hz5 : z.rd (W.setCells g4 0 (z.d.cells z.ts.length)) := Dt.kept (kd _ _ _ _) _ hrz (Dt.at_mono (fun b hb => hb.2) _ haz)
    have hD5 := (kt g4 (z.d.cells z.ts.length) W 0).same D _ hDf rfl
    have hgr := grownBy_putObj' (W.setCells g4 0 (z.d.cells z.ts.length)) D (.deferred none)
    have hM6 := hM5.calm hgr (fun r e => by cases e; exact ⟨by omega, _, hD5, rfl⟩) qkj
    have hz6 := Dt.kept (qae hgr (fun r e => by cases e; exact ⟨_, hD5, rfl⟩)) _ hz5 (Dt.at_true _)
    refine wpListIn_nil (hK6 _ _ (wpIn_ret (hret _ _ ?_)))
    show LeavesInM _ _ _ _ _ _ a3.defers .returning _
    rw [h6, had]
    refine ⟨by simp, .inl ⟨D, _, rfl, run_takeDeferred hD5, ?_⟩⟩
    have hfin : (fun (e : Ending) (w' : World) => ∃ t2 : Dt, e = .returned (.agg (t2.d.cells t2.ts.length).toArray) ∧ (t2.rd w' ∧ t2.tr = za (ts.map Dt.tr) u.tr) ∧ Below w.heap.size w w') (.returned (.agg (z.d.cells z.ts.length).toArray)) ((W.setCells g4 0 (z.d.cells z.ts.length)).putObj D (.deferred none)) := by
      refine ⟨z, rfl, ⟨hz6, ?_⟩, hM6.bel⟩
      rw [htz]
      have e1 : xs.map (fun x => x.1.2.tr) = (xs.map (fun x => x.1.2)).map Dt.tr := by rw [List.map_map]; rfl
      rw [e1, show xs.map (fun x => x.1.2) = ts.reverse from hS, List.map_reverse, List.reverse_reverse]
    exact (xf (P := Tryz.prog) (fn := Tryz.f63) (Z := (fun (e : Ending) (w' : World) => ∃ t2 : Dt, e = .returned (.agg (t2.d.cells t2.ts.length).toArray) ∧ (t2.rd w' ∧ t2.tr = za (ts.map Dt.tr) u.tr) ∧ Below w.heap.size w w')) (v := .agg (z.d.cells z.ts.length).toArray) (rs := [.cell 4 30]) (vs := [.agg (z.d.cells z.ts.length).toArray]) hA3 rfl (.cons (jh hM6 ki rfl 0 rfl (cs := z.d.cells z.ts.length) rfl rfl) .nil) rfl hfin).2
  case stop =>
    rintro D c pre W _ _ h _
    exact h.elim
theorem LiE_isS_30 : IsS Tryz.prog 30 11 := ⟨⟨_, Tryz.underlying30⟩, by kernel_rfl⟩
theorem yu {w : World} {so : Option Addr} {ca : Nat} {ts : List Dt} (hR : Rt w so ts) (hD : ∀ t ∈ ts, t.rd w) (hl : ts.length ≤ 1000000000) (hT : Tabs8 w) {b : Bool} (h : (ts.all fun t => qt qk t.tr) = b) : Calls Tryz.prog 34 #[.slice so ts.length ca] w fun e w' => e = .returned (.bool b) ∧ Below w.heap.size w w' := h ▸ qhh hR hD hl hT
theorem ut {w : World} {so : Option Addr} {ca : Nat} {t : Dt} (hR : Rt w so [t]) (ht : t.rd w) (hT : Tabs8 w) {b : Bool} (h : qt qk t.tr = b) : Calls Tryz.prog 34 #[.slice so 1 ca] w fun e w' => e = .returned (.bool b) ∧ Below w.heap.size w w' :=
 yu (ts := [t]) hR (fun u hu => by rw [List.mem_singleton.1 hu]; exact ht) (by simp) hT (by rw [List.all_cons, List.all_nil, Bool.and_true]; exact h)
theorem yv {w0 w : World} {t : Dt} (h0 : Below w0.heap.size w0 w) (ht0 : t.rd w0) {so : Option Addr} {ca : Nat} {ts : List Dt} (hR : Rt w so ts) (hD : ∀ t ∈ ts, t.rd w) (hl : ts.length ≤ 1000000000) (hb : t.tr.bulk ≤ 1000000000) (hT : Tabs8 w) : Calls Tryz.prog 31 #[.agg (t.d.cells t.ts.length).toArray, .slice so ts.length ca] w fun e w' => (∃ so' ca' ys, e = .returned (.tuple #[.slice so' (ys : List Dt).length ca', .int .i64 0]) ∧ ((qt qk t.tr && (ts.all fun t => qt qk t.tr)) = true ∧ jd t.tr = some (ys.map Dt.tr) ∧ (∀ x ∈ ys, x.rd w0) ∧ ys.length ≤ t.tr.bulk) ∧ Mg w w' [.row 30 11 (.slice so' ys.length ca') ys.length (qb ys)]) ∨ (e = .returned (.tuple #[.slice none 0 0, .int .i64 10]) ∧ ((qt qk t.tr && (ts.all fun t => qt qk t.tr)) = true ∧ jd t.tr = none) ∧ Below w.heap.size w w') ∨ (e = .returned (.tuple #[.slice none 0 0, .int .i64 2]) ∧ (qt qk t.tr && (ts.all fun t => qt qk t.tr)) = false ∧ Below w.heap.size w w') := by
 have ht := Dt.keep h0 _ ht0
 have M : Mg w w ([]) := Mg.start w
 refine qp (l := [(0, .agg (t.d.cells t.ts.length).toArray), (1, .slice so ts.length ca)]) Tryz.func31 rfl Tryz.ntmps31 rfl rfl ?_
 intro Q hret hnorm hP a A
 refine wsk fun K1 hK1 => wrl (ja (vs := (t.d.cells t.ts.length)) (t := 30) A M rfl rfl rfl pg (zd rfl rfl) (by decide) ?_)
 intro g2 w3 M a A
 iterate 2 refine sda A λa A↦?_
 refine qa (hK1 _ _ (wsk fun K4 hK4 => wsk fun K5 hK5 => wrl (sdo A (ze M LiE_isS_30 rfl 0 rfl (cs := (t.d.cells t.ts.length)) rfl rfl) λa A↦?_)))
 refine ux (e := 30) (sz := 11) (m := 1) (vs := qb [t]) A M rfl rfl rfl (jc rfl (by kernel_rfl)) rfl rfl (.inl (by decide)) ?_
 intro g6 w7 M a A
 rcases tf (qt qk t.tr) with hb8 | hb8
 ·
  refine gcl A M (ef rfl rfl) (ut (vw (M.has 0 rfl)).1 (Dt.keep M.bel _ ht) (hT.below M.bel) hb8) fun w10 hb9 M a A => ?_
  refine sdo (v := .bool false) A (zv rfl jg) λa A↦?_
  iterate 2 refine sdm A λa A↦?_
  rcases tf ((ts.all fun t => qt qk t.tr)) with hb11 | hb11
  ·
   refine gcl A M (ef rfl rfl) (yu (hR.below M.bel) (fun t ht => Dt.keep M.bel _ (hD t ht)) hl (hT.below M.bel) hb11) fun w13 hb12 M a A => ?_
   refine sdo (v := .bool false) A (zv rfl jg) λa A↦?_
   refine sdk (v := .bool false) A λa A↦?_
   refine qa (hK5 _ _ (wp_cond_false (A.ev rfl) ?_))
   refine wp_skip (hK4 _ _ (wsk fun K14 hK14 => wrl (sdo A (ze M LiE_isS_30 rfl 1 rfl (cs := (t.d.cells t.ts.length)) rfl rfl) λa A↦?_)))
   rcases tf ((jd t.tr).isSome) with hb15 | hb15
   ·
    refine sct A (ef rfl rfl) (qee (h0.trans (M.bel.mono h0.size)) ht0 (qfb hb8) hb hb15) ?_
    rintro _ w17 ⟨so7, ca7, ys, rfl, ⟨hy1, hy2, hy3⟩, hM7⟩
    replace M : Mg w w17 (.row 30 11 (.slice so7 ys.length ca7) ys.length (qb ys) :: .row 30 11 (.slice (some ⟨g6, 0, none⟩) 1 1) 1 (qb [t]) :: .obj g2 (.cells (t.d.cells t.ts.length).toArray 30) :: []) := (M.both hM7 (zr (by simp) (zr (by simp) (zl zt))) (zr (by simp) (zl zt)))
    refine ⟨_, rfl, ?_⟩
    intro a A
    iterate 2 refine sdo A (zj (vs := [.slice so7 ys.length ca7, .int .i64 0]) rfl rfl) λa A↦?_
    iterate 2 refine sda A λa A↦?_
    refine qa (hK14 _ _ (wp_ret (hret _ _ (en2 A rfl (qi rfl) (qi rfl) ?_))))
    replace M : Mg w w17 (.row 30 11 (.slice so7 ys.length ca7) ys.length (qb ys) :: []) := by
     have h9 := M.sub (cc (cn (cn (.refl _))))
     exact h9
    exact .inl ⟨_, _, ys, rfl, ⟨(by rw [hb8, hb11]; rfl), hy1, hy2, hy3⟩, M⟩
   ·
    refine gcl A M (ef rfl rfl) (qef (h0.trans (M.bel.mono h0.size)) ht0 (qfb hb8) hb hb15) fun w19 hb18 M a A => ?_
    iterate 2 refine sdo A (zj (vs := [.slice none 0 0, .int .i64 10]) rfl rfl) λa A↦?_
    iterate 2 refine sda A λa A↦?_
    refine qa (hK14 _ _ (wp_ret (hret _ _ (en2 A rfl (qi rfl) (qi rfl) ?_))))
    exact .inr (.inl ⟨rfl, ⟨(by rw [hb8, hb11]; rfl), Option.isSome_eq_false_iff.1 hb15 |> Option.isNone_iff_eq_none.1⟩, M.bel⟩)
  ·
   refine gcl A M (ef rfl rfl) (yu (hR.below M.bel) (fun t ht => Dt.keep M.bel _ (hD t ht)) hl (hT.below M.bel) hb11) fun w21 hb20 M a A => ?_
   refine sdo (v := .bool true) A (zv rfl jg) λa A↦?_
   refine sdk (v := .bool true) A λa A↦?_
   refine qa (hK5 _ _ (wp_cond_true (A.ev rfl) ?_))
   refine wsk fun K22 hK22 => wrl ?_
   iterate 2 refine sda A λa A↦?_
   refine qa (hK22 _ _ (wp_ret (hret _ _ (en2 A rfl (qi rfl) (qi rfl) ?_))))
   exact .inr (.inr ⟨rfl, by rw [hb8, hb11]; rfl, M.bel⟩)
 ·
  refine gcl A M (ef rfl rfl) (ut (vw (M.has 0 rfl)).1 (Dt.keep M.bel _ ht) (hT.below M.bel) hb8) fun w24 hb23 M a A => ?_
  refine sdo (v := .bool true) A (zv rfl jg) λa A↦?_
  refine sdm A λa A↦?_
  iterate 3 refine qy A rfl rfl rfl λa A↦?_
  refine sdk (v := .bool true) A λa A↦?_
  refine qa (hK5 _ _ (wp_cond_true (A.ev rfl) ?_))
  refine wsk fun K25 hK25 => wrl ?_
  iterate 2 refine sda A λa A↦?_
  refine qa (hK25 _ _ (wp_ret (hret _ _ (en2 A rfl (qi rfl) (qi rfl) ?_))))
  exact .inr (.inr ⟨rfl, by rw [hb8]; rfl, M.bel⟩)
theorem yw {w0 w : World} {t : Dt} (h0 : Below w0.heap.size w0 w) (ht : t.rd w0) (hb : t.tr.bulk ≤ 1000000000) (hT : Tabs8 w) (hs : qt qk t.tr = true) (h : (jd t.tr).isSome = true) : Calls Tryz.prog 31 #[.agg (t.d.cells t.ts.length).toArray, .slice none 0 0] w fun e w' => ∃ so' ca' ys, e = .returned (.tuple #[.slice so' (ys : List Dt).length ca', .int .i64 0]) ∧ (jd t.tr = some (ys.map Dt.tr) ∧ (∀ x ∈ ys, x.rd w0) ∧ ys.length ≤ t.tr.bulk) ∧ Mg w w' [.row 30 11 (.slice so' ys.length ca') ys.length (qb ys)] := by
 refine (yv (ts := []) h0 ht (so := none) (ca := 0) (fun k => absurd rfl k) (fun t h => by cases h) (by decide) hb hT).mono ?_
 rintro e w' (⟨so', ca', ys, h1, h2, h3⟩ | ⟨_, h2, _⟩ | ⟨_, h2, _⟩)
 ·
  exact ⟨so', ca', ys, h1, h2.2, h3⟩
 ·
  rw [h2.2] at h; cases h
 ·
  rw [hs] at h2; cases h2
theorem qeb {w0 w : World} {t : Dt} (h0 : Below w0.heap.size w0 w) (ht : t.rd w0) (hb : t.tr.bulk ≤ 1000000000) (hT : Tabs8 w) (hs : qt qk t.tr = true) (h : (jd t.tr).isSome = false) : Calls Tryz.prog 31 #[.agg (t.d.cells t.ts.length).toArray, .slice none 0 0] w fun e w' => e = .returned (.tuple #[.slice none 0 0, .int .i64 10]) ∧ Below w.heap.size w w' := by
 refine (yv (ts := []) h0 ht (so := none) (ca := 0) (fun k => absurd rfl k) (fun t h => by cases h) (by decide) hb hT).mono ?_
 rintro e w' (⟨so', ca', ys, h1, h2, h3⟩ | ⟨h1, h2, h3⟩ | ⟨_, h2, _⟩)
 ·
  rw [h2.2.1] at h; cases h
 ·
  exact ⟨h1, h3⟩
 ·
  rw [hs] at h2; cases h2
theorem qfh {w0 w : World} {t : Dt} (h0 : Below w0.heap.size w0 w) (ht : t.rd w0) (hb : t.tr.bulk ≤ 1000000000) (hT : Tabs8 w) (hs : qt qk t.tr = false) : Calls Tryz.prog 31 #[.agg (t.d.cells t.ts.length).toArray, .slice none 0 0] w fun e w' => e = .returned (.tuple #[.slice none 0 0, .int .i64 2]) ∧ Below w.heap.size w w' := by
 refine (yv (ts := []) h0 ht (so := none) (ca := 0) (fun k => absurd rfl k) (fun t h => by cases h) (by decide) hb hT).mono ?_
 rintro e w' (⟨so', ca', ys, h1, h2, h3⟩ | ⟨h1, h2, h3⟩ | ⟨h1, h2, h3⟩)
 ·
  rw [hs] at h2; cases h2.1
 ·
  rw [hs] at h2; cases h2.1
 ·
  exact ⟨h1, h3⟩
theorem LiF_isS_30 : IsS Tryz.prog 30 11 := ⟨⟨_, Tryz.underlying30⟩, by kernel_rfl⟩
theorem qec {w : World} {so : Option Addr} {ca : Nat} {ts : List Dt} (hR : Rt w so ts) (hD : ∀ t ∈ ts, t.rd w) (hb : Tr.bulks (ts.map Dt.tr) ≤ 400000000) : Calls Tryz.prog 42 #[.slice so ts.length ca] w fun e w' => ∃ t2 : Dt, e = .returned (.agg (t2.d.cells t2.ts.length).toArray) ∧ (t2.rd w' ∧ t2.at_ (w.heap.size ≤ ·) ∧ t2.tr = za (ts.map Dt.tr) nilT) ∧ Below w.heap.size w w' := by
 have hbl := ke ts
 have hnb : qjb.tr.bulk = 1 := by rw [qbf]; rfl
 have M : Mg w w ([]) := Mg.start w
 refine qp (l := [(0, .slice so ts.length ca)]) Tryz.func42 rfl Tryz.ntmps42 rfl rfl ?_
 intro Q hret hnorm hP a A
 refine wsk fun K1 hK1 => wrl (ja (vs := (qn.d.cells qn.ts.length)) (t := 30) A M rfl rfl rfl pg (zi (z := .agg (qn.d.cells qn.ts.length).toArray) (by kernel_rfl) rfl) (by decide) ?_)
 intro g2 w3 M a A
 refine qa (hK1 _ _ (wsk fun K4 hK4 => wrl (sdm A λa A↦?_)))
 refine gcl A M (ef rfl rfl) (qqh) fun w6 hb5 M a A => ?_
 have hlt7 := (Ck.lt (M.has 0 rfl) g2 rfl).2
 have hzt3 := M.bel.size
 refine sct A (ef rfl rfl) (qea (hR.below M.bel) (fun t ht => Dt.keep M.bel _ (hD t ht)) (qpf _) (by omega)) ?_
 rintro _ w9 ⟨t3, rfl, ⟨hrt3, htt3⟩, hb8⟩
 replace M := M.call hb8
 refine ⟨_, rfl, ?_⟩
 intro a A
 have hlt10 := (Ck.lt (M.has 0 rfl) g2 rfl).2
 have hzt2 := M.bel.size
 refine sct A (ef rfl rfl) (yq t3 hrt3 (by rw [htt3, xv, List.length_map]; omega)) ?_
 rintro _ w12 ⟨t2, rfl, ⟨hrt2, hat2, htt2⟩, hb11⟩
 replace M := M.call hb11
 refine ⟨_, rfl, ?_⟩
 intro a A
 refine xn (us := (t2.d.cells t2.ts.length)) (L' := (.obj g2 (.cells (t2.d.cells t2.ts.length).toArray 30) :: [])) A M rfl rfl (qw rfl rfl rfl (by kernel_rfl) M 0 rfl rfl rfl) 0 rfl rfl rfl ?_
 intro w13 M hK14
 replace hrt2 := Dt.kept hK14 _ hrt2 (Dt.at_mono (fun b hb => by rintro rfl; omega) _ hat2)
 refine qa (hK4 _ _ (wp_ret (hret _ _ (en1 A rfl (jh M LiF_isS_30 rfl 0 rfl (cs := [.int .i64 t2.d.k, .int .i64 t2.d.n, .bool t2.d.y.q.b1, .slice t2.d.y.o1 t2.d.y.q.t1.length t2.d.y.c1, .slice t2.d.y.o2 t2.d.y.q.q1.length t2.d.y.c2, .bool t2.d.y.q.b2, .slice t2.d.y.o3 t2.d.y.q.t2.length t2.d.y.c3, .slice t2.d.y.o4 t2.d.y.q.q2.length t2.d.y.c4, .string t2.d.s, .slice t2.d.ro t2.d.rl.length t2.d.rc, .slice t2.d.lo t2.ts.length t2.d.lc]) rfl rfl) ?_))))
 exact ⟨t2, rfl, ⟨hrt2, Dt.at_mono (fun b hb => Nat.le_trans hzt2 hb) _ hat2, by rw [htt2, htt3, qbf]⟩, M.bel⟩
theorem qla {w : World} {so : Option Addr} {ca : Nat} {ts : List Dt} (hR : Rt w so ts) (hD : ∀ t ∈ ts, t.rd w) {u : Dt} (hu : u.rd w) (hb : Tr.bulks (ts.map Dt.tr) + u.tr.bulk ≤ 400000000) (hT : Tabs8 w) : Calls Tryz.prog 37 #[.slice so ts.length ca, .agg (u.d.cells u.ts.length).toArray] w fun e w' => ∃ (t2 : Dt) (k : Int), e = .returned (.tuple #[.agg (t2.d.cells t2.ts.length).toArray, .int .i64 k]) ∧ (t2.rd w' ∧ t2.at_ (w.heap.size ≤ ·) ∧ (t2.tr, k) = fitS (ts.map Dt.tr) u.tr) ∧ Below w.heap.size w w' := by
 have hbl := ke ts
 have M : Mg w w ([]) := Mg.start w
 refine qp (l := [(0, .slice so ts.length ca), (1, .agg (u.d.cells u.ts.length).toArray)]) Tryz.func37 rfl Tryz.ntmps37 rfl rfl ?_
 intro Q hret hnorm hP a A
 refine wsk fun K1 hK1 => wrl (ja (vs := (u.d.cells u.ts.length)) (t := 30) A M rfl rfl rfl pg (zd rfl rfl) (by decide) ?_)
 intro g2 w3 M a A
 refine ja (vs := (qn.d.cells qn.ts.length)) (t := 30) A M rfl rfl rfl pg (zi (z := .agg (qn.d.cells qn.ts.length).toArray) (by kernel_rfl) rfl) (by decide) ?_
 intro g4 w5 M a A
 refine sda A λa A↦?_
 refine qa (hK1 _ _ (wsk fun K6 hK6 => wsk fun K7 hK7 => wrl (sdm A λa A↦?_)))
 refine sdo A (zq Tryz.underlying22 rfl) λa A↦?_
 rcases tf (decide (20000 < ((ts.length : Nat) : Int))) with hb8 | hb8
 ·
  have hb8' := of_decide_eq_true hb8
  refine sdc A jn hb8 λa A↦?_
  refine qa (hK7 _ _ (wp_cond_true (A.ev rfl) ?_))
  refine wsk fun K9 hK9 => wrl (sdo (v := .agg (qn.d.cells qn.ts.length).toArray) A (zp rfl (fun w => by kernel_rfl)) λa A↦?_)
  refine zm (us := (qn.d.cells qn.ts.length)) (L' := (.obj g4 (.cells (qn.d.cells qn.ts.length).toArray 30) :: .obj g2 (.cells (u.d.cells u.ts.length).toArray 30) :: [])) A M rfl rfl (qw rfl rfl rfl (by kernel_rfl) M 0 rfl rfl rfl) 0 rfl rfl rfl ?_
  intro w10 M
  refine sda A λa A↦?_
  refine qa (hK9 _ _ (wp_ret (hret _ _ (en2 A rfl (jh M LiF_isS_30 rfl 0 rfl (cs := [.int .i64 0, .int .i64 0, .bool false, .slice none 0 0, .slice none 0 0, .bool false, .slice none 0 0, .slice none 0 0, .string (⟨#[]⟩), .slice none 0 0, .slice none 0 0]) rfl rfl) (qi rfl) ?_))))
  exact ⟨qn, 4, rfl, ⟨uj _, uk _, by rw [qsa (by rw [List.length_map]; omega), ui]⟩, M.bel⟩
 ·
  have hb8' := of_decide_eq_false hb8
  refine sdc A jn hb8 λa A↦?_
  refine qa (hK7 _ _ (wp_cond_false (A.ev rfl) ?_))
  refine wp_skip (hK6 _ _ (wsk fun K11 hK11 => wrl (sdm A λa A↦?_)))
  refine sdo A (ze M LiF_isS_30 rfl 1 rfl (cs := (u.d.cells u.ts.length)) rfl rfl) λa A↦?_
  have hlt12 := (Ck.lt (M.has 0 rfl) g4 rfl).2
  have hlt13 := (Ck.lt (M.has 1 rfl) g2 rfl).2
  have hzt3 := M.bel.size
  refine sct A (ef rfl rfl) (qea (hR.below M.bel) (fun t ht => Dt.keep M.bel _ (hD t ht)) (Dt.keep M.bel _ hu) (by omega)) ?_
  rintro _ w15 ⟨t3, rfl, ⟨hrt3, htt3⟩, hb14⟩
  replace M := M.call hb14
  refine ⟨_, rfl, ?_⟩
  intro a A
  refine qmh (vs := (qn.d.cells qn.ts.length)) (t := 30) A M rfl rfl rfl pg (zi (z := .agg (qn.d.cells qn.ts.length).toArray) (by kernel_rfl) rfl) (by decide) ?_
  intro g16 w17 M hg18 hb19 a A
  have hnt3g16 := Dt.at_mono (q := (· ≠ g16)) (fun b hb => by intro e; omega) _ (Dt.at_lt _ hrt3)
  replace hrt3 := Dt.keep hb19 _ hrt3
  refine xn (us := (t3.d.cells t3.ts.length)) (L' := (.obj g16 (.cells (t3.d.cells t3.ts.length).toArray 30) :: .obj g4 (.cells (qn.d.cells qn.ts.length).toArray 30) :: .obj g2 (.cells (u.d.cells u.ts.length).toArray 30) :: [])) A M rfl rfl (qw rfl rfl rfl (by kernel_rfl) M 0 rfl rfl rfl) 0 rfl rfl rfl ?_
  intro w20 M hK21
  replace hrt3 := Dt.kept hK21 _ hrt3 hnt3g16
  refine qa (hK11 _ _ (wsk fun K22 hK22 => wsk fun K23 hK23 => wrl (sdo A (ze M LiF_isS_30 rfl 0 rfl (cs := (t3.d.cells t3.ts.length)) rfl rfl) λa A↦?_)))
  rcases tf (qt qk t3.tr) with hb24 | hb24
  ·
   refine sct A (ef rfl rfl) ((hb24 ▸ sound_any (t := t3) hrt3 (hT.below M.bel))) ?_
   rintro _ w26 ⟨rfl, hb25⟩
   replace hrt3 := Dt.keep hb25 _ hrt3
   replace M := M.call hb25
   refine ⟨_, rfl, ?_⟩
   intro a A
   refine sdo (v := .bool false) A (zv rfl jg) λa A↦?_
   refine qa (hK23 _ _ (wp_cond_false (A.ev rfl) ?_))
   refine wp_skip (hK22 _ _ (wsk fun K27 hK27 => wrl (sdo A (ze M LiF_isS_30 rfl 0 rfl (cs := (t3.d.cells t3.ts.length)) rfl rfl) λa A↦?_)))
   have hlt28 := (Ck.lt (M.has 0 rfl) g16 rfl).2
   have hlt29 := (Ck.lt (M.has 1 rfl) g4 rfl).2
   have hlt30 := (Ck.lt (M.has 2 rfl) g2 rfl).2
   have hzt2 := M.bel.size
   refine sct A (ef rfl rfl) (yq t3 hrt3 (by rw [htt3, xv, List.length_map]; omega)) ?_
   rintro _ w32 ⟨t2, rfl, ⟨hrt2, hat2, htt2⟩, hb31⟩
   replace M := M.call hb31
   refine ⟨_, rfl, ?_⟩
   intro a A
   refine xn (us := (t2.d.cells t2.ts.length)) (L' := (.obj g16 (.cells (t3.d.cells t3.ts.length).toArray 30) :: .obj g4 (.cells (t2.d.cells t2.ts.length).toArray 30) :: .obj g2 (.cells (u.d.cells u.ts.length).toArray 30) :: [])) A M rfl rfl (qw rfl rfl rfl (by kernel_rfl) M 1 rfl rfl rfl) 1 rfl rfl rfl ?_
   intro w33 M hK34
   replace hrt2 := Dt.kept hK34 _ hrt2 (Dt.at_mono (fun b hb => by rintro rfl; omega) _ hat2)
   refine sda A λa A↦?_
   refine qa (hK27 _ _ (wp_ret (hret _ _ (en2 A rfl (jh M LiF_isS_30 rfl 1 rfl (cs := [.int .i64 t2.d.k, .int .i64 t2.d.n, .bool t2.d.y.q.b1, .slice t2.d.y.o1 t2.d.y.q.t1.length t2.d.y.c1, .slice t2.d.y.o2 t2.d.y.q.q1.length t2.d.y.c2, .bool t2.d.y.q.b2, .slice t2.d.y.o3 t2.d.y.q.t2.length t2.d.y.c3, .slice t2.d.y.o4 t2.d.y.q.q2.length t2.d.y.c4, .string t2.d.s, .slice t2.d.ro t2.d.rl.length t2.d.rc, .slice t2.d.lo t2.ts.length t2.d.lc]) rfl rfl) (qi rfl) ?_))))
   exact ⟨t2, 0, rfl, ⟨hrt2, Dt.at_mono (fun b hb => Nat.le_trans hzt2 hb) _ hat2, by rw [htt3] at hb24; rw [qji hb24, htt2, htt3]⟩, M.bel⟩
  ·
   refine sct A (ef rfl rfl) ((hb24 ▸ sound_any (t := t3) hrt3 (hT.below M.bel))) ?_
   rintro _ w36 ⟨rfl, hb35⟩
   replace hrt3 := Dt.keep hb35 _ hrt3
   replace M := M.call hb35
   refine ⟨_, rfl, ?_⟩
   intro a A
   refine sdo (v := .bool true) A (zv rfl jg) λa A↦?_
   refine qa (hK23 _ _ (wp_cond_true (A.ev rfl) ?_))
   refine wsk fun K37 hK37 => wrl (sdo (v := .agg (qn.d.cells qn.ts.length).toArray) A (zp rfl (fun w => by kernel_rfl)) λa A↦?_)
   refine xn (us := (qn.d.cells qn.ts.length)) (L' := (.obj g16 (.cells (t3.d.cells t3.ts.length).toArray 30) :: .obj g4 (.cells (qn.d.cells qn.ts.length).toArray 30) :: .obj g2 (.cells (u.d.cells u.ts.length).toArray 30) :: [])) A M rfl rfl (qw rfl rfl rfl (by kernel_rfl) M 1 rfl rfl rfl) 1 rfl rfl rfl ?_
   intro w38 M hK39
   refine sda A λa A↦?_
   refine qa (hK37 _ _ (wp_ret (hret _ _ (en2 A rfl (jh M LiF_isS_30 rfl 1 rfl (cs := [.int .i64 0, .int .i64 0, .bool false, .slice none 0 0, .slice none 0 0, .bool false, .slice none 0 0, .slice none 0 0, .string (⟨#[]⟩), .slice none 0 0, .slice none 0 0]) rfl rfl) (qi rfl) ?_))))
   exact ⟨qn, 4, rfl, ⟨uj _, uk _, by rw [htt3] at hb24; rw [qza hb24, ui]⟩, M.bel⟩
theorem LiG_isS_30 : IsS Tryz.prog 30 11 := ⟨⟨_, Tryz.underlying30⟩, by kernel_rfl⟩
theorem qwi {w0 w : World} {g9 c9 : Nat} {ys : List Dt} {T : List Ck} (hl : ys.length ≤ 1000000000) (hne : ys ≠ []) (hM0 : Mg w0 w (.row 30 11 (.slice (some ⟨g9, 0, none⟩) ys.length c9) ys.length (qb ys) :: T)) : Calls Tryz.prog 41 #[.slice (some ⟨g9, 0, none⟩) ys.length c9] w fun e w' => e = .returned (.tuple #[]) ∧ Mg w0 w' (.row 30 11 (.slice (some ⟨g9, 0, none⟩) ys.length c9) ys.length (qb ys.reverse) :: T) := by
 have hpos : 0 < ys.length := List.length_pos_iff.2 hne
 have M : Mg w0 w (.row 30 11 (.slice (some ⟨g9, 0, none⟩) ys.length c9) ys.length (qb ys) :: T) := hM0
 refine qp (l := [(0, .slice (some ⟨g9, 0, none⟩) ys.length c9)]) Tryz.func41 rfl Tryz.ntmps41 rfl rfl ?_
 intro Q hret hnorm hP a A
 refine wsk fun K1 hK1 => wrl (sdm A λa A↦?_)
 refine sdo A (zq Tryz.underlying22 rfl) λa A↦?_
 refine sdo (v := .int .i64 (((ys.length : Nat) : Int) - 1 - ((0 : Nat) : Int))) A (qf rfl rfl (ar_sub ((in_i64 (by omega) (by omega)).trans (by omega)))) λa A↦?_
 iterate 2 refine sda A λa A↦?_
 refine qa (hK1 _ _ (wp_block (zk (fun m_ a w1 => ∃ (i : Nat) (zs : List Dt), m_ = 1 + (ys.length - i) ∧ (i ≤ ys.length ∧ RevI ys zs i) ∧ Sl a 28 [(0, .slice (some ⟨g9, 0, none⟩) ys.length c9), (2, .int .i64 (((i : Nat) : Int))), (3, .int .i64 (((ys.length : Nat) : Int) - 1 - ((i : Nat) : Int))), (4, .slice (some ⟨g9, 0, none⟩) ys.length c9), (5, .int .i64 (((ys.length : Nat) : Int))), (6, .int .i64 (((ys.length : Nat) : Int) - 1 - ((0 : Nat) : Int)))] ∧ Mg w0 w1 (.row 30 11 (.slice (some ⟨g9, 0, none⟩) ys.length c9) ys.length (qb zs) :: T)) _ ⟨0, ys, rfl, ⟨Nat.zero_le _, qsb ys⟩, A.keep _ (by repeat' constructor), M⟩ ?_)))
 clear M A
 rintro m_ a w2 ⟨i, zs, rfl, hinv4, A, M⟩ K3 hK3
 obtain ⟨hi0, hrv⟩ := hinv4
 refine wsk fun K5 hK5 => wsk fun K6 hK6 => wrl ?_
 iterate 2 refine sdm A λa A↦?_
 rcases tf (decide (((i : Nat) : Int) < ((ys.length : Nat) : Int) - 1 - ((i : Nat) : Int))) with hb7 | hb7
 ·
  have hb7' := of_decide_eq_true hb7
  refine sdc A qm hb7 λa A↦?_
  refine qa (hK6 _ _ (wp_cond_true (A.ev rfl) ?_))
  refine wp_skip (hK5 _ _ (wsk fun K8 hK8 => wp_block ?_))
  have hzl := hrv.1
  obtain ⟨a1, hza⟩ : ∃ a, zs[i]? = some a := ⟨_, List.getElem?_eq_getElem (by omega)⟩
  obtain ⟨b1, hzb⟩ : ∃ b, zs[ys.length - 1 - i]? = some b := ⟨_, List.getElem?_eq_getElem (by omega)⟩
  refine js (S := fun w1 => Mg w0 w1 ([])) (by kernel_rfl) ?_
  replace M := M.drew
  refine qe A 0 rfl rfl rfl rfl hP (M.sub (cn (List.nil_sublist _))) (fun w1 M => qh rfl) λa A↦?_
  refine qe A 1 rfl rfl rfl rfl hP (M.sub (cn (List.nil_sublist _))) (fun w1 M => qh rfl) λa A↦?_
  refine qe A 2 rfl rfl rfl rfl hP (M.sub (cn (List.nil_sublist _))) (fun w1 M => qh rfl) λa A↦?_
  refine qe A 3 rfl rfl rfl rfl hP (M.sub (cn (List.nil_sublist _))) (fun w1 M => qh rfl) λa A↦?_
  refine qe A 4 rfl rfl rfl rfl hP (M.sub (cn (List.nil_sublist _))) (fun w1 M => qh rfl) λa A↦?_
  refine qe A 5 rfl rfl rfl rfl hP (M.sub (cn (List.nil_sublist _))) (fun w1 M => qh rfl) λa A↦?_
  refine qe (v := .pointer (some ⟨g9, (ys.length - 1 - i) * 11, none⟩)) A 6 rfl rfl rfl rfl hP (M.sub (cn (List.nil_sublist _))) (fun w1 M => qj (k := (ys.length - 1 - i)) Tryz.underlying22 (by kernel_rfl) rfl rfl (by omega) (by omega)) λa A↦?_
  refine qe A 8 rfl rfl rfl rfl hP (M.sub (cn (List.nil_sublist _))) (fun w1 M => qh rfl) λa A↦?_
  refine qe A 9 rfl rfl rfl rfl hP (M.sub (cn (List.nil_sublist _))) (fun w1 M => qh rfl) λa A↦?_
  refine qe (v := .pointer (some ⟨g9, i * 11, none⟩)) A 10 rfl rfl rfl rfl hP (M.sub (cn (List.nil_sublist _))) (fun w1 M => qj (k := i) Tryz.underlying22 (by kernel_rfl) rfl rfl (by omega) (by omega)) λa A↦?_
  refine vz (rs := [7, 11]) (by kernel_rfl) (by simp) ⟨?_, ?_, trivial⟩
  ·
   refine jz A 7 rfl rfl rfl rfl (zf (o := (ys.length - 1 - i) * 11) (cs := b1.d.cells b1.ts.length) M 0 rfl LiG_isS_30 (qr hzb) rfl rfl) (M.sub (cn (List.nil_sublist _))) λa A↦?_
   refine qs (by kernel_rfl) (jz A 11 rfl rfl rfl rfl (zf (o := i * 11) (cs := a1.d.cells a1.ts.length) M 0 rfl LiG_isS_30 (qr hza) rfl rfl) (M.sub (cn (List.nil_sublist _))) ?_)
   intro a A
   refine qe (v := .pointer (some ⟨g9, i * 11, none⟩)) A 12 rfl rfl rfl rfl hP (M.sub (cn (List.nil_sublist _))) (fun w1 M => qj (k := i) Tryz.underlying22 (by kernel_rfl) rfl rfl (by omega) (by omega)) λa A↦?_
   refine qs (by kernel_rfl) (zn (us := qb (zs.set i b1)) (L' := (.row 30 11 (.slice (some ⟨g9, 0, none⟩) ys.length c9) ys.length (qb (zs.set i b1)) :: T)) A M 13 rfl rfl rfl (zx (cs := b1.d.cells b1.ts.length) rfl rfl rfl (by kernel_rfl) M 0 rfl (by show _ + 11 ≤ _; omega) (zh b1)) 0 rfl (zy (by rw [hzl]; omega) rfl) rfl ?_)
   intro w9 M
   refine ⟨(M.sub (cn (List.nil_sublist _))), ?_⟩
   refine qe (v := .pointer (some ⟨g9, (ys.length - 1 - i) * 11, none⟩)) A 14 rfl rfl rfl rfl hP (M.sub (cn (List.nil_sublist _))) (fun w1 M => qj (k := (ys.length - 1 - i)) Tryz.underlying22 (by kernel_rfl) rfl rfl (by omega) (by omega)) λa A↦?_
   refine qs (by kernel_rfl) (zn (us := qb ((zs.set i b1).set (ys.length - 1 - i) a1)) (L' := (.row 30 11 (.slice (some ⟨g9, 0, none⟩) ys.length c9) ys.length (qb ((zs.set i b1).set (ys.length - 1 - i) a1)) :: T)) A M 15 rfl rfl rfl (zx (cs := a1.d.cells a1.ts.length) rfl rfl rfl (by kernel_rfl) M 0 rfl (by show _ + 11 ≤ _; omega) (zh a1)) 0 rfl (zy (by rw [List.length_set, hzl]; omega) rfl) rfl ?_)
   intro w10 M
   refine ⟨(M.sub (cn (List.nil_sublist _))), ?_⟩
   refine zu (by kernel_rfl) ?_
   refine hK8 _ _ (wrl (sdm A λa A↦?_))
   refine sdo (v := .int .i64 (((i + 1 : Nat) : Int))) A (qf rfl rfl (ar_add ((in_i64 (by omega) (by omega)).trans (by omega)))) λa A↦?_
   refine sdm A λa A↦?_
   refine sdo (v := .int .i64 (((ys.length : Nat) : Int) - 1 - ((i + 1 : Nat) : Int))) A (qf rfl rfl (ar_sub ((in_i64 (by omega) (by omega)).trans (by omega)))) λa A↦?_
   iterate 2 refine sda A λa A↦?_
   refine qa ?_
   refine hK3 _ _ _ (by omega) ⟨i + 1, ((zs.set i b1).set (ys.length - 1 - i) a1), rfl, ⟨by omega, qfe hrv (by omega) hza hzb⟩, A.keep _ (by repeat' constructor), M⟩
  ·
   refine jz A 11 rfl rfl rfl rfl (zf (o := i * 11) (cs := a1.d.cells a1.ts.length) M 0 rfl LiG_isS_30 (qr hza) rfl rfl) (M.sub (cn (List.nil_sublist _))) λa A↦?_
   refine qs (by kernel_rfl) (jz A 7 rfl rfl rfl rfl (zf (o := (ys.length - 1 - i) * 11) (cs := b1.d.cells b1.ts.length) M 0 rfl LiG_isS_30 (qr hzb) rfl rfl) (M.sub (cn (List.nil_sublist _))) ?_)
   intro a A
   refine qe (v := .pointer (some ⟨g9, i * 11, none⟩)) A 12 rfl rfl rfl rfl hP (M.sub (cn (List.nil_sublist _))) (fun w1 M => qj (k := i) Tryz.underlying22 (by kernel_rfl) rfl rfl (by omega) (by omega)) λa A↦?_
   refine qs (by kernel_rfl) (zn (us := qb (zs.set i b1)) (L' := (.row 30 11 (.slice (some ⟨g9, 0, none⟩) ys.length c9) ys.length (qb (zs.set i b1)) :: T)) A M 13 rfl rfl rfl (zx (cs := b1.d.cells b1.ts.length) rfl rfl rfl (by kernel_rfl) M 0 rfl (by show _ + 11 ≤ _; omega) (zh b1)) 0 rfl (zy (by rw [hzl]; omega) rfl) rfl ?_)
   intro w11 M
   refine ⟨(M.sub (cn (List.nil_sublist _))), ?_⟩
   refine qe (v := .pointer (some ⟨g9, (ys.length - 1 - i) * 11, none⟩)) A 14 rfl rfl rfl rfl hP (M.sub (cn (List.nil_sublist _))) (fun w1 M => qj (k := (ys.length - 1 - i)) Tryz.underlying22 (by kernel_rfl) rfl rfl (by omega) (by omega)) λa A↦?_
   refine qs (by kernel_rfl) (zn (us := qb ((zs.set i b1).set (ys.length - 1 - i) a1)) (L' := (.row 30 11 (.slice (some ⟨g9, 0, none⟩) ys.length c9) ys.length (qb ((zs.set i b1).set (ys.length - 1 - i) a1)) :: T)) A M 15 rfl rfl rfl (zx (cs := a1.d.cells a1.ts.length) rfl rfl rfl (by kernel_rfl) M 0 rfl (by show _ + 11 ≤ _; omega) (zh a1)) 0 rfl (zy (by rw [List.length_set, hzl]; omega) rfl) rfl ?_)
   intro w12 M
   refine ⟨(M.sub (cn (List.nil_sublist _))), ?_⟩
   refine zu (by kernel_rfl) ?_
   refine hK8 _ _ (wrl (sdm A λa A↦?_))
   refine sdo (v := .int .i64 (((i + 1 : Nat) : Int))) A (qf rfl rfl (ar_add ((in_i64 (by omega) (by omega)).trans (by omega)))) λa A↦?_
   refine sdm A λa A↦?_
   refine sdo (v := .int .i64 (((ys.length : Nat) : Int) - 1 - ((i + 1 : Nat) : Int))) A (qf rfl rfl (ar_sub ((in_i64 (by omega) (by omega)).trans (by omega)))) λa A↦?_
   iterate 2 refine sda A λa A↦?_
   refine qa ?_
   refine hK3 _ _ _ (by omega) ⟨i + 1, ((zs.set i b1).set (ys.length - 1 - i) a1), rfl, ⟨by omega, qfe hrv (by omega) hza hzb⟩, A.keep _ (by repeat' constructor), M⟩
 ·
  have hb7' := of_decide_eq_false hb7
  refine sdc A qm hb7 λa A↦?_
  refine qa (hK6 _ _ (wp_cond_false (A.ev rfl) ?_))
  refine wp_exit (hnorm _ _ (xf (v := .tuple #[]) A rfl .nil rfl ?_))
  rw [qvc hrv (by omega)] at M
  exact ⟨rfl, M⟩
theorem zac {w0 w : World} {so9 : Option Addr} {c9 : Nat} {T : List Ck} (hM0 : Mg w0 w (.row 30 11 (.slice so9 ([] : List Dt).length c9) ([] : List Dt).length (qb []) :: T)) : Calls Tryz.prog 41 #[.slice so9 (([] : List Dt).length) c9] w fun e w' => e = .returned (.tuple #[]) ∧ Mg w0 w' (.row 30 11 (.slice so9 ([] : List Dt).length c9) ([] : List Dt).length (qb ([] : List Dt).reverse) :: T) := by
 have M : Mg w0 w (.row 30 11 (.slice so9 (([] : List Dt).length) c9) (([] : List Dt).length) (qb []) :: T) := hM0
 refine qp (l := [(0, .slice so9 (([] : List Dt).length) c9)]) Tryz.func41 rfl Tryz.ntmps41 rfl rfl ?_
 intro Q hret hnorm hP a A
 refine wsk fun K1 hK1 => wrl (sdm A λa A↦?_)
 refine sdo A (zq Tryz.underlying22 rfl) λa A↦?_
 refine sdo (v := .int .i64 (-1)) A (qf rfl rfl (ar_sub (by rfl))) λa A↦?_
 iterate 2 refine sda A λa A↦?_
 refine qa (hK1 _ _ (wp_block (wp_loop_rounds 12 ?_)))
 refine vn fun K2 hK2 => ?_
 refine wsk fun K3 hK3 => wsk fun K4 hK4 => wrl ?_
 iterate 2 refine sdm A λa A↦?_
 refine sdo (v := .bool false) A (qf rfl rfl (fun w => by kernel_rfl)) λa A↦?_
 refine qa (hK4 _ _ (wp_cond_false (A.ev rfl) ?_))
 refine wp_exit (hnorm _ _ (xf (v := .tuple #[]) A rfl .nil rfl ?_))
 exact ⟨rfl, M⟩
theorem zad {w0 w : World} {so9 : Option Addr} {c9 : Nat} {ys : List Dt} {T : List Ck} (hl : ys.length ≤ 1000000000) (hM0 : Mg w0 w (.row 30 11 (.slice so9 ys.length c9) ys.length (qb ys) :: T)) : Calls Tryz.prog 41 #[.slice so9 ys.length c9] w fun e w' => e = .returned (.tuple #[]) ∧ Mg w0 w' (.row 30 11 (.slice so9 ys.length c9) ys.length (qb ys.reverse) :: T) := by
 by_cases h : ys = []
 ·
  subst h; exact zac hM0
 ·
  obtain ⟨g, c, e⟩ := qda (hM0.has 0 rfl) (fun k => h (List.length_eq_zero_iff.1 k))
  cases e
  exact qwi hl h hM0
theorem qqi {α : Type} {x : Option α} (h : x.isSome = false) : x = none := Option.isNone_iff_eq_none.1 (Option.isSome_eq_false_iff.1 h)
theorem of_any {w : World} {so : Option Addr} {ca : Nat} {ts : List Dt} (hR : Rt w so ts) (hD : ∀ t ∈ ts, t.rd w) (hb : Tr.bulks (ts.map Dt.tr) ≤ 300000000) (hT : Tabs8 w) : Calls Tryz.prog 17 #[.slice so ts.length ca] w fun e w' => ∃ t2 : Dt, e = .returned (.agg (t2.d.cells t2.ts.length).toArray) ∧ (t2.rd w' ∧ t2.at_ (w.heap.size ≤ ·) ∧ t2.tr = ofS (ts.map Dt.tr)) ∧ Below w.heap.size w w' := by
 have hnb : qjb.tr.bulk = 1 := by rw [qbf]; rfl
 have M : Mg w w ([]) := Mg.start w
 refine qp (l := [(0, .slice so ts.length ca)]) Tryz.func17 rfl Tryz.ntmps17 rfl rfl ?_
 intro Q hret hnorm hP a A
 refine wsk fun K1 hK1 => wrl (ja (vs := (qn.d.cells qn.ts.length)) (t := 30) A M rfl rfl rfl pg (zi (z := .agg (qn.d.cells qn.ts.length).toArray) (by kernel_rfl) rfl) (by decide) ?_)
 intro g2 w3 M a A
 refine qa (hK1 _ _ (wsk fun K4 hK4 => wrl (sdm A λa A↦?_)))
 refine gcl A M (ef rfl rfl) (qqh) fun w6 hb5 M a A => ?_
 have hlt7 := (Ck.lt (M.has 0 rfl) g2 rfl).2
 have hzt2 := M.bel.size
 refine sct A (ef rfl rfl) (qla (u := qjb) (hR.below M.bel) (fun t ht => Dt.keep M.bel _ (hD t ht)) (qpf _) (by omega) (hT.below M.bel)) ?_
 rintro _ w9 ⟨t2, k2, rfl, ⟨hrt2, hat2, htt2⟩, hb8⟩
 replace M := M.call hb8
 refine ⟨_, rfl, ?_⟩
 intro a A
 refine sdm A λa A↦?_
 iterate 2 refine sdo A (zj (vs := [.agg (t2.d.cells t2.ts.length).toArray, .int .i64 k2]) rfl rfl) λa A↦?_
 refine qmh (vs := (qn.d.cells qn.ts.length)) (t := 30) A M rfl rfl rfl pg (zi (z := .agg (qn.d.cells qn.ts.length).toArray) (by kernel_rfl) rfl) (by decide) ?_
 intro g10 w11 M hg12 hb13 a A
 have hnt2g10 := Dt.at_mono (q := (· ≠ g10)) (fun b hb => by intro e; omega) _ (Dt.at_lt _ hrt2)
 replace hrt2 := Dt.keep hb13 _ hrt2
 refine xn (us := (t2.d.cells t2.ts.length)) (L' := (.obj g10 (.cells (t2.d.cells t2.ts.length).toArray 30) :: .obj g2 (.cells (qn.d.cells qn.ts.length).toArray 30) :: [])) A M rfl rfl (qw rfl rfl rfl (by kernel_rfl) M 0 rfl rfl rfl) 0 rfl rfl rfl ?_
 intro w14 M hK15
 replace hrt2 := Dt.kept hK15 _ hrt2 hnt2g10
 refine sda A λa A↦?_
 refine qa (hK4 _ _ (wsk fun K16 hK16 => wrl (sdo A (ze M LiG_isS_30 rfl 0 rfl (cs := (t2.d.cells t2.ts.length)) rfl rfl) λa A↦?_)))
 refine xn (us := (t2.d.cells t2.ts.length)) (L' := (.obj g10 (.cells (t2.d.cells t2.ts.length).toArray 30) :: .obj g2 (.cells (t2.d.cells t2.ts.length).toArray 30) :: [])) A M rfl rfl (qw rfl rfl rfl (by kernel_rfl) M 1 rfl rfl rfl) 1 rfl rfl rfl ?_
 intro w17 M hK18
 replace hrt2 := Dt.kept hK18 _ hrt2 (Dt.at_mono (fun b hb => by rintro rfl; omega) _ hat2)
 refine qa (hK16 _ _ (wp_ret (hret _ _ (en1 A rfl (jh M LiG_isS_30 rfl 1 rfl (cs := [.int .i64 t2.d.k, .int .i64 t2.d.n, .bool t2.d.y.q.b1, .slice t2.d.y.o1 t2.d.y.q.t1.length t2.d.y.c1, .slice t2.d.y.o2 t2.d.y.q.q1.length t2.d.y.c2, .bool t2.d.y.q.b2, .slice t2.d.y.o3 t2.d.y.q.t2.length t2.d.y.c3, .slice t2.d.y.o4 t2.d.y.q.q2.length t2.d.y.c4, .string t2.d.s, .slice t2.d.ro t2.d.rl.length t2.d.rc, .slice t2.d.lo t2.ts.length t2.d.lc]) rfl rfl) ?_))))
 exact ⟨t2, rfl, ⟨hrt2, Dt.at_mono (fun b hb => Nat.le_trans hzt2 hb) _ hat2, by unfold ofS; rw [← qbf, ← htt2]⟩, M.bel⟩
theorem qfi : ∀ ts : List Tr, Tr.bulks ts.reverse = Tr.bulks ts
 | [] => rfl
 | t :: ts => by rw [List.reverse_cons, ul, qfi ts, Tr.bulks, Tr.bulks, Tr.bulks]; omega
theorem qoc {w : World} {so : Option Addr} {ca : Nat} {ys : List Dt} (hR : Rt w so ys.reverse) (hD : ∀ t ∈ ys.reverse, t.rd w) (hb : Tr.bulks (ys.reverse.map Dt.tr) ≤ 400000000) : Calls Tryz.prog 42 #[.slice so ys.length ca] w fun e w' => ∃ t2 : Dt, e = .returned (.agg (t2.d.cells t2.ts.length).toArray) ∧ (t2.rd w' ∧ t2.at_ (w.heap.size ≤ ·) ∧ t2.tr = za (ys.reverse.map Dt.tr) nilT) ∧ Below w.heap.size w w' := by
 have := qec (ca := ca) hR hD hb
 rwa [List.length_reverse] at this
theorem qlb {w : World} {t : Dt} (ht : t.rd w) (hb : t.tr.bulk ≤ 300000000) (hT : Tabs8 w) : Calls Tryz.prog 11 #[.agg (t.d.cells t.ts.length).toArray] w fun e w' => ∃ (t2 : Dt) (k : Int), e = .returned (.tuple #[.agg (t2.d.cells t2.ts.length).toArray, .int .i64 k]) ∧ (t2.rd w' ∧ t2.at_ (w.heap.size ≤ ·) ∧ (t2.tr, k) = qnd t.tr) ∧ Below w.heap.size w w' := by
 have M : Mg w w ([]) := Mg.start w
 refine qp (l := [(0, .agg (t.d.cells t.ts.length).toArray)]) Tryz.func11 rfl Tryz.ntmps11 rfl rfl ?_
 intro Q hret hnorm hP a A
 refine wsk fun K1 hK1 => wrl (ja (vs := (t.d.cells t.ts.length)) (t := 30) A M rfl rfl rfl pg (zd rfl rfl) (by decide) ?_)
 intro g2 w3 M a A
 refine ja (vs := (qn.d.cells qn.ts.length)) (t := 30) A M rfl rfl rfl pg (zi (z := .agg (qn.d.cells qn.ts.length).toArray) (by kernel_rfl) rfl) (by decide) ?_
 intro g4 w5 M a A
 refine sda A λa A↦?_
 refine qa (hK1 _ _ (wsk fun K6 hK6 => wrl (sdo A (ze M LiG_isS_30 rfl 1 rfl (cs := (t.d.cells t.ts.length)) rfl rfl) λa A↦?_)))
 rcases tf (qt qk t.tr) with hb7 | hb7
 ·
  rcases tf ((jd t.tr).isSome) with hb9 | hb9
  ·
   refine sct A (ef rfl rfl) (yw M.bel ht (by omega) (hT.below M.bel) hb7 hb9) ?_
   rintro _ w11 ⟨so7, ca7, ys, rfl, ⟨hy1, hy2, hy3⟩, hM7⟩
   have hyb := ya hy1
   replace M : Mg w w11 (.row 30 11 (.slice so7 ys.length ca7) ys.length (qb ys) :: .obj g4 (.cells (qn.d.cells qn.ts.length).toArray 30) :: .obj g2 (.cells (t.d.cells t.ts.length).toArray 30) :: []) := (M.both hM7 (zr (by simp) (zr (by simp) (zl zt))) (zr (by simp) (zl zt)))
   refine ⟨_, rfl, ?_⟩
   intro a A
   refine sdm A λa A↦?_
   iterate 2 refine sdo A (zj (vs := [.slice so7 ys.length ca7, .int .i64 0]) rfl rfl) λa A↦?_
   iterate 2 refine sda A λa A↦?_
   refine qa (hK6 _ _ (wsk fun K12 hK12 => wsk fun K13 hK13 => wrl (sdm A λa A↦?_)))
   refine sdo (v := .bool false) A (qf rfl rfl (fun w => by kernel_rfl)) λa A↦?_
   refine qa (hK13 _ _ (wp_cond_false (A.ev rfl) ?_))
   refine wp_skip (hK12 _ _ (wsk fun K14 hK14 => wrl (sdm A λa A↦?_)))
   refine sct A (ef rfl rfl) (zad (by omega) M) ?_
   rintro _ w15 ⟨rfl, hM8⟩
   replace M : Mg w w15 (.row 30 11 (.slice so7 ys.length ca7) ys.length (qb ys.reverse) :: .obj g4 (.cells (qn.d.cells qn.ts.length).toArray 30) :: .obj g2 (.cells (t.d.cells t.ts.length).toArray 30) :: []) := hM8
   refine ⟨_, rfl, ?_⟩
   intro a A
   refine qa (hK14 _ _ (wsk fun K16 hK16 => wrl (sdm A λa A↦?_)))
   have hlt17 := (Ck.lt (M.has 1 rfl) g4 rfl).2
   have hlt18 := (Ck.lt (M.has 2 rfl) g2 rfl).2
   have hzt2 := M.bel.size
   refine sct A (ef rfl rfl) (qoc (vw (M.has 0 rfl)).1 (fun t ht => Dt.keep M.bel _ (hy2 t (List.mem_reverse.1 ht))) (by rw [List.map_reverse, qfi]; omega)) ?_
   rintro _ w20 ⟨t2, rfl, ⟨hrt2, hat2, htt2⟩, hb19⟩
   replace M := M.call hb19
   refine ⟨_, rfl, ?_⟩
   intro a A
   refine xn (us := (t2.d.cells t2.ts.length)) (L' := (.row 30 11 (.slice so7 ys.length ca7) ys.length (qb ys.reverse) :: .obj g4 (.cells (t2.d.cells t2.ts.length).toArray 30) :: .obj g2 (.cells (t.d.cells t.ts.length).toArray 30) :: [])) A M rfl rfl (qw rfl rfl rfl (by kernel_rfl) M 1 rfl rfl rfl) 1 rfl rfl rfl ?_
   intro w21 M hK22
   replace hrt2 := Dt.kept hK22 _ hrt2 (Dt.at_mono (fun b hb => by rintro rfl; omega) _ hat2)
   refine sda A λa A↦?_
   refine qa (hK16 _ _ (wp_ret (hret _ _ (en2 A rfl (jh M LiG_isS_30 rfl 1 rfl (cs := [.int .i64 t2.d.k, .int .i64 t2.d.n, .bool t2.d.y.q.b1, .slice t2.d.y.o1 t2.d.y.q.t1.length t2.d.y.c1, .slice t2.d.y.o2 t2.d.y.q.q1.length t2.d.y.c2, .bool t2.d.y.q.b2, .slice t2.d.y.o3 t2.d.y.q.t2.length t2.d.y.c3, .slice t2.d.y.o4 t2.d.y.q.q2.length t2.d.y.c4, .string t2.d.s, .slice t2.d.ro t2.d.rl.length t2.d.rc, .slice t2.d.lo t2.ts.length t2.d.lc]) rfl rfl) (qi rfl) ?_))))
   exact ⟨t2, 0, rfl, ⟨hrt2, Dt.at_mono (fun b hb => Nat.le_trans hzt2 hb) _ hat2, by unfold qnd; rw [if_neg (by rw [hb7]; decide), hy1]; rw [htt2, List.map_reverse]⟩, M.bel⟩
  ·
   refine gcl A M (ef rfl rfl) (qeb M.bel ht (by omega) (hT.below M.bel) hb7 hb9) fun w24 hb23 M a A => ?_
   refine sdm A λa A↦?_
   iterate 2 refine sdo A (zj (vs := [.slice none 0 0, .int .i64 10]) rfl rfl) λa A↦?_
   iterate 2 refine sda A λa A↦?_
   refine qa (hK6 _ _ (wsk fun K25 hK25 => wsk fun K26 hK26 => wrl (sdm A λa A↦?_)))
   refine sdo (v := .bool true) A (qf rfl rfl (fun w => by kernel_rfl)) λa A↦?_
   refine qa (hK26 _ _ (wp_cond_true (A.ev rfl) ?_))
   refine wsk fun K27 hK27 => wrl (sdo (v := .agg (qn.d.cells qn.ts.length).toArray) A (zp rfl (fun w => by kernel_rfl)) λa A↦?_)
   refine sdm A λa A↦?_
   refine zm (us := (qn.d.cells qn.ts.length)) (L' := (.obj g4 (.cells (qn.d.cells qn.ts.length).toArray 30) :: .obj g2 (.cells (t.d.cells t.ts.length).toArray 30) :: [])) A M rfl rfl (qw rfl rfl rfl (by kernel_rfl) M 0 rfl rfl rfl) 0 rfl rfl rfl ?_
   intro w28 M
   refine sda A λa A↦?_
   refine qa (hK27 _ _ (wp_ret (hret _ _ (en2 A rfl (jh M LiG_isS_30 rfl 0 rfl (cs := [.int .i64 0, .int .i64 0, .bool false, .slice none 0 0, .slice none 0 0, .bool false, .slice none 0 0, .slice none 0 0, .string (⟨#[]⟩), .slice none 0 0, .slice none 0 0]) rfl rfl) (qi rfl) ?_))))
   exact ⟨qn, 10, rfl, ⟨uj _, uk _, by unfold qnd; rw [if_neg (by rw [hb7]; decide), qqi hb9, ui]⟩, M.bel⟩
 ·
  refine gcl A M (ef rfl rfl) (qfh M.bel ht (by omega) (hT.below M.bel) hb7) fun w30 hb29 M a A => ?_
  refine sdm A λa A↦?_
  iterate 2 refine sdo A (zj (vs := [.slice none 0 0, .int .i64 2]) rfl rfl) λa A↦?_
  iterate 2 refine sda A λa A↦?_
  refine qa (hK6 _ _ (wsk fun K31 hK31 => wsk fun K32 hK32 => wrl (sdm A λa A↦?_)))
  refine sdo (v := .bool true) A (qf rfl rfl (fun w => by kernel_rfl)) λa A↦?_
  refine qa (hK32 _ _ (wp_cond_true (A.ev rfl) ?_))
  refine wsk fun K33 hK33 => wrl (sdo (v := .agg (qn.d.cells qn.ts.length).toArray) A (zp rfl (fun w => by kernel_rfl)) λa A↦?_)
  refine sdm A λa A↦?_
  refine zm (us := (qn.d.cells qn.ts.length)) (L' := (.obj g4 (.cells (qn.d.cells qn.ts.length).toArray 30) :: .obj g2 (.cells (t.d.cells t.ts.length).toArray 30) :: [])) A M rfl rfl (qw rfl rfl rfl (by kernel_rfl) M 0 rfl rfl rfl) 0 rfl rfl rfl ?_
  intro w34 M
  refine sda A λa A↦?_
  refine qa (hK33 _ _ (wp_ret (hret _ _ (en2 A rfl (jh M LiG_isS_30 rfl 0 rfl (cs := [.int .i64 0, .int .i64 0, .bool false, .slice none 0 0, .slice none 0 0, .bool false, .slice none 0 0, .slice none 0 0, .string (⟨#[]⟩), .slice none 0 0, .slice none 0 0]) rfl rfl) (qi rfl) ?_))))
  exact ⟨qn, 2, rfl, ⟨uj _, uk _, by unfold qnd; rw [if_pos hb7, ui]⟩, M.bel⟩
theorem LiW_is1_3 : Is1 Tryz.prog 3 := ⟨⟨_, Tryz.underlying3, rfl⟩, by kernel_rfl⟩
theorem LiW_is1_63 : Is1 Tryz.prog 63 := ⟨⟨_, Tryz.underlying63, rfl⟩, by kernel_rfl⟩
theorem LiW_fld_30_0 : FieldAt Tryz.prog 30 0 0 := ⟨_, _, Tryz.underlying30, rfl, rfl, by kernel_rfl⟩
theorem LiW_fld_30_1 : FieldAt Tryz.prog 30 1 1 := ⟨_, _, Tryz.underlying30, rfl, rfl, by kernel_rfl⟩
theorem LiW_isS_30 : IsS Tryz.prog 30 11 := ⟨⟨_, Tryz.underlying30⟩, by kernel_rfl⟩
theorem qlc {w : World} {n : Int} : Calls Tryz.prog 91 #[.int .i64 n] w fun e w' => e = .returned (.bool false) ∧ Below w.heap.size w w' := by
 have M : Mg w w ([]) := Mg.start w
 refine qp (l := [(0, .int .i64 n)]) Tryz.func91 rfl Tryz.ntmps91 rfl rfl ?_
 intro Q hret hnorm hP a H
 refine wsk fun K1 hK1 => wrl (sda H λa H↦?_)
 refine qa (hK1 _ _ (wsk fun K2 hK2 => wrl ?_))
 iterate 2 refine sdm H λa H↦?_
 refine sdo (v := .bool false) H (qf rfl rfl (fun w => (jv w).trans (by rw [show ((n != n)) = false from (bne_self_eq_false n)]))) λa H↦?_
 refine sda H λa H↦?_
 refine qa (hK2 _ _ (wp_ret (hret _ _ (en1 H rfl (qi rfl) ?_))))
 exact ⟨rfl, M.bel⟩
theorem qta {w : World} {m n : Int} : Calls Tryz.prog 74 #[.int .i64 m, .int .i64 n] w fun e w' => e = .returned (.int .i64 (kb m n)) ∧ Below w.heap.size w w' := by
 have M : Mg w w ([]) := Mg.start w
 refine qp (l := [(0, .int .i64 m), (1, .int .i64 n)]) Tryz.func74 rfl Tryz.ntmps74 rfl rfl ?_
 intro Q hret hnorm hP a H
 refine wsk fun K1 hK1 => wrl (sda H λa H↦?_)
 refine qa (hK1 _ _ (wsk fun K2 hK2 => wrl (sdm H λa H↦?_)))
 refine gcl H M (ef rfl rfl) (qlc) fun w4 hb3 M a H => ?_
 refine sda H λa H↦?_
 refine qa (hK2 _ _ (wsk fun K5 hK5 => wrl (sdm H λa H↦?_)))
 refine gcl H M (ef rfl rfl) (qlc) fun w7 hb6 M a H => ?_
 refine sda H λa H↦?_
 refine qa (hK5 _ _ (wsk fun K8 hK8 => wsk fun K9 hK9 => wrl (sdm H λa H↦?_)))
 refine qa (hK9 _ _ (wp_cond_false (H.ev rfl) ?_))
 refine wp_skip (hK8 _ _ (wsk fun K10 hK10 => wsk fun K11 hK11 => wrl (sdm H λa H↦?_)))
 refine qa (hK11 _ _ (wp_cond_false (H.ev rfl) ?_))
 refine wp_skip (hK10 _ _ (wsk fun K12 hK12 => wsk fun K13 hK13 => wrl ?_))
 iterate 2 refine sdm H λa H↦?_
 rcases tf (decide (m < n)) with hb14 | hb14
 ·
  have hb14' := of_decide_eq_true hb14
  refine sdc H qm hb14 λa H↦?_
  refine qa (hK13 _ _ (wp_cond_true (H.ev rfl) ?_))
  refine wsk fun K15 hK15 => wrl (sda H λa H↦?_)
  refine qa (hK15 _ _ (wp_ret (hret _ _ (en1 H rfl (qi rfl) ?_))))
  exact ⟨by rw [show kb m n = -1 from by unfold kb; (repeat' split) <;> omega], M.bel⟩
 ·
  have hb14' := of_decide_eq_false hb14
  refine sdc H qm hb14 λa H↦?_
  refine qa (hK13 _ _ (wp_cond_false (H.ev rfl) ?_))
  refine wp_skip (hK12 _ _ (wsk fun K16 hK16 => wsk fun K17 hK17 => wrl ?_))
  iterate 2 refine sdm H λa H↦?_
  rcases tf (decide (n < m)) with hb18 | hb18
  ·
   have hb18' := of_decide_eq_true hb18
   refine sdc H jn hb18 λa H↦?_
   refine qa (hK17 _ _ (wp_cond_true (H.ev rfl) ?_))
   refine wsk fun K19 hK19 => wrl (sda H λa H↦?_)
   refine qa (hK19 _ _ (wp_ret (hret _ _ (en1 H rfl (qi rfl) ?_))))
   exact ⟨by rw [show kb m n = 1 from by unfold kb; (repeat' split) <;> omega], M.bel⟩
  ·
   have hb18' := of_decide_eq_false hb18
   refine sdc H jn hb18 λa H↦?_
   refine qa (hK17 _ _ (wp_cond_false (H.ev rfl) ?_))
   refine wp_skip (hK16 _ _ (wsk fun K20 hK20 => wrl (sda H λa H↦?_)))
   refine qa (hK20 _ _ (wp_ret (hret _ _ (en1 H rfl (qi rfl) ?_))))
   exact ⟨by rw [show kb m n = 0 from by unfold kb; (repeat' split) <;> omega], M.bel⟩
theorem qod {w : World} {t u : Dt} (h4 : t.d.k = 4) (h5 : u.d.k = 4) : Calls Tryz.prog 57 #[.agg (t.d.cells t.ts.length).toArray, .agg (u.d.cells u.ts.length).toArray] w fun e w' => e = .returned (.int .i64 (kb t.d.n u.d.n)) ∧ Below w.heap.size w w' := by
 have M : Mg w w ([]) := Mg.start w
 refine qp (l := [(0, .agg (t.d.cells t.ts.length).toArray), (1, .agg (u.d.cells u.ts.length).toArray)]) Tryz.func57 rfl Tryz.ntmps57 rfl rfl ?_
 intro Q hret hnorm hP a H
 refine wsk fun K1 hK1 => wrl (ja (vs := (t.d.cells t.ts.length)) (t := 30) H M rfl rfl rfl pg (zd rfl rfl) (by decide) ?_)
 intro g2 w3 M a H
 refine ja (vs := (u.d.cells u.ts.length)) (t := 30) H M rfl rfl rfl pg (zd rfl rfl) (by decide) ?_
 intro g4 w5 M a H
 refine sda H λa H↦?_
 refine qa (hK1 _ _ (wsk fun K6 hK6 => wp_block (wp_loop_rounds 12 ?_)))
 refine vn fun K7 hK7 => ?_
 refine wsk fun K8 hK8 => wsk fun K9 hK9 => wrl (sdo (v := .pointer (some ⟨g2, 0, none⟩)) H (qg LiW_fld_30_0 rfl rfl) λa H↦?_)
 refine sdo H (qx M LiW_is1_3 rfl 1 rfl rfl) λa H↦?_
 refine sdo (v := .bool false) H (qf rfl rfl (fun w => (ql w).trans (by rw [show ((t.d.k == 8)) = false from (beq_eq_false_iff_ne.2 (by omega))]))) λa H↦?_
 refine sdm H λa H↦?_
 iterate 3 refine qy H rfl rfl rfl λa H↦?_
 refine sdk (v := .bool false) H λa H↦?_
 refine qa (hK9 _ _ (wp_cond_false (H.ev rfl) ?_))
 refine wp_exit (hK6 _ _ (wsk fun K10 hK10 => wsk fun K11 hK11 => wrl (sdo (v := .pointer (some ⟨g2, 0, none⟩)) H (qg LiW_fld_30_0 rfl rfl) λa H↦?_)))
 refine sdo H (qx M LiW_is1_3 rfl 1 rfl rfl) λa H↦?_
 refine sdo (v := .pointer (some ⟨g4, 0, none⟩)) H (qg LiW_fld_30_0 rfl rfl) λa H↦?_
 refine sdo H (qx M LiW_is1_3 rfl 0 rfl rfl) λa H↦?_
 refine sdo (v := .bool false) H (qf rfl rfl (fun w => (jv w).trans (by rw [show ((t.d.k != u.d.k)) = false from (bne_eq_false_iff_eq.2 (by omega))]))) λa H↦?_
 refine qa (hK11 _ _ (wp_cond_false (H.ev rfl) ?_))
 refine wp_skip (hK10 _ _ (wsk fun K12 hK12 => wsk fun K13 hK13 => wrl (sdo (v := .pointer (some ⟨g2, 0, none⟩)) H (qg LiW_fld_30_0 rfl rfl) λa H↦?_)))
 refine sdo H (qx M LiW_is1_3 rfl 1 rfl rfl) λa H↦?_
 refine qa (hK13 _ _ (wp_block (wsk fun K14 hK14 => wsk fun K15 hK15 => wrl (sdo (v := .bool false) H (qf rfl rfl (fun w => (ql w).trans (by rw [show ((t.d.k == 2)) = false from (beq_eq_false_iff_ne.2 (by omega))]))) λa H↦?_))))
 refine sda H λa H↦?_
 refine qa (hK15 _ _ (wp_cond_false (H.ev rfl) ?_))
 refine wrl (sdo (v := .bool true) H (qf rfl rfl (fun w => (ql w).trans (by rw [show ((t.d.k == 4)) = true from (beq_iff_eq.2 h4)]))) λa H↦?_)
 refine sda H λa H↦?_
 refine qa (hK14 _ _ (wp_cond_true (H.ev rfl) ?_))
 refine wsk fun K16 hK16 => wrl (sdo (v := .pointer (some ⟨g2, 1, none⟩)) H (qg LiW_fld_30_1 rfl rfl) λa H↦?_)
 refine sdo H (qx M LiW_is1_3 rfl 1 rfl rfl) λa H↦?_
 refine sdo (v := .pointer (some ⟨g4, 1, none⟩)) H (qg LiW_fld_30_1 rfl rfl) λa H↦?_
 refine sdo H (qx M LiW_is1_3 rfl 0 rfl rfl) λa H↦?_
 refine gcl H M (ef rfl rfl) (qta) fun w18 hb17 M a H => ?_
 refine sda H λa H↦?_
 refine qa (hK16 _ _ (wp_ret (hret _ _ (en1 H rfl (qi rfl) ?_))))
 exact ⟨rfl, M.bel⟩
theorem qtb {w : World} {t u : Dt} (ht : t.rd w) (hu : u.rd w) (s1 : qt qk t.tr = true) (s2 : qt qk u.tr = true) (hT : Tabs8 w) : Calls Tryz.prog 56 #[.agg (t.d.cells t.ts.length).toArray, .agg (u.d.cells u.ts.length).toArray] w fun e w' => e = .returned (.bool true) ∧ Below w.heap.size w w' := by
 have M : Mg w w ([]) := Mg.start w
 refine qp (l := [(0, .agg (t.d.cells t.ts.length).toArray), (1, .agg (u.d.cells u.ts.length).toArray)]) Tryz.func56 rfl Tryz.ntmps56 rfl rfl ?_
 intro Q hret hnorm hP a H
 refine wsk fun K1 hK1 => wrl (ja (vs := (t.d.cells t.ts.length)) (t := 30) H M rfl rfl rfl pg (zd rfl rfl) (by decide) ?_)
 intro g2 w3 M a H
 refine ja (vs := (u.d.cells u.ts.length)) (t := 30) H M rfl rfl rfl pg (zd rfl rfl) (by decide) ?_
 intro g4 w5 M a H
 refine sda H λa H↦?_
 refine qa (hK1 _ _ (wsk fun K6 hK6 => wrl (sdo H (ze M LiW_isS_30 rfl 1 rfl (cs := (t.d.cells t.ts.length)) rfl rfl) λa H↦?_)))
 refine gcl H M (ef rfl rfl) ((s1 ▸ sound_any (t := t) (Dt.keep M.bel _ ht) (hT.below M.bel))) fun w8 hb7 M a H => ?_
 refine sdm H λa H↦?_
 refine sdo H (ze M LiW_isS_30 rfl 0 rfl (cs := (u.d.cells u.ts.length)) rfl rfl) λa H↦?_
 refine gcl H M (ef rfl rfl) ((s2 ▸ sound_any (t := u) (Dt.keep M.bel _ hu) (hT.below M.bel))) fun w10 hb9 M a H => ?_
 refine sdk (v := .bool true) H λa H↦?_
 refine sda H λa H↦?_
 refine qa (hK6 _ _ (wp_ret (hret _ _ (en1 H rfl (qi rfl) ?_))))
 exact ⟨rfl, M.bel⟩
theorem qwj {w : World} {t u : Dt} (h4 : t.d.k = 4) (h5 : u.d.k = 4) (ht : t.rd w) (hu : u.rd w) (s1 : qt qk t.tr = true) (s2 : qt qk u.tr = true) (hT : Tabs8 w) : Calls Tryz.prog 28 #[.agg (t.d.cells t.ts.length).toArray, .agg (u.d.cells u.ts.length).toArray] w fun e w' => e = .returned (.int .i64 (kb t.d.n u.d.n)) ∧ Below w.heap.size w w' := by
 have M : Mg w w ([]) := Mg.start w
 refine qp (l := [(0, .agg (t.d.cells t.ts.length).toArray), (1, .agg (u.d.cells u.ts.length).toArray)]) Tryz.func28 rfl Tryz.ntmps28 rfl rfl ?_
 intro Q hret hnorm hP a H
 refine wsk fun K1 hK1 => wrl (ja (vs := (t.d.cells t.ts.length)) (t := 30) H M rfl rfl rfl pg (zd rfl rfl) (by decide) ?_)
 intro g2 w3 M a H
 refine ja (vs := (u.d.cells u.ts.length)) (t := 30) H M rfl rfl rfl pg (zd rfl rfl) (by decide) ?_
 intro g4 w5 M a H
 refine sda H λa H↦?_
 refine qa (hK1 _ _ (wsk fun K6 hK6 => wsk fun K7 hK7 => wrl (sdo H (ze M LiW_isS_30 rfl 1 rfl (cs := (t.d.cells t.ts.length)) rfl rfl) λa H↦?_)))
 refine sdo H (ze M LiW_isS_30 rfl 0 rfl (cs := (u.d.cells u.ts.length)) rfl rfl) λa H↦?_
 refine gcl H M (ef rfl rfl) (qtb (Dt.keep M.bel _ ht) (Dt.keep M.bel _ hu) s1 s2 (hT.below M.bel)) fun w9 hb8 M a H => ?_
 refine sdo (v := .bool false) H (zv rfl jg) λa H↦?_
 refine qa (hK7 _ _ (wp_cond_false (H.ev rfl) ?_))
 refine wp_skip (hK6 _ _ (wsk fun K10 hK10 => wrl (sdo H (ze M LiW_isS_30 rfl 1 rfl (cs := (t.d.cells t.ts.length)) rfl rfl) λa H↦?_)))
 refine sdo H (ze M LiW_isS_30 rfl 0 rfl (cs := (u.d.cells u.ts.length)) rfl rfl) λa H↦?_
 refine gcl H M (ef rfl rfl) (qod h4 h5) fun w12 hb11 M a H => ?_
 refine sda H λa H↦?_
 refine qa (hK10 _ _ (wp_ret (hret _ _ (en1 H rfl (qi rfl) ?_))))
 exact ⟨rfl, M.bel⟩
/-- A pair whose first is a sound character. -/
def PairC (w : World) (t : Dt) : Prop := t.rd w ∧ ∃ t0, t.ts[0]? = some t0 ∧ t0.rd w ∧ t0.d.k = 4 ∧ qt qk t0.tr = true
def qtc (t : Dt) : Int := match t.ts with
 | [] => 0
 | t0 :: _ => t0.d.n
def yx (t u : Dt) : Int := kb (qtc t) (qtc u)
theorem qqj {t t0 : Dt} (h : t.ts[0]? = some t0) : qtc t = t0.d.n := by
 unfold qtc
 cases h9 : t.ts with
 | nil => rw [h9] at h; cases h
 | cons a l => rw [h9] at h; cases h; rfl
theorem qxa : Swo (ltC yx) := by
 constructor
 ·
  intro x y h
  unfold ltC yx kb at *
  have := of_decide_eq_true h
  refine decide_eq_false ?_
  repeat' split at * <;> omega
 ·
  intro x y z h1 h2
  unfold ltC yx kb at *
  have h3 := of_decide_eq_false h1
  have h4 := of_decide_eq_false h2
  refine decide_eq_false ?_
  repeat' split at * <;> omega
theorem zae {w : World} {t u t0 u0 : Dt} {gk : Nat} (hG : w.heap[gk]? = some (.cells [.func (.func 49) #[] #[]].toArray 63)) (ht : t.rd w) (hu : u.rd w) (h0 : t.ts[0]? = some t0) (k0 : u.ts[0]? = some u0) (r1 : t0.rd w) (r2 : u0.rd w) (h4 : t0.d.k = 4) (h5 : u0.d.k = 4) (s1 : qt qk t0.tr = true) (s2 : qt qk u0.tr = true) (hT : Tabs8 w) : Calls Tryz.prog 72 #[.agg (t.d.cells t.ts.length).toArray, .agg (u.d.cells u.ts.length).toArray, .pointer (some ⟨gk, 0, none⟩)] w fun e w' => e = .returned (.int .i64 (kb t0.d.n u0.d.n)) ∧ Below w.heap.size w w' := by
 have M : Mg w w ([]) := Mg.start w
 refine qp (l := [(0, .agg (t.d.cells t.ts.length).toArray), (1, .agg (u.d.cells u.ts.length).toArray), (2, .pointer (some ⟨gk, 0, none⟩))]) Tryz.func72 rfl Tryz.ntmps72 rfl rfl ?_
 intro Q hret hnorm hP a H
 refine wsk fun K1 hK1 => wrl (ja (vs := (t.d.cells t.ts.length)) (t := 30) H M rfl rfl rfl pg (zd rfl rfl) (by decide) ?_)
 intro g2 w3 M a H
 refine ja (vs := (u.d.cells u.ts.length)) (t := 30) H M rfl rfl rfl pg (zd rfl rfl) (by decide) ?_
 intro g4 w5 M a H
 refine sda H λa H↦?_
 refine qa (hK1 _ _ (wsk fun K6 hK6 => js (S := fun w1 => Mg w w1 (.obj g4 (.cells (u.d.cells u.ts.length).toArray 30) :: .obj g2 (.cells (t.d.cells t.ts.length).toArray 30) :: [])) (by kernel_rfl) ?_))
 replace M := M.drew
 refine qe H 0 rfl rfl rfl rfl hP (M.sub (cc (cc (List.nil_sublist _)))) (fun w1 M => qif M hG LiW_is1_63 rfl rfl) λa H↦?_
 refine qe H 1 rfl rfl rfl rfl hP (M.sub (cc (cc (List.nil_sublist _)))) (fun w1 M => ze M LiW_isS_30 rfl 1 rfl (cs := (t.d.cells t.ts.length)) rfl rfl) λa H↦?_
 refine qe H 3 rfl rfl rfl rfl hP (M.sub (cc (cc (List.nil_sublist _)))) (fun w1 M => qif M hG LiW_is1_63 rfl rfl) λa H↦?_
 refine qe H 4 rfl rfl rfl rfl hP (M.sub (cc (cc (List.nil_sublist _)))) (fun w1 M => ze M LiW_isS_30 rfl 0 rfl (cs := (u.d.cells u.ts.length)) rfl rfl) λa H↦?_
 refine qs (by kernel_rfl) (jr H 2 rfl rfl rfl rfl (zw rfl rfl (fun w => by kernel_rfl)) (qad (t := t) (Dt.keep M.bel _ ht) h0) ?_)
 rintro _ w8 ⟨rfl, hb7⟩
 replace M := M.call hb7
 refine ⟨_, rfl, (M.sub (cc (cc (List.nil_sublist _)))), ?_⟩
 intro a H
 refine qs (by kernel_rfl) (jr H 5 rfl rfl rfl rfl (zw rfl rfl (fun w => by kernel_rfl)) (qad (t := u) (Dt.keep M.bel _ hu) k0) ?_)
 rintro _ w10 ⟨rfl, hb9⟩
 replace M := M.call hb9
 refine ⟨_, rfl, (M.sub (cc (cc (List.nil_sublist _)))), ?_⟩
 intro a H
 refine qs (by kernel_rfl) (jr H 6 rfl rfl rfl rfl (zw rfl rfl (fun w => by kernel_rfl)) (qwj (t := t0) (u := u0) h4 h5 (Dt.keep M.bel _ r1) (Dt.keep M.bel _ r2) s1 s2 (hT.below M.bel)) ?_)
 rintro _ w12 ⟨rfl, hb11⟩
 replace M := M.call hb11
 refine ⟨_, rfl, (M.sub (cc (cc (List.nil_sublist _)))), ?_⟩
 intro a H
 refine qe H 7 rfl rfl rfl rfl hP (M.sub (cc (cc (List.nil_sublist _)))) (fun w1 M => ji rfl) λa H↦?_
 refine zu (by kernel_rfl) ?_
 refine hK6 _ _ (wp_ret (hret _ _ (en1 H rfl (qi rfl) ?_)))
 exact ⟨rfl, M.bel⟩
theorem qoe {w0 : World} {T : List Ck} {ts : List Dt} {gk : Nat} (hP : ∀ t ∈ ts, PairC w0 t) (hT : Tabs8 w0) : Cmps Tryz.prog 72 [.pointer (some ⟨gk, 0, none⟩)] w0 (.obj gk (.cells #[.func (.func 49) #[] #[]] 63) :: T) ts yx := by
 refine ⟨fun us w => by kernel_rfl, fun t u w ht hu M => ?_⟩
 obtain ⟨a1, a0, a2, a3, a4, a5⟩ := hP t ht
 obtain ⟨b1, b0, b2, b3, b4, b5⟩ := hP u hu
 have hb := M.bel
 unfold yx
 rw [qqj a2, qqj b2]
 exact zae (M.obj 0 rfl) (Dt.keep hb _ a1) (Dt.keep hb _ b1) a2 b2 (Dt.keep hb _ a3) (Dt.keep hb _ b3) a4 b4 a5 b5 (hT.below hb)
theorem qof {w0 w : World} {so9 : Option Addr} {c9 : Nat} {zs : List Dt} {T : List Ck} (hl : zs.length ≤ 1000000000) (hPc : ∀ t ∈ zs, PairC w0 t) (hT : Tabs8 w0) (hM0 : Mg w0 w (.row 30 11 (.slice so9 zs.length c9) zs.length (qb zs) :: T)) : Calls Tryz.prog 53 #[.slice so9 zs.length c9, .func (.func 49) #[] #[]] w fun e w' => e = .returned (.tuple #[]) ∧ Mg w0 w' (.row 30 11 (.slice so9 zs.length c9) zs.length (qb (qz (ltC yx) zs)) :: T) := by
 have M : Mg w0 w (.row 30 11 (.slice so9 zs.length c9) zs.length (qb zs) :: T) := hM0
 refine qp (l := [(0, .slice so9 zs.length c9), (1, .func (.func 49) #[] #[])]) Tryz.func53 rfl Tryz.ntmps53 rfl rfl ?_
 intro Q hret hnorm hP a H
 refine wsk fun K1 hK1 => wrl (ja (vs := [.func (.func 49) #[] #[]]) (t := 63) H M rfl rfl rfl pg (zd rfl rfl) (by decide) ?_)
 intro g2 w3 M a H
 refine qa (hK1 _ _ (wrl (sdm H λa H↦?_)))
 refine sdo (v := .func (.func 72) #[] [.pointer (some ⟨g2, 0, none⟩)].toArray) H (yh rfl) λa H↦?_
 refine sct H (ef rfl rfl) (qsi (by omega) (qoe hPc hT) (fun t ht => ht) qxa (M.perm (List.Perm.swap _ _ _))) ?_
 rintro _ w5 ⟨rfl, hM4⟩
 replace M : Mg w0 w5 (.row 30 11 (.slice so9 zs.length c9) zs.length (qb (qz (ltC yx) zs)) :: .obj g2 (.cells #[.func (.func 49) #[] #[]] 63) :: T) := hM4
 refine ⟨_, rfl, ?_⟩
 intro a H
 refine qa (hnorm _ _ (xf (v := .tuple #[]) H rfl .nil rfl ?_))
 exact ⟨rfl, M.sub (cc (cn (List.Sublist.refl _)))⟩
theorem qog {w : World} {t : Dt} : Calls Tryz.prog 67 #[.agg (t.d.cells t.ts.length).toArray] w fun e w' => e = .returned (.bool (t.d.k != 8)) ∧ Below w.heap.size w w' := by
 have M : Mg w w ([]) := Mg.start w
 refine qp (l := [(0, .agg (t.d.cells t.ts.length).toArray)]) Tryz.func67 rfl Tryz.ntmps67 rfl rfl ?_
 intro Q hret hnorm hP a H
 refine wsk fun K1 hK1 => wrl (ja (vs := (t.d.cells t.ts.length)) (t := 30) H M rfl rfl rfl pg (zd rfl rfl) (by decide) ?_)
 intro g2 w3 M a H
 refine sda H λa H↦?_
 refine qa (hK1 _ _ (wsk fun K4 hK4 => wrl (sdo (v := .pointer (some ⟨g2, 0, none⟩)) H (qg LiW_fld_30_0 rfl rfl) λa H↦?_)))
 refine sdo H (qx M LiW_is1_3 rfl 0 rfl rfl) λa H↦?_
 rcases tf ((t.d.k != 8)) with hb5 | hb5
 ·
  have hb5' := bne_iff_ne.1 hb5
  refine sdc H jv hb5 λa H↦?_
  refine sda H λa H↦?_
  refine qa (hK4 _ _ (wp_ret (hret _ _ (en1 H rfl (qi rfl) ?_))))
  exact ⟨by simp_all, M.bel⟩
 ·
  have hb5' := bne_eq_false_iff_eq.1 hb5
  refine sdc H jv hb5 λa H↦?_
  refine sda H λa H↦?_
  refine qa (hK4 _ _ (wp_ret (hret _ _ (en1 H rfl (qi rfl) ?_))))
  exact ⟨by simp_all, M.bel⟩
theorem qtd {w : World} {ts : List Dt} : Asks Tryz.prog 67 [] w ts (fun t => t.d.k != 8) := ⟨fun us w => by kernel_rfl, fun t w1 ht hb => qog⟩
theorem qxb {ts : List Dt} (h : ∀ t ∈ ts, t.d.k = 8) : ts.any (fun t => t.d.k != 8) = false := List.any_eq_false.2 fun t ht => by rw [h t ht]; decide
theorem zcg {ts : List Dt} {xs : List Tr} (h : ts.map Dt.tr = xs) (hk : ∀ x ∈ xs, x.k = 8) : ∀ t ∈ ts, t.d.k = 8 := fun t ht => by
 rw [← qug]; exact hk _ (h ▸ List.mem_map_of_mem ht)
theorem qld {w0 w : World} {t : Dt} (h0 : Below w0.heap.size w0 w) (ht : t.rd w0) (hb : t.tr.bulk ≤ 300000000) (hT : Tabs8 w) (hs : qt qk t.tr = true) {xs : List Tr} (hx : jd t.tr = some xs) (hk : ∀ x ∈ xs, x.k = 8) : Calls Tryz.prog 47 #[.agg (t.d.cells t.ts.length).toArray, .slice none 0 0] w fun e w' => ∃ so' ca' ys, e = .returned (.tuple #[.slice so' (ys : List Dt).length ca', .int .i64 0]) ∧ (ys.map Dt.tr = xs ∧ (∀ x ∈ ys, x.rd w0) ∧ ys.length ≤ t.tr.bulk) ∧ Mg w w' [.row 30 11 (.slice so' ys.length ca') ys.length (qb ys)] := by
 have M : Mg w w ([]) := Mg.start w
 refine qp (l := [(0, .agg (t.d.cells t.ts.length).toArray), (1, .slice none 0 0)]) Tryz.func47 rfl Tryz.ntmps47 rfl rfl ?_
 intro Q hret hnorm hP a H
 refine wsk fun K1 hK1 => wrl (ja (vs := (t.d.cells t.ts.length)) (t := 30) H M rfl rfl rfl pg (zd rfl rfl) (by decide) ?_)
 intro g2 w3 M a H
 iterate 2 refine sda H λa H↦?_
 refine qa (hK1 _ _ (wsk fun K4 hK4 => wrl (sdo H (ze M LiW_isS_30 rfl 0 rfl (cs := (t.d.cells t.ts.length)) rfl rfl) λa H↦?_)))
 refine sdm H λa H↦?_
 refine sct H (ef rfl rfl) (yw (h0.trans (M.bel.mono h0.size)) ht (by omega) (hT.below M.bel) hs (by rw [hx]; rfl)) ?_
 rintro _ w5 ⟨so7, ca7, ys, rfl, ⟨hy1, hy2, hy3⟩, hM7⟩
 have hye : ys.map Dt.tr = xs := by rw [hx] at hy1; exact (Option.some.inj hy1).symm
 replace M : Mg w w5 (.row 30 11 (.slice so7 ys.length ca7) ys.length (qb ys) :: .obj g2 (.cells (t.d.cells t.ts.length).toArray 30) :: []) := (M.both hM7 (zr (by simp) (zl zt)) (zr (by simp) (zl zt)))
 refine ⟨_, rfl, ?_⟩
 intro a H
 refine sdm H λa H↦?_
 iterate 2 refine sdo H (zj (vs := [.slice so7 ys.length ca7, .int .i64 0]) rfl rfl) λa H↦?_
 iterate 2 refine sda H λa H↦?_
 refine qa (hK4 _ _ (wsk fun K6 hK6 => wp_block (wsk fun K7 hK7 => wrl (sdm H λa H↦?_))))
 refine sdo (v := .bool false) H (qf rfl rfl (fun w => by kernel_rfl)) λa H↦?_
 refine sda H λa H↦?_
 refine qa (hK7 _ _ (wp_cond_false (H.ev rfl) ?_))
 refine wsk fun K8 hK8 => wrl (sdm H λa H↦?_)
 refine gcl H M (ef rfl rfl) ((qxb (zcg hye hk) ▸ uq (cs := []) (vw (M.has 0 rfl)).1 (fun t ht => Dt.keep (h0.trans (M.bel.mono h0.size)) _ (hy2 t ht)) (by omega) qtd)) fun w10 hb9 M a H => ?_
 refine sda H λa H↦?_
 refine qa (hK8 _ _ (wp_cond_false (H.ev rfl) ?_))
 refine wp_skip (hK6 _ _ (wsk fun K11 hK11 => wrl (sdm H λa H↦?_)))
 iterate 2 refine sda H λa H↦?_
 refine qa (hK11 _ _ (wp_ret (hret _ _ (en2 H rfl (qi rfl) (qi rfl) ?_))))
 replace M : Mg w w10 (.row 30 11 (.slice so7 ys.length ca7) ys.length (qb ys) :: []) := by
  have h9 := M.sub (cc (cn (.refl _)))
  exact h9
 exact ⟨_, _, ys, rfl, ⟨hye, hy2, hy3⟩, M⟩
theorem LiX_isS_30 : IsS Tryz.prog 30 11 := ⟨⟨_, Tryz.underlying30⟩, by kernel_rfl⟩
theorem qib {α β : Type} {lt : α → α → Bool} {lt' : β → β → Bool} {f : α → β} (h : ∀ x y, lt x y = lt' (f x) (f y)) : ∀ xs ys : List α, (mrg lt xs ys).map f = mrg lt' (xs.map f) (ys.map f)
 | [], ys => by rw [xd, List.map_nil, xd]
 | x :: xs, [] => by rw [xj, List.map_nil, xj]
 | x :: xs, y :: ys => by
  rw [List.map_cons, List.map_cons]
  cases h9 : lt y x with
  | true => rw [xq h9, xq (by rw [← h]; exact h9), List.map_cons, qib h (x :: xs) ys, List.map_cons]
  | false => rw [vg h9, vg (by rw [← h]; exact h9), List.map_cons, qib h xs (y :: ys), List.map_cons]
termination_by xs ys => xs.length + ys.length
theorem qfj {α β : Type} {lt : α → α → Bool} {lt' : β → β → Bool} {f : α → β} (h : ∀ x y, lt x y = lt' (f x) (f y)) : ∀ xs : List α, (qz lt xs).map f = qz lt' (xs.map f)
 | [] => rfl
 | x :: xs => by
  show (mrg lt [x] (qz lt xs)).map f = mrg lt' [f x] (qz lt' (xs.map f))
  rw [qib h, qfj h xs]; rfl
/-- The same of trees. -/
def zaf (x : Tr) : Int := match x.ts with
 | [] => 0
 | x0 :: _ => x0.n
def ltT (x y : Tr) : Bool := decide (kb (zaf x) (zaf y) < 0)
theorem qra (t : Dt) : qtc t = zaf t.tr := by
 cases t with
 | mk d ts =>
  rw [Dt.tr_mk]
  unfold qtc zaf
  cases ts with
  | nil => rfl
  | cons u us => cases u with
   | mk e vs => show e.n = (Dt.tr (.mk e vs)).n; rw [Dt.tr_mk]; rfl
theorem qle (ys : List Dt) : (qz (ltC yx) ys).map Dt.tr = qz ltT (ys.map Dt.tr) := qfj (fun x y => by unfold ltC yx ltT; rw [qra, qra]) ys
theorem qed {xs ys : List Tr} (h : xs.Perm ys) : Tr.bulks xs = Tr.bulks ys := by
 induction h with
 | nil => rfl
 | cons x _ ih => show x.bulk + _ = x.bulk + _; rw [ih]
 | swap x y l => show y.bulk + (x.bulk + _) = x.bulk + (y.bulk + _); omega
 | trans _ _ h1 h2 => rw [h1, h2]
theorem qoh {w : World} {so : Option Addr} {ca : Nat} {ys : List Dt} (hR : Rt w so (qz (ltC yx) ys)) (hD : ∀ t ∈ qz (ltC yx) ys, t.rd w) (hb : Tr.bulks ((qz (ltC yx) ys).map Dt.tr) ≤ 400000000) : Calls Tryz.prog 42 #[.slice so ys.length ca] w fun e w' => ∃ t2 : Dt, e = .returned (.agg (t2.d.cells t2.ts.length).toArray) ∧ (t2.rd w' ∧ t2.at_ (w.heap.size ≤ ·) ∧ t2.tr = za ((qz (ltC yx) ys).map Dt.tr) nilT) ∧ Below w.heap.size w w' := by
 have := qec (ca := ca) hR hD hb
 rwa [jq] at this
/-- Each a pair whose first is a sound character. -/
def PairsC (xs : List Tr) : Prop := ∀ x ∈ xs, x.k = 8 ∧ ∃ x0 r, x.ts = x0 :: r ∧ x0.k = 4 ∧ qt qk x0 = true
theorem qxc {w : World} {t : Dt} (ht : t.rd w) (h : ∃ x0 r, t.tr.ts = x0 :: r ∧ x0.k = 4 ∧ qt qk x0 = true) : PairC w t := by
 refine ⟨ht, ?_⟩
 obtain ⟨x0, r, h1, h2, h3⟩ := h
 cases t with
 | mk d ts =>
  rw [Dt.tr_mk] at h1
  cases ts with
  | nil => cases h1
  | cons u us =>
   have e : u.tr = x0 := (List.cons.inj h1).1
   obtain ⟨z, -, -, i0, -, r0, -, -⟩ := qgh ht (i := 0) (Nat.zero_lt_succ _)
   have : z = u := (Option.some.inj i0).symm
   subst this
   exact ⟨z, rfl, r0, by rw [← qug, e]; exact h2, by rw [e]; exact h3⟩
theorem qlf {w : World} {t : Dt} (ht : t.rd w) (hb : t.tr.bulk ≤ 300000000) (hT : Tabs8 w) (hs : qt qk t.tr = true) {xs : List Tr} (hx : jd t.tr = some xs) (hC : PairsC xs) : Calls Tryz.prog 30 #[.agg (t.d.cells t.ts.length).toArray] w fun e w' => ∃ (t2 : Dt) (k : Int), e = .returned (.tuple #[.agg (t2.d.cells t2.ts.length).toArray, .int .i64 k]) ∧ (t2.rd w' ∧ t2.at_ (w.heap.size ≤ ·) ∧ (t2.tr, k) = (za (qz ltT xs) nilT, 0)) ∧ Below w.heap.size w w' := by
 have M : Mg w w ([]) := Mg.start w
 refine qp (l := [(0, .agg (t.d.cells t.ts.length).toArray)]) Tryz.func30 rfl Tryz.ntmps30 rfl rfl ?_
 intro Q hret hnorm hP a A
 refine wsk fun K1 hK1 => wrl (ja (vs := (t.d.cells t.ts.length)) (t := 30) A M rfl rfl rfl pg (zd rfl rfl) (by decide) ?_)
 intro g2 w3 M a A
 refine ja (vs := (qn.d.cells qn.ts.length)) (t := 30) A M rfl rfl rfl pg (zi (z := .agg (qn.d.cells qn.ts.length).toArray) (by kernel_rfl) rfl) (by decide) ?_
 intro g4 w5 M a A
 refine sda A λa A↦?_
 refine qa (hK1 _ _ (wsk fun K6 hK6 => wrl (sdo A (ze M LiX_isS_30 rfl 1 rfl (cs := (t.d.cells t.ts.length)) rfl rfl) λa A↦?_)))
 refine sct A (ef rfl rfl) (qld M.bel ht (by omega) (hT.below M.bel) hs hx (fun x h9 => (hC x h9).1)) ?_
 rintro _ w7 ⟨so7, ca7, ys, rfl, ⟨hye, hy2, hy3⟩, hM7⟩
 have hyb := ya hx
 have hyk : ∀ z ∈ ys, PairC _ z := fun z hz => qxc (hy2 z hz) (hC _ (hye ▸ List.mem_map_of_mem hz)).2
 replace M : Mg w w7 (.row 30 11 (.slice so7 ys.length ca7) ys.length (qb ys) :: .obj g4 (.cells (qn.d.cells qn.ts.length).toArray 30) :: .obj g2 (.cells (t.d.cells t.ts.length).toArray 30) :: []) := (M.both hM7 (zr (by simp) (zr (by simp) (zl zt))) (zr (by simp) (zl zt)))
 refine ⟨_, rfl, ?_⟩
 intro a A
 refine sdm A λa A↦?_
 iterate 2 refine sdo A (zj (vs := [.slice so7 ys.length ca7, .int .i64 0]) rfl rfl) λa A↦?_
 iterate 2 refine sda A λa A↦?_
 refine qa (hK6 _ _ (wsk fun K8 hK8 => wsk fun K9 hK9 => wrl (sdm A λa A↦?_)))
 refine sdo (v := .bool false) A (qf rfl rfl (fun w => by kernel_rfl)) λa A↦?_
 refine qa (hK9 _ _ (wp_cond_false (A.ev rfl) ?_))
 refine wp_skip (hK8 _ _ (wsk fun K10 hK10 => wrl (sdm A λa A↦?_)))
 refine sct A (ef rfl rfl) (qof (by omega) hyk hT M) ?_
 rintro _ w11 ⟨rfl, hM8⟩
 replace M : Mg w w11 (.row 30 11 (.slice so7 ys.length ca7) ys.length (qb (qz (ltC yx) ys)) :: .obj g4 (.cells (qn.d.cells qn.ts.length).toArray 30) :: .obj g2 (.cells (t.d.cells t.ts.length).toArray 30) :: []) := hM8
 refine ⟨_, rfl, ?_⟩
 intro a A
 refine qa (hK10 _ _ (wsk fun K12 hK12 => wrl (sdm A λa A↦?_)))
 have hlt13 := (Ck.lt (M.has 1 rfl) g4 rfl).2
 have hlt14 := (Ck.lt (M.has 2 rfl) g2 rfl).2
 have hzt2 := M.bel.size
 refine sct A (ef rfl rfl) (qoh (vw (M.has 0 rfl)).1 (fun t ht => Dt.keep M.bel _ (hy2 t ((jj _).mem_iff.1 ht))) (by rw [qle, qed (jj _), hye]; omega)) ?_
 rintro _ w16 ⟨t2, rfl, ⟨hrt2, hat2, htt2⟩, hb15⟩
 replace M := M.call hb15
 refine ⟨_, rfl, ?_⟩
 intro a A
 refine xn (us := (t2.d.cells t2.ts.length)) (L' := (.row 30 11 (.slice so7 ys.length ca7) ys.length (qb (qz (ltC yx) ys)) :: .obj g4 (.cells (t2.d.cells t2.ts.length).toArray 30) :: .obj g2 (.cells (t.d.cells t.ts.length).toArray 30) :: [])) A M rfl rfl (qw rfl rfl rfl (by kernel_rfl) M 1 rfl rfl rfl) 1 rfl rfl rfl ?_
 intro w17 M hK18
 replace hrt2 := Dt.kept hK18 _ hrt2 (Dt.at_mono (fun b hb => by rintro rfl; omega) _ hat2)
 refine sda A λa A↦?_
 refine qa (hK12 _ _ (wp_ret (hret _ _ (en2 A rfl (jh M LiX_isS_30 rfl 1 rfl (cs := [.int .i64 t2.d.k, .int .i64 t2.d.n, .bool t2.d.y.q.b1, .slice t2.d.y.o1 t2.d.y.q.t1.length t2.d.y.c1, .slice t2.d.y.o2 t2.d.y.q.q1.length t2.d.y.c2, .bool t2.d.y.q.b2, .slice t2.d.y.o3 t2.d.y.q.t2.length t2.d.y.c3, .slice t2.d.y.o4 t2.d.y.q.q2.length t2.d.y.c4, .string t2.d.s, .slice t2.d.ro t2.d.rl.length t2.d.rc, .slice t2.d.lo t2.ts.length t2.d.lc]) rfl rfl) (qi rfl) ?_))))
 exact ⟨t2, 0, rfl, ⟨hrt2, Dt.at_mono (fun b hb => Nat.le_trans hzt2 hb) _ hat2, by rw [htt2, qle, hye]⟩, M.bel⟩
def chD (n : Nat) : Dt := .mk ⟨4, (n : Int), ⟨Q6.zero, none, 0, none, 0, none, 0, none, 0⟩, ⟨#[]⟩, none, 0, [], none, 0⟩ []
def cT (n : Nat) : Tr := .mk 4 (n : Int) Q6.zero ⟨#[]⟩ [] []
def pT (k n : Nat) : Tr := .mk 8 0 Q6.zero ⟨#[]⟩ [] [cT k, cT n]
theorem qxd (n : Nat) : (chD n).tr = cT n := by unfold chD cT; rw [Dt.tr_mk]; rfl
theorem qxe (w : World) {n : Nat} (h : n ≤ 1000) : (chD n).rd w := by
  unfold chD
  exact Dt.rd_iff.2 ⟨⟨⟨Sc.none w, Sc.none w, Sc.none w, Sc.none w⟩, qab, ⟨fun h => absurd rfl h⟩, Nat.le_refl _, by show (0 : Nat) ≤ _; omega, by show (-9223372036854775808 : Int) ≤ 4; omega, by show (4 : Int) ≤ 9223372036854775807; omega, by show (-9223372036854775808 : Int) ≤ (n : Int); omega, by show (n : Int) ≤ 9223372036854775807; omega, by show (0 : Nat) ≤ _; omega⟩, Nat.le_refl _, by show (0 : Nat) ≤ _; omega, fun h => absurd rfl h, fun t h => by cases h⟩
/-- The pieces of memory of such pairs, and the pairs. -/
def mkP (q : Nat × Nat × Nat) : Dt := jw q.1 (chD q.2.1) (chD q.2.2)
def pcs (gs : List (Nat × Nat × Nat)) : List Ck := gs.map fun q => .row 30 11 (.slice (some ⟨q.1, 0, none⟩) 2 2) 2 (qb [chD q.2.1, chD q.2.2])
theorem zch {w0 w : World} {L : List Ck} {gs : List (Nat × Nat × Nat)} (hM : Mg w0 w (L ++ pcs gs)) (hs : ∀ q ∈ gs, q.2.1 ≤ 1000 ∧ q.2.2 ≤ 1000) : ∀ q ∈ gs, (mkP q).rd w := fun q hq => by
  have h := hM.all _ (List.mem_append_right _ (List.mem_map_of_mem hq))
  refine qjg (Ck.lt h q.1 rfl).2 (fun p v hp => ?_) (qxe w (hs q hq).1) (qxe w (hs q hq).2)
  obtain ⟨b, o, e, hc⟩ := qmf h (fun e => by cases e)
  cases e
  have := hc p v hp
  rwa [Nat.zero_add] at this
theorem qlg {n : Nat} (h : n ≤ 1000) : qt qk (cT n) = true := by
  rw [ym]
  refine ⟨by rfl, by show 1 + 0 ≤ 20000; omega, ?_⟩
  show (qk (cT n) && true) = true
  rw [Bool.and_true]
  show (qaj (n : Int) && _) = true
  rw [show qaj (n : Int) = true by unfold qaj; simp; omega]; rfl
theorem qxf {n : Nat} (h : n ≤ 1000) : jt qk (cT n) = true := ((ym _).1 (qlg h)).2.2
theorem zci {k n : Nat} (h : k ≤ 1000) (h2 : n ≤ 1000) : jt qk (pT k n) = true := by
  show (qk (pT k n) && (jt qk (cT k) && (jt qk (cT n) && true))) = true
  rw [qxf h, qxf h2]; rfl
/-- What is built: the pairs of the numbers, in their order. -/
def PX (l : List UInt8) (i : Nat) : List Tr := (List.range i).map fun j => pT ((l.getD j 0).toNat % 5) j
theorem PX_succ (l : List UInt8) (i : Nat) : PX l (i + 1) = PX l i ++ [pT ((l.getD i 0).toNat % 5) i] := by unfold PX; rw [List.range_succ, List.map_append]; rfl
theorem PX_len (l : List UInt8) (i : Nat) : (PX l i).length = i := by unfold PX; simp
theorem PX_mem {l : List UInt8} {i : Nat} {x : Tr} (h : x ∈ PX l i) : ∃ k n, x = pT k n ∧ k < 5 ∧ n < i := by
  obtain ⟨j, hj, rfl⟩ := List.mem_map.1 h
  exact ⟨_, j, rfl, Nat.mod_lt _ (by decide), List.mem_range.1 hj⟩
theorem zcj {xs : List Tr} (h : ∀ x ∈ xs, ∃ k n, x = pT k n) : ju xs = 3 * xs.length := by
  induction xs with
  | nil => rfl
  | cons x xs ih =>
    obtain ⟨k, n, rfl⟩ := h x (List.mem_cons_self ..)
    show vb (pT k n) + ju xs = _
    rw [ih fun y hy => h y (List.mem_cons_of_mem _ hy), show vb (pT k n) = 3 from rfl, List.length_cons]; omega
theorem okP {xs : List Tr} (h : ∀ x ∈ xs, ∃ k n, x = pT k n ∧ k < 5 ∧ n < 250) (hl : xs.length ≤ 250) : OkL xs := by
  refine ⟨List.all_eq_true.2 fun x hx => ?_, ?_, List.all_eq_true.2 fun x hx => ?_⟩
  · obtain ⟨k, n, rfl, -⟩ := h x hx; rfl
  · rw [zcj fun x hx => (h x hx).imp fun k h => h.imp fun n h => h.1]; omega
  · obtain ⟨k, n, rfl, h1, h2⟩ := h x hx; exact zci (by omega) (by omega)
theorem zda {xs : List Tr} (h : ∀ x ∈ xs, ∃ k n, x = pT k n ∧ k < 5 ∧ n < 250) : PairsC xs := fun x hx => by
  obtain ⟨k, n, rfl, h1, h2⟩ := h x hx
  exact ⟨rfl, cT k, [cT n], rfl, rfl, qlg (by omega)⟩
theorem zdb {xs : List Tr} (h : ∀ x ∈ xs, ∃ k n, x = pT k n) : Tr.bulks xs = 3 * xs.length := by
  induction xs with
  | nil => rfl
  | cons x xs ih =>
    obtain ⟨k, n, rfl⟩ := h x (List.mem_cons_self ..)
    show (pT k n).bulk + Tr.bulks xs = _
    rw [ih fun y hy => h y (List.mem_cons_of_mem _ hy), show (pT k n).bulk = 3 from rfl, List.length_cons]; omega
def ixT (x : Tr) : Nat := match x.ts with
  | [_, b] => b.n.toNat
  | _ => 0
theorem zag : Swo ltT := by
  constructor
  · intro x y h
    unfold ltT kb at *
    have := of_decide_eq_true h
    refine decide_eq_false ?_
    repeat' split at * <;> omega
  · intro x y z h1 h2
    unfold ltT kb at *
    have h3 := of_decide_eq_false h1
    have h4 := of_decide_eq_false h2
    refine decide_eq_false ?_
    repeat' split at * <;> omega
theorem PX_rise (l : List UInt8) : ∀ i, (PX l i).Pairwise fun x y => ixT x < ixT y
  | 0 => List.Pairwise.nil
  | i + 1 => by
    rw [PX_succ]
    refine List.pairwise_append.2 ⟨PX_rise l i, List.pairwise_singleton _ _, fun x hx y hy => ?_⟩
    obtain ⟨k, n, rfl, -, h⟩ := PX_mem hx
    rw [List.mem_singleton.1 hy]
    exact h
/-- Two xw of what is sorted. -/
theorem xw {l : List UInt8} {m i : Nat} {x y : Tr} (hx : (qz ltT (PX l m))[i]? = some x) (hy : (qz ltT (PX l m))[i + 1]? = some y) {k n k' n' : Nat} (ex : x = pT k n) (ey : y = pT k' n') : k < k' ∨ k = k' ∧ n < n' := by
  have h := um zag ixT (PX_rise l m)
  obtain ⟨h1, rfl⟩ := List.getElem?_eq_some_iff.1 hx
  obtain ⟨h2, rfl⟩ := List.getElem?_eq_some_iff.1 hy
  have h3 := List.pairwise_iff_getElem.1 h i (i + 1) h1 h2 (Nat.lt_succ_self i)
  rw [ex, ey] at h3
  rcases h3 with h3 | ⟨h3, h4⟩
  · left
    have h5 := of_decide_eq_true h3
    have h6 : kb (k : Int) (k' : Int) < 0 := h5
    unfold kb at h6
    repeat' split at h6 <;> omega
  · have h5 := of_decide_eq_false h3
    have h6 : ¬ kb (k' : Int) (k : Int) < 0 := h5
    have h7 : n < n' := h4
    unfold kb at h6
    repeat' split at h6 <;> omega
theorem zah {P : Program} {k : IntKind} {t : TypeId} {x y : Operand} {a b z : Int} (hb : b ≠ 0) (h : a.tmod b = z) : ∀ w, (do eqGuard .rem t x y (.int k a) (.int k b); binOp .rem t (.int k a) (.int k b) : Sem Value).run P w = .ok (.int k z) w := fun w => by simp [go_sem, h, hb]
theorem zai {gs : List (Nat × Nat × Nat)} {g k n : Nat} (h : ∀ q ∈ gs, q.2.1 ≤ 1000 ∧ q.2.2 ≤ 1000) (h1 : k ≤ 1000) (h2 : n ≤ 1000) : ∀ q ∈ (g, k, n) :: gs, q.2.1 ≤ 1000 ∧ q.2.2 ≤ 1000 := fun q hq => by
  rcases List.mem_cons.1 hq with rfl | hq
  · exact ⟨h1, h2⟩
  · exact h q hq
theorem PX_step {l : List UInt8} {i g kk : Nat} {ys : List Dt} (h : ys.map Dt.tr = PX l i) (hk : kk = (l.getD i 0).toNat % 5) : (ys ++ [jw g (chD kk) (chD i)]).map Dt.tr = PX l (i + 1) := by
  rw [List.map_append, h, PX_succ, ← hk, List.map_cons, qjf, qxd, qxd]; rfl
theorem zea {gs : List (Nat × Nat × Nat)} {g k n : Nat} {ys : List Dt} (h : ys = (gs.map mkP).reverse) : ys ++ [jw g (chD k) (chD n)] = (((g, k, n) :: gs).map mkP).reverse := by
  rw [h, List.map_cons, List.reverse_cons]; rfl
theorem PX_all {l : List UInt8} {i : Nat} (h : i ≤ 250) : ∀ x ∈ PX l i, ∃ k n, x = pT k n ∧ k < 5 ∧ n < 250 := fun x hx => by
  obtain ⟨k, n, h1, h2, h3⟩ := PX_mem hx; exact ⟨k, n, h1, h2, by omega⟩
theorem PX_bulk {l : List UInt8} {i : Nat} (h : i ≤ 250) : Tr.bulks (PX l i) ≤ 750 := by
  rw [zdb fun x hx => (PX_all h x hx).imp fun k h => h.imp fun n h => h.1, PX_len]; omega
theorem qga {t u v : Dt} {k n : Nat} (h : t.tr = pT k n) (hu : t.ts[0]? = some u) (hv : t.ts[1]? = some v) : u.d.n = (k : Int) ∧ v.d.n = (n : Int) := by
  cases t with
  | mk d ts =>
    rw [Dt.tr_mk] at h
    have h2 : ts.map Dt.tr = [cT k, cT n] := by unfold pT at h; injection h
    have nn : ∀ t : Dt, t.tr.n = t.d.n := fun t => by cases t; rw [Dt.tr_mk]; rfl
    have e0 := congrArg (fun l => l[0]?) h2
    have e1 := congrArg (fun l => l[1]?) h2
    simp only [List.getElem?_map] at e0 e1
    simp only [Dt.ts] at hu hv
    rw [hu] at e0
    rw [hv] at e1
    have f0 : u.tr = cT k := by simpa using e0
    have f1 : v.tr = cT n := by simpa using e1
    exact ⟨by rw [← nn, f0]; rfl, by rw [← nn, f1]; rfl⟩
/-- Of the items of what is sorted: the one at a place. -/
theorem qgb {l : List UInt8} {m j : Nat} {lv : List Dt} {t : Dt} (hm : m ≤ 250) (h : lv.map Dt.tr = qz ltT (PX l m)) (ht : lv[j]? = some t) : (qz ltT (PX l m))[j]? = some t.tr ∧ ∃ k n, t.tr = pT k n := by
  have h1 : (qz ltT (PX l m))[j]? = some t.tr := by rw [← h, List.getElem?_map, ht]; rfl
  obtain ⟨k, n, h2, -⟩ := PX_all hm _ ((jj _).mem_iff.1 (List.mem_of_getElem? h1))
  exact ⟨h1, k, n, h2⟩
end Go.Proofs.YtipikhcmieboaaaGreatDoor.G
namespace Go.Proofs.YtipikhcmieboaaaGreatDoor
open Go.RowKit
set_option linter.unusedVariables false
set_option linter.unusedSimpArgs false
set_option maxRecDepth 100000
end Go.Proofs.YtipikhcmieboaaaGreatDoor
namespace Go.Proofs.YtipikhcmieboaaaGreatDoor.G
open Go.RowKit
set_option linter.unusedVariables false
set_option linter.unusedSimpArgs false
/-! ### The same trees, by the document -/
set_option maxRecDepth 100000
open Go.Lib
theorem zaj {w : World} {so : Option Addr} {l : List UInt8} {i : Nat} (h : Rb w so l) (hi : i < l.length) : ∃ b off, so = some ⟨b, off, none⟩ ∧ b < w.heap.size ∧ ∀ j, j < l.length → w.cell? ⟨b, off + j, none⟩ = some (.int .u8 (((l.getD j 0).toNat : Nat) : Int)) :=
 h.pos (fun k => by rw [k] at hi; exact absurd hi (Nat.not_lt_zero _))
open Go.RowKit Go.Lib
section
variable {P : Program} {w0 w : World} {L : List Ck} {l : List (Nat × Value)} {dst : Option Tmp} {ty : TypeId} {pos : String} {after : Array Edge} {guard : Option (Nat × Bool)} {v : Value}
end
section
variable {P : Program} {w0 w : World} {L : List Ck} {l : List (Nat × Value)} {ops : List Oper} {Q : Exit → Act → World → Prop} {a : Act} {n : Nat} {rest : List Oper} {d : Nat} {dst : Option Tmp} {ty : TypeId} {pos : String} {after : Array Edge} {guard : Option (Nat × Bool)}
end
/-! ### Encode -/
section
variable {k n : Int} {q : Q6} {s : ByteArray} {mr ml : Nat}
end




theorem LiJ_is1_22 : Is1 Tryz.prog 22 := ⟨⟨_, Tryz.underlying22, rfl⟩, by kernel_rfl⟩
theorem LiJ_is1_3 : Is1 Tryz.prog 3 := ⟨⟨_, Tryz.underlying3, rfl⟩, by kernel_rfl⟩
theorem LiJ_fld_30_0 : FieldAt Tryz.prog 30 0 0 := ⟨_, _, Tryz.underlying30, rfl, rfl, by kernel_rfl⟩
theorem LiJ_fld_30_5 : FieldAt Tryz.prog 30 5 10 := ⟨_, _, Tryz.underlying30, rfl, rfl, by kernel_rfl⟩
theorem LiJ_isS_30 : IsS Tryz.prog 30 11 := ⟨⟨_, Tryz.underlying30⟩, by kernel_rfl⟩
theorem qte {w : World} (hT : Tabs8 w) : Calls Tryz.prog 15 #[] w fun e w' => e = .returned (.bool true) ∧ Below w.heap.size w w' := by
 have M : Mg w w ([]) := Mg.start w
 refine qp (l := []) Tryz.func15 rfl Tryz.ntmps15 rfl rfl ?_
 intro Q hret hnorm hP a A
 refine wsk fun K1 hK1 => wrl (sda A λa A↦?_)
 refine qa (hK1 _ _ (wsk fun K2 hK2 => wrl (sdo (v := .agg #[.int .i64 2, .int .i64 0, .bool false, .slice none 0 0, .slice none 0 0, .bool false, .slice none 0 0, .slice none 0 0, .string (⟨#[]⟩), .slice none 0 0, .slice none 0 0]) A (zp rfl (fun w => by kernel_rfl)) λa A↦?_)))
 refine sdo (v := .agg #[.int .i64 10, .int .i64 0, .bool false, .slice none 0 0, .slice none 0 0, .bool false, .slice none 0 0, .slice none 0 0, .string (⟨#[]⟩), .slice none 0 0, .slice none 0 0]) A (zp rfl (fun w => by kernel_rfl)) λa A↦?_
 refine ux (e := 30) (sz := 11) (m := 2) (vs := qb [xb 2, xb 10]) A M rfl rfl rfl (jc rfl (by kernel_rfl)) rfl rfl (.inl (by decide)) ?_
 intro g3 w4 M a A
 refine sct A (ef rfl rfl) (of_any (ts := [xb 2, xb 10]) (vw (M.has 0 rfl)).1 (qvf _) (by decide) (hT.below M.bel)) ?_
 rintro _ w6 ⟨x, rfl, ⟨hrx, -, htx⟩, hb5⟩
 have hbx := qzb [(xb 2).tr, (xb 10).tr]
 have hbx9 : Tr.bulks [(xb 2).tr, (xb 10).tr] = 2 := by rfl
 replace M := M.call hb5
 refine ⟨_, rfl, ?_⟩
 intro a A
 have hB1 := M.bel
 replace hT := hT.below M.bel
 replace M : Mg w6 w6 [] := Mg.start w6
 refine ja (vs := (qn.d.cells qn.ts.length)) (t := 30) A M rfl rfl rfl pg (zi (z := .agg (qn.d.cells qn.ts.length).toArray) (by kernel_rfl) rfl) (by decide) ?_
 intro g7 w8 M a A
 refine zm (us := (x.d.cells x.ts.length)) (L' := (.obj g7 (.cells (x.d.cells x.ts.length).toArray 30) :: [])) A M rfl rfl (qw rfl rfl rfl (by kernel_rfl) M 0 rfl rfl rfl) 0 rfl rfl rfl ?_
 intro w9 M
 refine qa (hK2 _ _ (wsk fun K10 hK10 => wrl (sdo A (ze M LiJ_isS_30 rfl 0 rfl (cs := (x.d.cells x.ts.length)) rfl rfl) λa A↦?_)))
 refine sct A (ef rfl rfl) (qlb (t := x) (Dt.keep M.bel _ hrx) (by have h9 : x.tr.bulk ≤ 6 := (by rw [htx]; show (ofS [(xb 2).tr, (xb 10).tr]).bulk ≤ 6; omega); omega) (hT.below M.bel)) ?_
 rintro _ w12 ⟨r, kr, rfl, ⟨hrr, -, htr⟩, hb11⟩
 replace M := M.call hb11
 refine ⟨_, rfl, ?_⟩
 intro a A
 have hB2 := hB1.trans (M.bel.mono hB1.size)
 replace hT := hT.below M.bel
 replace hrx := Dt.keep M.bel _ hrx
 have hHg7 := M.here 0 (cs := (x.d.cells x.ts.length)) rfl
 replace M : Mg w12 w12 [] := Mg.start w12
 refine sdm A λa A↦?_
 iterate 2 refine sdo A (zj (vs := [.agg (r.d.cells r.ts.length).toArray, .int .i64 kr]) rfl rfl) λa A↦?_
 refine ja (vs := (qn.d.cells qn.ts.length)) (t := 30) A M rfl rfl rfl pg (zi (z := .agg (qn.d.cells qn.ts.length).toArray) (by kernel_rfl) rfl) (by decide) ?_
 intro g13 w14 M a A
 refine zm (us := (r.d.cells r.ts.length)) (L' := (.obj g13 (.cells (r.d.cells r.ts.length).toArray 30) :: [])) A M rfl rfl (qw rfl rfl rfl (by kernel_rfl) M 0 rfl rfl rfl) 0 rfl rfl rfl ?_
 intro w15 M
 refine sda A λa A↦?_
 refine qa (hK10 _ _ (wsk fun K16 hK16 => ?_))
 have e9 : (r.tr, kr) = (za [(xb 10).tr, (xb 2).tr] nilT, 0) := htr.trans (by rw [htx]; exact qve)
 obtain ⟨f1, f2, f3⟩ := qac (congrArg Prod.fst e9)
 have f4 : kr = 0 := congrArg Prod.snd e9
 obtain ⟨r0, br0, or0, ir0, mr0, rr0_, lr0, Hr0⟩ := qgh hrr (i := 0) (by omega)
 have f5 : r0.d.k = 10 := by rw [← qug, f3 _ ir0]; rfl
 refine wrl (sdm A λa A↦?_)
 refine sdo (v := .bool true) A (qf rfl rfl (fun w => (ql w).trans (by rw [show ((kr == 0)) = true from (beq_iff_eq.2 f4)]))) λa A↦?_
 refine sdm A λa A↦?_
 refine sdo (v := .pointer (some ⟨g13, 0, none⟩)) A (qg LiJ_fld_30_0 rfl rfl) λa A↦?_
 refine sdo A (qx M LiJ_is1_3 rfl 0 rfl rfl) λa A↦?_
 refine sdo (v := .bool true) A (qf rfl rfl (fun w => (ql w).trans (by rw [show ((r.d.k == 8)) = true from (beq_iff_eq.2 f1)]))) λa A↦?_
 refine sdk (v := .bool true) A λa A↦?_
 refine sdm A λa A↦?_
 refine sdo (v := .pointer (some ⟨g13, 10, none⟩)) A (qg LiJ_fld_30_5 rfl rfl) λa A↦?_
 refine sdo A (qx M LiJ_is1_22 rfl 0 rfl rfl) λa A↦?_
 refine sdo A (zq Tryz.underlying22 rfl) λa A↦?_
 refine sdo (v := .bool true) A (qf rfl rfl (fun w => (ql w).trans (by rw [show ((((r.ts.length : Nat) : Int) == 2)) = true from (beq_iff_eq.2 (by omega))]))) λa A↦?_
 refine sdk (v := .bool true) A λa A↦?_
 refine sdm A λa A↦?_
 refine sdo (v := .pointer (some ⟨g13, 10, none⟩)) A (qg LiJ_fld_30_5 rfl rfl) λa A↦?_
 refine sdo A (qx M LiJ_is1_22 rfl 0 rfl rfl) λa A↦?_
 refine sdo (v := .pointer (some ⟨br0, or0 + 0 * 11, none⟩)) A (zg (k := 0) Tryz.underlying22 (by kernel_rfl) rfl rfl rfl lr0 (by omega)) λa A↦?_
 refine sdo (v := .pointer (some ⟨br0, or0 + 0 * 11, none⟩)) A (qg LiJ_fld_30_0 rfl rfl) λa A↦?_
 refine sdo A (jo (j := 0) M Hr0 LiJ_is1_3 rfl rfl rfl) λa A↦?_
 refine sdo (v := .bool true) A (qf rfl rfl (fun w => (ql w).trans (by rw [show ((r0.d.k == 10)) = true from (beq_iff_eq.2 f5)]))) λa A↦?_
 refine sdk (v := .bool true) A λa A↦?_
 refine sda A λa A↦?_
 refine qa (hK16 _ _ (wp_ret (hret _ _ (en1 A rfl (qi rfl) ?_))))
 exact ⟨rfl, hB2.trans (M.bel.mono hB2.size)⟩
theorem LiO_isS_30 : IsS Tryz.prog 30 11 := ⟨⟨_, Tryz.underlying30⟩, by kernel_rfl⟩
theorem qtf {w : World} {t : Dt} (ht : t.rd w) (hb : t.tr.bulk ≤ 300000000) (hT : Tabs8 w) : Calls Tryz.prog 7 #[.agg (t.d.cells t.ts.length).toArray] w fun e w' => ∃ so' ca' ys k, e = .returned (.tuple #[.slice so' (ys : List Dt).length ca', .int .i64 k]) ∧ ((ys.map Dt.tr, k) = qdf t.tr ∧ Rt w' so' ys ∧ (∀ x ∈ ys, x.rd w')) ∧ Below w.heap.size w w' := by
 have M : Mg w w ([]) := Mg.start w
 refine qp (l := [(0, .agg (t.d.cells t.ts.length).toArray)]) Tryz.func7 rfl Tryz.ntmps7 rfl rfl ?_
 intro Q hret hnorm hP a A
 refine wsk fun K1 hK1 => wrl (ja (vs := (t.d.cells t.ts.length)) (t := 30) A M rfl rfl rfl pg (zd rfl rfl) (by decide) ?_)
 intro g2 w3 M a A
 iterate 2 refine sda A λa A↦?_
 refine qa (hK1 _ _ (wsk fun K4 hK4 => wrl (sdo A (ze M LiO_isS_30 rfl 0 rfl (cs := (t.d.cells t.ts.length)) rfl rfl) λa A↦?_)))
 rcases tf (qt qk t.tr) with hb5 | hb5
 ·
  rcases tf ((jd t.tr).isSome) with hb7 | hb7
  ·
   refine sct A (ef rfl rfl) (yw M.bel ht (by omega) (hT.below M.bel) hb5 hb7) ?_
   rintro _ w9 ⟨so7, ca7, ys, rfl, ⟨hy1, hy2, hy3⟩, hM7⟩
   have hyb := ya hy1
   replace M : Mg w w9 (.row 30 11 (.slice so7 ys.length ca7) ys.length (qb ys) :: .obj g2 (.cells (t.d.cells t.ts.length).toArray 30) :: []) := (M.both hM7 (zr (by simp) (zl zt)) (zr (by simp) (zl zt)))
   refine ⟨_, rfl, ?_⟩
   intro a A
   refine sdm A λa A↦?_
   iterate 2 refine sdo A (zj (vs := [.slice so7 ys.length ca7, .int .i64 0]) rfl rfl) λa A↦?_
   iterate 2 refine sda A λa A↦?_
   refine qa (hK4 _ _ (wsk fun K10 hK10 => wsk fun K11 hK11 => wrl (sdm A λa A↦?_)))
   refine sdo (v := .bool false) A (qf rfl rfl (fun w => by kernel_rfl)) λa A↦?_
   refine qa (hK11 _ _ (wp_cond_false (A.ev rfl) ?_))
   refine wp_skip (hK10 _ _ (wsk fun K12 hK12 => wrl (sdm A λa A↦?_)))
   refine sct A (ef rfl rfl) (qfg (fun t _ => yq t) (vw (M.has 0 rfl)).1 (fun t ht => Dt.keep M.bel _ (hy2 t ht)) (by omega)) ?_
   rintro _ w13 ⟨v8, us, rfl, ⟨hu1, hu2⟩, hM8⟩
   obtain ⟨so8, ca8, rfl⟩ := kz (hM8.has 0 rfl)
   have hR8 := (vw (hM8.has 0 rfl)).1
   replace M := M.call hM8.bel
   refine ⟨_, rfl, ?_⟩
   intro a A
   iterate 2 refine sda A λa A↦?_
   refine qa (hK12 _ _ (wp_ret (hret _ _ (en2 A rfl (qi rfl) (qi rfl) ?_))))
   exact ⟨so8, ca8, us, 0, rfl, ⟨by rw [qdg hb5 hy1, hu1], hR8, fun x hx => (hu2 x hx).1⟩, M.bel⟩
  ·
   refine gcl A M (ef rfl rfl) (qeb M.bel ht (by omega) (hT.below M.bel) hb5 hb7) fun w15 hb14 M a A => ?_
   refine sdm A λa A↦?_
   iterate 2 refine sdo A (zj (vs := [.slice none 0 0, .int .i64 10]) rfl rfl) λa A↦?_
   iterate 2 refine sda A λa A↦?_
   refine qa (hK4 _ _ (wsk fun K16 hK16 => wsk fun K17 hK17 => wrl (sdm A λa A↦?_)))
   refine sdo (v := .bool true) A (qf rfl rfl (fun w => by kernel_rfl)) λa A↦?_
   refine qa (hK17 _ _ (wp_cond_true (A.ev rfl) ?_))
   refine wsk fun K18 hK18 => wrl (sdm A λa A↦?_)
   iterate 2 refine sda A λa A↦?_
   refine qa (hK18 _ _ (wp_ret (hret _ _ (en2 A rfl (qi rfl) (qi rfl) ?_))))
   exact ⟨none, 0, [], 10, rfl, ⟨(qne hb5 (qqi hb7)).symm, (fun h => absurd rfl h), (fun x h => by cases h)⟩, M.bel⟩
 ·
  refine gcl A M (ef rfl rfl) (qfh M.bel ht (by omega) (hT.below M.bel) hb5) fun w20 hb19 M a A => ?_
  refine sdm A λa A↦?_
  iterate 2 refine sdo A (zj (vs := [.slice none 0 0, .int .i64 2]) rfl rfl) λa A↦?_
  iterate 2 refine sda A λa A↦?_
  refine qa (hK4 _ _ (wsk fun K21 hK21 => wsk fun K22 hK22 => wrl (sdm A λa A↦?_)))
  refine sdo (v := .bool true) A (qf rfl rfl (fun w => by kernel_rfl)) λa A↦?_
  refine qa (hK22 _ _ (wp_cond_true (A.ev rfl) ?_))
  refine wsk fun K23 hK23 => wrl (sdm A λa A↦?_)
  iterate 2 refine sda A λa A↦?_
  refine qa (hK23 _ _ (wp_ret (hret _ _ (en2 A rfl (qi rfl) (qi rfl) ?_))))
  exact ⟨none, 0, [], 2, rfl, ⟨(qsc hb5).symm, (fun h => absurd rfl h), (fun x h => by cases h)⟩, M.bel⟩
theorem LiY_is1_22 : Is1 Tryz.prog 22 := ⟨⟨_, Tryz.underlying22, rfl⟩, by kernel_rfl⟩
theorem LiY_is1_3 : Is1 Tryz.prog 3 := ⟨⟨_, Tryz.underlying3, rfl⟩, by kernel_rfl⟩
theorem LiY_is1_5 : Is1 Tryz.prog 5 := ⟨⟨_, Tryz.underlying5, rfl⟩, by kernel_rfl⟩
theorem LiY_fld_30_0 : FieldAt Tryz.prog 30 0 0 := ⟨_, _, Tryz.underlying30, rfl, rfl, by kernel_rfl⟩
theorem LiY_fld_30_1 : FieldAt Tryz.prog 30 1 1 := ⟨_, _, Tryz.underlying30, rfl, rfl, by kernel_rfl⟩
theorem LiY_fld_30_5 : FieldAt Tryz.prog 30 5 10 := ⟨_, _, Tryz.underlying30, rfl, rfl, by kernel_rfl⟩
theorem LiY_isS_30 : IsS Tryz.prog 30 11 := ⟨⟨_, Tryz.underlying30⟩, by kernel_rfl⟩
set_option maxHeartbeats 1000000 in
theorem qbb {w : World} {sk : Option Addr} {ck : Nat} {l : List UInt8} (hb : Rb w sk l) (hl : l.length ≤ 140737488351232) (hT : Tabs8 w) : Calls Tryz.prog 6 #[.slice sk l.length ck] w fun e w' => e = .returned (.bool true) ∧ Below w.heap.size w w' := by
 have M : Mg w w ([]) := Mg.start w
 refine qp (l := [(0, .slice sk l.length ck)]) Tryz.func6 rfl Tryz.ntmps6 rfl rfl ?_
 intro Q hret hnorm hP a A
 refine wsk fun K1 hK1 => wrl (sda A λa A↦?_)
 refine qa (hK1 _ _ (wsk fun K2 hK2 => wrl (ux (e := 30) (sz := 11) (m := 0) (vs := qb []) A M rfl rfl rfl (jc rfl (by kernel_rfl)) rfl rfl (.inl (by decide)) ?_)))
 intro g3 w4 M a A
 refine sda A λa A↦?_
 refine qa (hK2 _ _ (wsk fun K5 hK5 => ?_))
 have hJ6 : ∀ a w1, (∃ (i : Nat) (ys : List Dt) (gs : List (Nat × Nat × Nat)) (so_ : Option Addr) (ca_ : Nat), (i ≤ l.length ∧ i ≤ 250 ∧ ys = (gs.map mkP).reverse ∧ (∀ q ∈ gs, q.2.1 ≤ 1000 ∧ q.2.2 ≤ 1000) ∧ ys.map Dt.tr = PX l i) ∧ Sl a 130 [(2, .bool false), (3, .slice so_ ys.length ca_), (12, .slice (some ⟨g3, 0, none⟩) 0 0)] ∧ Mg w w1 (.row 30 11 (.slice so_ ys.length ca_) ys.length (qb ys) :: (pcs gs))) → K5 a w1 := by
  clear A M
  rintro a w7 ⟨i, ys, gs, so_, ca_, hf8, A, M⟩
  obtain ⟨hi0, hi1, hyg, hgs, hyt⟩ := hf8
  refine hK5 _ _ (wsk fun K9 hK9 => ?_)
  have hB1 := M.bel
  have hyl : ys.length = i := by have := congrArg List.length hyt; rwa [List.length_map, PX_len] at this
  have hRi := (vw (M.has 0 rfl)).1
  have hDi : ∀ t ∈ ys, t.rd w7 := fun t ht => by
   rw [hyg] at ht
   obtain ⟨q, hq, rfl⟩ := List.mem_map.1 (List.mem_reverse.1 ht)
   exact zch (L := [_]) M hgs q hq
  replace hT := hT.below M.bel
  have hXm := PX_all (l := l) hi1
  have hXo := okP hXm (by rw [PX_len]; omega)
  have hXb := PX_bulk (l := l) hi1
  have hnb : nilT.bulk = 1 := rfl
  replace M : Mg w7 w7 [] := Mg.start w7
  refine wrl (sdm A λa A↦?_)
  refine sct A (ef rfl rfl) (of_any (hRi.below M.bel) (fun t ht => Dt.keep M.bel _ (hDi t ht)) (by rw [hyt]; omega) (hT.below M.bel)) ?_
  rintro _ w11 ⟨p, rfl, ⟨hrp, -, htp⟩, hb10⟩
  have hpe : p.tr = za (PX l i) nilT := by rw [htp, hyt, qpi hXo]
  replace M := M.call hb10
  refine ⟨_, rfl, ?_⟩
  intro a A
  have hB2 := hB1.trans (M.bel.mono hB1.size)
  replace hT := hT.below M.bel
  replace hRi := hRi.below M.bel
  replace hDi := fun t ht => Dt.keep M.bel _ (hDi t ht)
  replace M : Mg w11 w11 [] := Mg.start w11
  refine sct A (ef rfl rfl) (qlf (t := p) (Dt.keep M.bel _ hrp) (by rw [hpe, xv, PX_len]; omega) (hT.below M.bel) (by rw [hpe]; exact (qbh _).2 hXo) (by rw [hpe]; exact vt _) (zda hXm)) ?_
  rintro _ w13 ⟨s, ks, rfl, ⟨hrs, -, hts⟩, hb12⟩
  have hse : s.tr = za (qz ltT (PX l i)) nilT := congrArg Prod.fst hts
  have hSo : OkL (qz ltT (PX l i)) := okP (fun x hx => hXm x ((jj _).mem_iff.1 hx)) (by rw [jq, PX_len]; omega)
  replace M := M.call hb12
  refine ⟨_, rfl, ?_⟩
  intro a A
  have hB3 := hB2.trans (M.bel.mono hB2.size)
  replace hT := hT.below M.bel
  replace hRi := hRi.below M.bel
  replace hDi := fun t ht => Dt.keep M.bel _ (hDi t ht)
  replace hrp := Dt.keep M.bel _ hrp
  replace M : Mg w13 w13 [] := Mg.start w13
  refine sdm A λa A↦?_
  iterate 2 refine sdo A (zj (vs := [.agg (s.d.cells s.ts.length).toArray, .int .i64 ks]) rfl rfl) λa A↦?_
  refine ja (vs := (qn.d.cells qn.ts.length)) (t := 30) A M rfl rfl rfl pg (zi (z := .agg (qn.d.cells qn.ts.length).toArray) (by kernel_rfl) rfl) (by decide) ?_
  intro g14 w15 M a A
  refine zm (us := (s.d.cells s.ts.length)) (L' := (.obj g14 (.cells (s.d.cells s.ts.length).toArray 30) :: [])) A M rfl rfl (qw rfl rfl rfl (by kernel_rfl) M 0 rfl rfl rfl) 0 rfl rfl rfl ?_
  intro w16 M
  refine sda A λa A↦?_
  refine qa (hK9 _ _ (wsk fun K17 hK17 => wrl (sdo A (ze M LiY_isS_30 rfl 0 rfl (cs := (s.d.cells s.ts.length)) rfl rfl) λa A↦?_)))
  refine sct A (ef rfl rfl) (qtf (t := s) (Dt.keep M.bel _ hrs) (by rw [hse, xv, qed (jj _), jq, PX_len]; omega) (hT.below M.bel)) ?_
  rintro _ w19 ⟨sv, cv, lv, kv, rfl, ⟨htv, hRv, hDv⟩, hb18⟩
  have hvp : (lv.map Dt.tr, kv) = (qz ltT (PX l i), 0) := by rw [htv, qdg (by rw [hse]; exact (qbh _).2 hSo) (by rw [hse]; exact vt _)]
  have hve : lv.map Dt.tr = qz ltT (PX l i) := congrArg Prod.fst hvp
  have hvk : kv = 0 := congrArg Prod.snd hvp
  have hvl : lv.length = i := by have := congrArg List.length hve; rwa [List.length_map, jq, PX_len] at this
  replace M := M.call hb18
  refine ⟨_, rfl, ?_⟩
  intro a A
  have hB4 := hB3.trans (M.bel.mono hB3.size)
  replace hT := hT.below M.bel
  replace hRi := hRi.below M.bel
  replace hDi := fun t ht => Dt.keep M.bel _ (hDi t ht)
  replace hrp := Dt.keep M.bel _ hrp
  replace hrs := Dt.keep M.bel _ hrs
  have hHg14 := M.here 0 (cs := (s.d.cells s.ts.length)) rfl
  replace M : Mg w19 w19 [] := Mg.start w19
  refine sdm A λa A↦?_
  iterate 2 refine sdo A (zj (vs := [.slice sv lv.length cv, .int .i64 kv]) rfl rfl) λa A↦?_
  iterate 2 refine sda A λa A↦?_
  refine qa (hK17 _ _ (wsk fun K20 hK20 => wsk fun K21 hK21 => wrl (sct A (ef rfl rfl) (qte (hT.below M.bel)) ?_)))
  rintro _ w23 ⟨rfl, hb22⟩
  replace M := M.call hb22
  refine ⟨_, rfl, ?_⟩
  intro a A
  refine sdo (v := .bool false) A (zv rfl jg) λa A↦?_
  iterate 2 refine sdm A λa A↦?_
  refine sdo (v := .bool false) A (qf rfl rfl (fun w => (jv w).trans (by rw [show ((ks != 0)) = false from (bne_eq_false_iff_eq.2 (congrArg Prod.snd hts))]))) λa A↦?_
  refine sdk (v := .bool false) A λa A↦?_
  iterate 2 refine sdm A λa A↦?_
  refine sdo (v := .bool false) A (qf rfl rfl (fun w => (jv w).trans (by rw [show ((kv != 0)) = false from (bne_eq_false_iff_eq.2 hvk)]))) λa A↦?_
  refine sdk (v := .bool false) A λa A↦?_
  iterate 2 refine sdm A λa A↦?_
  refine sdo A (zq Tryz.underlying22 rfl) λa A↦?_
  refine sdm A λa A↦?_
  refine sdo A (zq Tryz.underlying22 rfl) λa A↦?_
  refine sdo (v := .bool false) A (qf rfl rfl (fun w => (jv w).trans (by rw [show ((((lv.length : Nat) : Int) != ((ys.length : Nat) : Int))) = false from (bne_eq_false_iff_eq.2 (by omega))]))) λa A↦?_
  refine sdk (v := .bool false) A λa A↦?_
  refine qa (hK21 _ _ (wp_cond_false (A.ev rfl) ?_))
  refine wp_skip (hK20 _ _ (wsk fun K24 hK24 => wsk fun K25 hK25 => wrl (sda A λa A↦?_)))
  refine qa (hK25 _ _ (wp_block (zk (fun m_ a w1 => ∃ (j : Nat), m_ = 1 + (lv.length - j) ∧ (j ≤ lv.length) ∧ Sl a 130 [(3, .slice so_ ys.length ca_), (5, .pointer (some ⟨g14, 0, none⟩)), (6, .int .i64 ks), (7, .slice sv lv.length cv), (8, .int .i64 kv), (9, .int .i64 (((j : Nat) : Int))), (12, .slice (some ⟨g3, 0, none⟩) 0 0), (37, .tuple #[.agg (s.d.cells s.ts.length).toArray, .int .i64 ks]), (38, .slice so_ ys.length ca_), (39, .agg (p.d.cells p.ts.length).toArray), (40, .tuple #[.agg (s.d.cells s.ts.length).toArray, .int .i64 ks]), (41, .agg (s.d.cells s.ts.length).toArray), (42, .int .i64 ks), (43, .tuple #[.slice sv lv.length cv, .int .i64 kv]), (44, .agg (s.d.cells s.ts.length).toArray), (45, .tuple #[.slice sv lv.length cv, .int .i64 kv]), (46, .slice sv lv.length cv), (47, .int .i64 kv), (48, .bool true), (49, .bool false), (50, .bool false), (51, .int .i64 ks), (52, .bool false), (53, .bool false), (54, .bool false), (55, .int .i64 kv), (56, .bool false), (57, .bool false), (58, .bool false), (59, .slice sv lv.length cv), (60, .int .i64 (((lv.length : Nat) : Int))), (61, .slice so_ ys.length ca_), (62, .int .i64 (((ys.length : Nat) : Int))), (63, .bool false), (64, .bool false)] ∧ Mg w19 w1 ([])) _ ⟨0, rfl, (Nat.zero_le _), A.keep _ (by repeat' constructor), M⟩ ?_)))
  clear M A
  rintro m_ a w26 ⟨j, rfl, hinv28, A, M⟩ K27 hK27
  have hj0 := hinv28
  refine wsk fun K29 hK29 => wsk fun K30 hK30 => wrl ?_
  iterate 2 refine sdm A λa A↦?_
  refine sdo A (zq Tryz.underlying22 rfl) λa A↦?_
  rcases tf (decide (((j : Nat) : Int) < ((lv.length : Nat) : Int))) with hb31 | hb31
  ·
   have hb31' := of_decide_eq_true hb31
   refine sdc A qm hb31 λa A↦?_
   refine qa (hK30 _ _ (wp_cond_true (A.ev rfl) ?_))
   refine wp_skip (hK29 _ _ (wsk fun K32 hK32 => wp_block (wsk fun K33 hK33 => wsk fun K34 hK34 => ?_)))
   obtain ⟨t1, bt1, ot1, it1, mt1, rt1_, lt1, Ht1⟩ := qyi hRv hDv (i := j) (by omega)
   obtain ⟨hs1, k1, n1, hp1⟩ := qgb hi1 hve it1
   obtain ⟨f1, f2, -⟩ := qac hp1
   refine wrl ?_
   iterate 2 refine sdm A λa A↦?_
   refine sdo (v := .pointer (some ⟨bt1, ot1 + j * 11, none⟩)) A (zg (k := j) Tryz.underlying22 (by kernel_rfl) rfl rfl rfl lt1 (by omega)) λa A↦?_
   refine sdo (v := .pointer (some ⟨bt1, ot1 + j * 11, none⟩)) A (qg LiY_fld_30_0 rfl rfl) λa A↦?_
   refine sdo A (jo (j := 0) M Ht1 LiY_is1_3 rfl rfl rfl) λa A↦?_
   refine sdo (v := .bool false) A (qf rfl rfl (fun w => (jv w).trans (by rw [show ((t1.d.k != 8)) = false from (bne_eq_false_iff_eq.2 f1)]))) λa A↦?_
   iterate 3 refine sdm A λa A↦?_
   refine sdo (v := .pointer (some ⟨bt1, ot1 + j * 11, none⟩)) A (zg (k := j) Tryz.underlying22 (by kernel_rfl) rfl rfl rfl lt1 (by omega)) λa A↦?_
   refine sdo (v := .pointer (some ⟨bt1, ot1 + j * 11 + 10, none⟩)) A (qg LiY_fld_30_5 rfl rfl) λa A↦?_
   refine sdo A (jo (j := 10) M Ht1 LiY_is1_22 rfl rfl rfl) λa A↦?_
   refine sdo A (zq Tryz.underlying22 rfl) λa A↦?_
   refine sdo (v := .bool false) A (qf rfl rfl (fun w => (jv w).trans (by rw [show ((((t1.ts.length : Nat) : Int) != 2)) = false from (bne_eq_false_iff_eq.2 (by omega))]))) λa A↦?_
   refine sdk (v := .bool false) A λa A↦?_
   refine qa (hK34 _ _ (wp_cond_false (A.ev rfl) ?_))
   refine wp_skip (hK33 _ _ (wsk fun K35 hK35 => wsk fun K36 hK36 => wrl (sdm A λa A↦?_)))
   rcases tf ((((j : Nat) : Int) == 0)) with hb37 | hb37
   ·
    have hb37' := eq_of_beq hb37
    refine sdc A ql hb37 λa A↦?_
    refine qa (hK36 _ _ (wp_cond_true (A.ev rfl) ?_))
    refine wp_exit (hK32 _ _ (wrl (sdm A λa A↦?_)))
    refine sdo (v := .int .i64 (((j + 1 : Nat) : Int))) A (qf rfl rfl (fun w => (xl (ku (by omega) (by omega)) w).trans (by rw [show (((j : Nat) : Int) + 1 : Int) = ((j + 1 : Nat) : Int) from by omega]))) λa A↦?_
    refine sda A λa A↦?_
    refine qa ?_
    refine hK27 _ _ _ (by omega) ⟨j + 1, rfl, (by omega), A.keep _ (by repeat' constructor), M⟩
   ·
    have hb37' := ne_of_beq_false hb37
    refine sdc A ql hb37 λa A↦?_
    refine qa (hK36 _ _ (wp_cond_false (A.ev rfl) ?_))
    refine wp_skip (hK35 _ _ (wsk fun K38 hK38 => ?_))
    obtain ⟨t3, bt3, ot3, it3, mt3, rt3_, lt3, Ht3⟩ := qyi hRv hDv (i := (j - 1)) (by omega)
    obtain ⟨hs3, k3, n3, hp3⟩ := qgb hi1 hve it3
    obtain ⟨f3, f4, -⟩ := qac hp3
    have hnn := xw (i := j - 1) hs3 (by rw [show j - 1 + 1 = j by omega]; exact hs1) hp3 hp1
    refine js (S := fun w1 => Mg w19 w1 ([])) (by kernel_rfl) ?_
    replace M := M.drew
    refine qe A 0 rfl rfl rfl rfl hP (M.sub (List.nil_sublist _)) (fun w1 M => qh rfl) λa A↦?_
    refine qe A 1 rfl rfl rfl rfl hP (M.sub (List.nil_sublist _)) (fun w1 M => qh rfl) λa A↦?_
    refine qe (v := .int .i64 (((j - 1 : Nat) : Int))) A 2 rfl rfl rfl rfl hP (M.sub (List.nil_sublist _)) (fun w1 M => qf rfl rfl (ar_sub ((in_i64 (by omega) (by omega)).trans (by omega)))) λa A↦?_
    refine qe (v := .pointer (some ⟨bt3, ot3 + (j - 1) * 11, none⟩)) A 3 rfl rfl rfl rfl hP (M.sub (List.nil_sublist _)) (fun w1 M => zg (k := (j - 1)) Tryz.underlying22 (by kernel_rfl) rfl rfl rfl lt3 (by omega)) λa A↦?_
    refine qe (v := .pointer (some ⟨bt3, ot3 + (j - 1) * 11 + 10, none⟩)) A 4 rfl rfl rfl rfl hP (M.sub (List.nil_sublist _)) (fun w1 M => qg LiY_fld_30_5 rfl rfl) λa A↦?_
    refine qe A 5 rfl rfl rfl rfl hP (M.sub (List.nil_sublist _)) (fun w1 M => jo (j := 10) M Ht3 LiY_is1_22 rfl rfl rfl) λa A↦?_
    refine qe A 6 rfl rfl rfl rfl hP (M.sub (List.nil_sublist _)) (fun w1 M => qh rfl) λa A↦?_
    refine qe A 7 rfl rfl rfl rfl hP (M.sub (List.nil_sublist _)) (fun w1 M => qh rfl) λa A↦?_
    refine qe (v := .pointer (some ⟨bt1, ot1 + j * 11, none⟩)) A 8 rfl rfl rfl rfl hP (M.sub (List.nil_sublist _)) (fun w1 M => zg (k := j) Tryz.underlying22 (by kernel_rfl) rfl rfl rfl lt1 (by omega)) λa A↦?_
    refine qe (v := .pointer (some ⟨bt1, ot1 + j * 11 + 10, none⟩)) A 9 rfl rfl rfl rfl hP (M.sub (List.nil_sublist _)) (fun w1 M => qg LiY_fld_30_5 rfl rfl) λa A↦?_
    refine qe A 10 rfl rfl rfl rfl hP (M.sub (List.nil_sublist _)) (fun w1 M => jo (j := 10) M Ht1 LiY_is1_22 rfl rfl rfl) λa A↦?_
    refine qe A 11 rfl rfl rfl rfl hP (M.sub (List.nil_sublist _)) (fun w1 M => ji rfl) λa A↦?_
    refine qe A 12 rfl rfl rfl rfl hP (M.sub (List.nil_sublist _)) (fun w1 M => ji rfl) λa A↦?_
    refine zu (by kernel_rfl) ?_
    refine hK38 _ _ (wsk fun K39 hK39 => ?_)
    obtain ⟨u0, bu0, ou0, iu0, mu0, ru0_, lu0, Hu0⟩ := qgh rt3_ (i := 0) (by omega)
    obtain ⟨u1, bu1, ou1, iu1, mu1, ru1_, lu1, Hu1⟩ := qgh rt3_ (i := 1) (by omega)
    obtain ⟨v0, bv0, ov0, iv0, mv0, rv0_, lv0, Hv0⟩ := qgh rt1_ (i := 0) (by omega)
    obtain ⟨v1, bv1, ov1, iv1, mv1, rv1_, lv1, Hv1⟩ := qgh rt1_ (i := 1) (by omega)
    obtain ⟨m1, m2⟩ := qga hp3 iu0 iu1
    obtain ⟨m3, m4⟩ := qga hp1 iv0 iv1
    refine js (S := fun w1 => Mg w19 w1 ([])) (by kernel_rfl) ?_
    replace M := M.drew
    refine qe A 0 rfl rfl rfl rfl hP (M.sub (List.nil_sublist _)) (fun w1 M => qh rfl) λa A↦?_
    refine qe (v := .pointer (some ⟨bu0, ou0 + 0 * 11, none⟩)) A 1 rfl rfl rfl rfl hP (M.sub (List.nil_sublist _)) (fun w1 M => zg (k := 0) Tryz.underlying22 (by kernel_rfl) rfl rfl rfl lu0 (by omega)) λa A↦?_
    refine qe (v := .pointer (some ⟨bu0, ou0 + 0 * 11 + 1, none⟩)) A 2 rfl rfl rfl rfl hP (M.sub (List.nil_sublist _)) (fun w1 M => qg LiY_fld_30_1 rfl rfl) λa A↦?_
    refine qe A 3 rfl rfl rfl rfl hP (M.sub (List.nil_sublist _)) (fun w1 M => jo (j := 1) M Hu0 LiY_is1_3 rfl rfl rfl) λa A↦?_
    refine qe A 4 rfl rfl rfl rfl hP (M.sub (List.nil_sublist _)) (fun w1 M => qh rfl) λa A↦?_
    refine qe (v := .pointer (some ⟨bv0, ov0 + 0 * 11, none⟩)) A 5 rfl rfl rfl rfl hP (M.sub (List.nil_sublist _)) (fun w1 M => zg (k := 0) Tryz.underlying22 (by kernel_rfl) rfl rfl rfl lv0 (by omega)) λa A↦?_
    refine qe (v := .pointer (some ⟨bv0, ov0 + 0 * 11 + 1, none⟩)) A 6 rfl rfl rfl rfl hP (M.sub (List.nil_sublist _)) (fun w1 M => qg LiY_fld_30_1 rfl rfl) λa A↦?_
    refine qe A 7 rfl rfl rfl rfl hP (M.sub (List.nil_sublist _)) (fun w1 M => jo (j := 1) M Hv0 LiY_is1_3 rfl rfl rfl) λa A↦?_
    refine qe (v := .bool false) A 8 rfl rfl rfl rfl hP (M.sub (List.nil_sublist _)) (fun w1 M => qf rfl rfl (fun w => (jn w).trans (by rw [show (decide (v0.d.n < u0.d.n)) = false from (decide_eq_false (by omega))]))) λa A↦?_
    refine qe A 9 rfl rfl rfl rfl hP (M.sub (List.nil_sublist _)) (fun w1 M => qh rfl) λa A↦?_
    refine qe A 10 rfl rfl rfl rfl hP (M.sub (List.nil_sublist _)) (fun w1 M => qh rfl) λa A↦?_
    refine qe (v := .pointer (some ⟨bu0, ou0 + 0 * 11, none⟩)) A 11 rfl rfl rfl rfl hP (M.sub (List.nil_sublist _)) (fun w1 M => zg (k := 0) Tryz.underlying22 (by kernel_rfl) rfl rfl rfl lu0 (by omega)) λa A↦?_
    refine qe (v := .pointer (some ⟨bu0, ou0 + 0 * 11 + 1, none⟩)) A 12 rfl rfl rfl rfl hP (M.sub (List.nil_sublist _)) (fun w1 M => qg LiY_fld_30_1 rfl rfl) λa A↦?_
    refine qe A 13 rfl rfl rfl rfl hP (M.sub (List.nil_sublist _)) (fun w1 M => jo (j := 1) M Hu0 LiY_is1_3 rfl rfl rfl) λa A↦?_
    refine qe A 14 rfl rfl rfl rfl hP (M.sub (List.nil_sublist _)) (fun w1 M => qh rfl) λa A↦?_
    refine qe (v := .pointer (some ⟨bv0, ov0 + 0 * 11, none⟩)) A 15 rfl rfl rfl rfl hP (M.sub (List.nil_sublist _)) (fun w1 M => zg (k := 0) Tryz.underlying22 (by kernel_rfl) rfl rfl rfl lv0 (by omega)) λa A↦?_
    refine qe (v := .pointer (some ⟨bv0, ov0 + 0 * 11 + 1, none⟩)) A 16 rfl rfl rfl rfl hP (M.sub (List.nil_sublist _)) (fun w1 M => qg LiY_fld_30_1 rfl rfl) λa A↦?_
    refine qe A 17 rfl rfl rfl rfl hP (M.sub (List.nil_sublist _)) (fun w1 M => jo (j := 1) M Hv0 LiY_is1_3 rfl rfl rfl) λa A↦?_
    rcases tf ((u0.d.n == v0.d.n)) with hb40 | hb40
    ·
     have hb40' := eq_of_beq hb40
     refine qe (v := .bool true) A 18 rfl rfl rfl rfl hP (M.sub (List.nil_sublist _)) (fun w1 M => qf rfl rfl (fun w => (ql w).trans (by rw [hb40]))) λa A↦?_
     refine qe A 19 rfl rfl rfl rfl hP (M.sub (List.nil_sublist _)) (fun w1 M => qh rfl) λa A↦?_
     refine qe A 20 rfl rfl rfl rfl hP (M.sub (List.nil_sublist _)) (fun w1 M => qh rfl) λa A↦?_
     refine qe (v := .pointer (some ⟨bu1, ou1 + 1 * 11, none⟩)) A 21 rfl rfl rfl rfl hP (M.sub (List.nil_sublist _)) (fun w1 M => zg (k := 1) Tryz.underlying22 (by kernel_rfl) rfl rfl rfl lu1 (by omega)) λa A↦?_
     refine qe (v := .pointer (some ⟨bu1, ou1 + 1 * 11 + 1, none⟩)) A 22 rfl rfl rfl rfl hP (M.sub (List.nil_sublist _)) (fun w1 M => qg LiY_fld_30_1 rfl rfl) λa A↦?_
     refine qe A 23 rfl rfl rfl rfl hP (M.sub (List.nil_sublist _)) (fun w1 M => jo (j := 1) M Hu1 LiY_is1_3 rfl rfl rfl) λa A↦?_
     refine qe A 24 rfl rfl rfl rfl hP (M.sub (List.nil_sublist _)) (fun w1 M => qh rfl) λa A↦?_
     refine qe (v := .pointer (some ⟨bv1, ov1 + 1 * 11, none⟩)) A 25 rfl rfl rfl rfl hP (M.sub (List.nil_sublist _)) (fun w1 M => zg (k := 1) Tryz.underlying22 (by kernel_rfl) rfl rfl rfl lv1 (by omega)) λa A↦?_
     refine qe (v := .pointer (some ⟨bv1, ov1 + 1 * 11 + 1, none⟩)) A 26 rfl rfl rfl rfl hP (M.sub (List.nil_sublist _)) (fun w1 M => qg LiY_fld_30_1 rfl rfl) λa A↦?_
     refine qe A 27 rfl rfl rfl rfl hP (M.sub (List.nil_sublist _)) (fun w1 M => jo (j := 1) M Hv1 LiY_is1_3 rfl rfl rfl) λa A↦?_
     refine qe (v := .bool false) A 28 rfl rfl rfl rfl hP (M.sub (List.nil_sublist _)) (fun w1 M => qf rfl rfl (fun w => (km w).trans (by rw [show (decide (v1.d.n ≤ u1.d.n)) = false from (decide_eq_false (by omega))]))) λa A↦?_
     refine qe (v := .bool false) A 29 rfl rfl rfl rfl hP (M.sub (List.nil_sublist _)) (fun w1 M => jl rfl rfl rfl rfl) λa A↦?_
     refine qe (v := .bool false) A 30 rfl rfl rfl rfl hP (M.sub (List.nil_sublist _)) (fun w1 M => jl rfl rfl rfl rfl) λa A↦?_
     refine zu (by kernel_rfl) ?_
     refine hK39 _ _ (wp_cond_false (A.ev rfl) ?_)
     refine wp_skip (hK32 _ _ (wrl (sdm A λa A↦?_)))
     refine sdo (v := .int .i64 (((j + 1 : Nat) : Int))) A (qf rfl rfl (fun w => (xl (ku (by omega) (by omega)) w).trans (by rw [show (((j : Nat) : Int) + 1 : Int) = ((j + 1 : Nat) : Int) from by omega]))) λa A↦?_
     refine sda A λa A↦?_
     refine qa ?_
     refine hK27 _ _ _ (by omega) ⟨j + 1, rfl, (by omega), A.keep _ (by repeat' constructor), M⟩
    ·
     have hb40' := ne_of_beq_false hb40
     refine qe (v := .bool false) A 18 rfl rfl rfl rfl hP (M.sub (List.nil_sublist _)) (fun w1 M => qf rfl rfl (fun w => (ql w).trans (by rw [hb40]))) λa A↦?_
     refine qe A 19 rfl rfl rfl rfl hP (M.sub (List.nil_sublist _)) (fun w1 M => qh rfl) λa A↦?_
     refine jk A 20 rfl rfl rfl rfl hP (M.sub (List.nil_sublist _)) λa A↦?_
     refine jk A 21 rfl rfl rfl rfl hP (M.sub (List.nil_sublist _)) λa A↦?_
     refine jk A 22 rfl rfl rfl rfl hP (M.sub (List.nil_sublist _)) λa A↦?_
     refine jk A 23 rfl rfl rfl rfl hP (M.sub (List.nil_sublist _)) λa A↦?_
     refine jk A 24 rfl rfl rfl rfl hP (M.sub (List.nil_sublist _)) λa A↦?_
     refine jk A 25 rfl rfl rfl rfl hP (M.sub (List.nil_sublist _)) λa A↦?_
     refine jk A 26 rfl rfl rfl rfl hP (M.sub (List.nil_sublist _)) λa A↦?_
     refine jk A 27 rfl rfl rfl rfl hP (M.sub (List.nil_sublist _)) λa A↦?_
     refine jk A 28 rfl rfl rfl rfl hP (M.sub (List.nil_sublist _)) λa A↦?_
     refine qe (v := .bool false) A 29 rfl rfl rfl rfl hP (M.sub (List.nil_sublist _)) (fun w1 M => jl rfl rfl rfl rfl) λa A↦?_
     refine qe (v := .bool false) A 30 rfl rfl rfl rfl hP (M.sub (List.nil_sublist _)) (fun w1 M => jl rfl rfl rfl rfl) λa A↦?_
     refine zu (by kernel_rfl) ?_
     refine hK39 _ _ (wp_cond_false (A.ev rfl) ?_)
     refine wp_skip (hK32 _ _ (wrl (sdm A λa A↦?_)))
     refine sdo (v := .int .i64 (((j + 1 : Nat) : Int))) A (qf rfl rfl (fun w => (xl (ku (by omega) (by omega)) w).trans (by rw [show (((j : Nat) : Int) + 1 : Int) = ((j + 1 : Nat) : Int) from by omega]))) λa A↦?_
     refine sda A λa A↦?_
     refine qa ?_
     refine hK27 _ _ _ (by omega) ⟨j + 1, rfl, (by omega), A.keep _ (by repeat' constructor), M⟩
  ·
   have hb31' := of_decide_eq_false hb31
   refine sdc A qm hb31 λa A↦?_
   refine qa (hK30 _ _ (wp_cond_false (A.ev rfl) ?_))
   refine wp_exit (hK24 _ _ (wsk fun K41 hK41 => wrl (sda A λa A↦?_)))
   refine qa (hK41 _ _ (wp_ret (hret _ _ (en1 A rfl (qi rfl) ?_))))
   exact ⟨rfl, hB4.trans (M.bel.mono hB4.size)⟩
 refine wsk fun K42 hK42 => wrl (sda A λa A↦?_)
 refine qa (hK42 _ _ (wp_block (zk (fun m_ a w1 => ∃ (i : Nat) (ys : List Dt) (gs : List (Nat × Nat × Nat)) (so_ : Option Addr) (ca_ : Nat), m_ = 1 + (250 - i) ∧ (i ≤ l.length ∧ i ≤ 250 ∧ ys = (gs.map mkP).reverse ∧ (∀ q ∈ gs, q.2.1 ≤ 1000 ∧ q.2.2 ≤ 1000) ∧ ys.map Dt.tr = PX l i) ∧ Sl a 130 [(0, .slice sk l.length ck), (2, .bool false), (3, .slice so_ ys.length ca_), (4, .int .i64 (((i : Nat) : Int))), (12, .slice (some ⟨g3, 0, none⟩) 0 0)] ∧ Mg w w1 (.row 30 11 (.slice so_ ys.length ca_) ys.length (qb ys) :: (pcs gs))) _ ⟨0, [], [], (some ⟨g3, 0, none⟩), 0, rfl, ⟨Nat.zero_le _, Nat.zero_le _, rfl, (fun q h => by cases h), rfl⟩, A.keep _ ⟨rfl, rfl, rfl, rfl, rfl, trivial⟩, M⟩ ?_)))
 clear M A
 rintro m_ a w43 ⟨i, ys, gs, so_, ca_, rfl, hinv45, A, M⟩ K44 hK44
 obtain ⟨hi0, hi1, hyg, hgs, hyt⟩ := hinv45
 have hyl : ys.length = i := by have := congrArg List.length hyt; rwa [List.length_map, PX_len] at this
 refine wsk fun K46 hK46 => wsk fun K47 hK47 => wrl ?_
 iterate 2 refine sdm A λa A↦?_
 refine sdo A (zq Tryz.underlying28 rfl) λa A↦?_
 rcases tf (decide (((i : Nat) : Int) < ((l.length : Nat) : Int))) with hb48 | hb48
 ·
  have hb48' := of_decide_eq_true hb48
  refine sdc A qm hb48 λa A↦?_
  iterate 2 refine sdm A λa A↦?_
  rcases tf (decide (((i : Nat) : Int) < 250)) with hb49 | hb49
  ·
   have hb49' := of_decide_eq_true hb49
   refine sdc A qm hb49 λa A↦?_
   refine sdk (v := .bool true) A λa A↦?_
   refine qa (hK47 _ _ (wp_cond_true (A.ev rfl) ?_))
   refine wp_skip (hK46 _ _ (wsk fun K50 hK50 => wp_block (wrl ?_)))
   iterate 3 refine sdm A λa A↦?_
   obtain ⟨bx, ox, hx1, hx2, hx3⟩ := zaj (i := i) hb (by omega)
   have hX8 : (l.getD i 0).toNat < 256 := UInt8.toNat_lt _
   obtain ⟨kk, hkk⟩ : ∃ kk, kk = (l.getD i 0).toNat % 5 := ⟨_, rfl⟩
   refine sdo (v := .pointer (some ⟨bx, ox + i, none⟩)) A (yg (k := i) Tryz.underlying28 (by kernel_rfl) rfl rfl rfl hx1 (by omega)) λa A↦?_
   refine sdo A (qya M hx2 (hx3 i (by omega)) LiY_is1_5 rfl) λa A↦?_
   refine sdo (v := .int .u8 (((kk : Nat) : Int))) A (qf rfl rfl (zah (by decide) (by rw [Int.tmod_eq_emod_of_nonneg (by omega)]; omega))) λa A↦?_
   refine sdo (v := .int .i64 (((kk : Nat) : Int))) A (jb rfl (ar_conv Tryz.underlying5 Tryz.underlying3 (in_i64 (by omega) (by omega)))) λa A↦?_
   refine sdo (v := .agg ((chD kk).d.cells (chD kk).ts.length).toArray) A (zp rfl (fun w => by kernel_rfl)) λa A↦?_
   refine sdm A λa A↦?_
   refine sdo (v := .agg ((chD i).d.cells (chD i).ts.length).toArray) A (zp rfl (fun w => by kernel_rfl)) λa A↦?_
   refine ux (e := 30) (sz := 11) (m := 2) (vs := qb [chD kk, chD i]) A M rfl rfl rfl (jc rfl (by kernel_rfl)) rfl rfl (.inl (by decide)) ?_
   intro g5 w51 M a A
   refine sdo (v := .agg ((jw g5 (chD kk) (chD i)).d.cells (jw g5 (chD kk) (chD i)).ts.length).toArray) A (zp rfl (fun w => by kernel_rfl)) λa A↦?_
   refine ux (e := 30) (sz := 11) (m := 1) (vs := qb [(jw g5 (chD kk) (chD i))]) A M rfl rfl rfl (jc rfl (by kernel_rfl)) rfl rfl (.inl (by decide)) ?_
   intro g52 w53 M a A
   refine ka (e := 30) (sz := 11) (k := 2) (q := ys.length) (m := 1) (xs := qb ys) (news := qb [(jw g5 (chD kk) (chD i))]) (L' := fun v54 => (.row 30 11 (.slice (some ⟨g52, 0, none⟩) 1 1) 1 (qb [(jw g5 (chD kk) (chD i))]) :: .row 30 11 (.slice (some ⟨g5, 0, none⟩) 2 2) 2 (qb [chD kk, chD i]) :: .row 30 11 (v54) (ys.length + 1) (qb ys ++ qb [(jw g5 (chD kk) (chD i))]) :: (pcs gs))) A rfl rfl rfl (qcj (z := .agg #[.int .i64 0, .int .i64 0, .bool false, .slice none 0 0, .slice none 0 0, .bool false, .slice none 0 0, .slice none 0 0, .string ⟨#[]⟩, .slice none 0 0, .slice none 0 0]) (sz := 11) (by_ := 192) Tryz.underlying22 (by kernel_rfl) rfl rfl rfl M 2 rfl rfl rfl rfl (qmf (M.has 0 rfl)) (ko [(jw g5 (chD kk) (chD i))]) (by omega)) (fun _ => rfl) ?_
   intro v54 w55 M a A
   replace M : Mg w w55 (.row 30 11 (.slice (some ⟨g52, 0, none⟩) 1 1) 1 (qb [(jw g5 (chD kk) (chD i))]) :: .row 30 11 (.slice (some ⟨g5, 0, none⟩) 2 2) 2 (qb [chD kk, chD i]) :: .row 30 11 (v54) ((ys ++ [(jw g5 (chD kk) (chD i))]).length) (qb (ys ++ [(jw g5 (chD kk) (chD i))])) :: (pcs gs)) := by
    rw [xm, List.length_append]; exact M
   obtain ⟨so56, ca57, rfl⟩ := kz (M.has 2 rfl)
   refine sda A λa A↦?_
   refine qa (hK50 _ _ (wrl (sdm A λa A↦?_)))
   refine sdo (v := .int .i64 (((i + 1 : Nat) : Int))) A (qf rfl rfl (fun w => (xl (ku (by omega) (by omega)) w).trans (by rw [show (((i : Nat) : Int) + 1 : Int) = ((i + 1 : Nat) : Int) from by omega]))) λa A↦?_
   refine sda A λa A↦?_
   refine qa ?_
   replace M := M.sub (cn (cc (cc (List.Sublist.refl _))))
   replace M := M.perm (List.Perm.swap _ _ _)
   refine hK44 _ _ _ (by omega) ⟨i + 1, ys ++ [jw g5 (chD kk) (chD i)], (g5, kk, i) :: gs, so56, ca57, rfl, ⟨by omega, by omega, zea hyg, zai hgs (by omega) (by omega), PX_step hyt hkk⟩, A.keep _ ⟨rfl, rfl, rfl, rfl, rfl, trivial⟩, M⟩
  ·
   have hb49' := of_decide_eq_false hb49
   refine sdc A qm hb49 λa A↦?_
   refine sdk (v := .bool false) A λa A↦?_
   refine qa (hK47 _ _ (wp_cond_false (A.ev rfl) ?_))
   refine wp_exit ?_
   exact hJ6 _ _ ⟨i, ys, gs, so_, ca_, ⟨hi0, hi1, hyg, hgs, hyt⟩, A.keep _ ⟨rfl, rfl, rfl, trivial⟩, M⟩
 ·
  have hb48' := of_decide_eq_false hb48
  refine sdc A qm hb48 λa A↦?_
  refine sdm A λa A↦?_
  iterate 2 refine qy A rfl rfl rfl λa A↦?_
  refine sdk (v := .bool false) A λa A↦?_
  refine qa (hK47 _ _ (wp_cond_false (A.ev rfl) ?_))
  refine wp_exit ?_
  exact hJ6 _ _ ⟨i, ys, gs, so_, ca_, ⟨hi0, hi1, hyg, hgs, hyt⟩, A.keep _ ⟨rfl, rfl, rfl, trivial⟩, M⟩
open Go.ChangeShapes Go.WideShapes Go.ChangeAt Go.RowKit Go.Joins Go.Deep
section
variable {H : Type} {enc : TypeId × Value → H} {W : World}
end
theorem qtg {w : World} {x : Addr} {len cap : Nat} {zs : List Int} (hl : len ≤ cap) (hz : zs.length = cap)
    (hc : ∀ i, i < zs.length → w.cell? (x.add i) = some (.int .u8 (zs.getD i 0))) (hw : ∀ n ∈ zs, (Lit.int .u8 n).wf = true) :
    ∃ l : List UInt8, l.length = len ∧ Rb w (some x) l := by
  have hbd : ∀ n ∈ zs, 0 ≤ n ∧ n < 256 := by
    intro n hn
    have := bounds_u8 (hw n hn)
    omega
  refine ⟨(zs.take len).map b8, by rw [List.length_map, List.length_take]; omega, ⟨fun hne => ?_⟩⟩
  have hlen : ((zs.take len).map b8).length = len := by rw [List.length_map, List.length_take]; omega
  have h0 : 0 < len := by
    apply Classical.byContradiction
    intro h
    have : len = 0 := by omega
    subst this
    simp at hne
  obtain ⟨b, off, spot⟩ := x
  have hspot : spot = none := by
    have := hc 0 (by omega)
    simp only [World.cell?, Addr.add] at this
    split at this
    · cases spot with
      | none => rfl
      | some s => simp at this
    · cases this
  subst hspot
  have hcj : ∀ j, j < len → w.cell? ⟨b, off + j, none⟩ = some (.int .u8 (((((zs.take len).map b8).getD j 0).toNat : Nat) : Int)) := by
    intro j hj
    have h1 := hc j (by omega)
    rw [Addr.add_lit] at h1
    rw [h1]
    have hjz : j < zs.length := by omega
    have h2 := hbd zs[j] (List.getElem_mem hjz)
    have e1 : zs.getD j 0 = zs[j] := by simp [hjz]
    have e2 : ((zs.take len).map b8).getD j 0 = b8 zs[j] := by simp [List.getD_eq_getElem?_getD, hj, hjz]
    rw [e1, e2, zbd h2.1 h2.2]
  refine ⟨b, off, rfl, ?_, fun j hj => hcj j (by omega)⟩
  have := hcj 0 h0
  apply Classical.byContradiction
  intro h
  simp [World.cell?, Array.getElem?_eq_none (Nat.le_of_not_lt h)] at this
section
variable {H : Type} {enc : TypeId × Value → H} {W : World}
end
theorem Rb.take {w : World} {so : Option Addr} {l : List UInt8} (h : Rb w so l) (n : Nat) : Rb w so (l.take n) := by
  refine ⟨fun hne => ?_⟩
  obtain ⟨b, off, h1, h2, h3⟩ := h.pos (fun k => hne (by rw [k]; simp))
  refine ⟨b, off, h1, h2, fun j hj => ?_⟩
  rw [List.length_take] at hj
  rw [h3 j (by omega), List.getD_eq_getElem?_getD, List.getD_eq_getElem?_getD, List.getElem?_take_of_lt (by omega)]
section
variable {P : Program} {w : World} {l : List (Nat × Value)} {dst : Option Tmp} {ty : TypeId} {pos : String} {after : Array Edge} {guard : Option (Nat × Bool)}
end
end Go.Proofs.YtipikhcmieboaaaGreatDoor.G
