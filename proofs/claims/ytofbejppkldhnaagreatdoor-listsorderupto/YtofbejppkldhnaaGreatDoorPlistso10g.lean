/- The walk of symMerge. The walk of slices.SortStableFunc. Walks of lists that are taken apart. A range over a function: steps within a round, and slices.Backward. slices.Backward over data. Items, linked one behind the other. Which lists are sound, and what the calls answer. Walks of the items of lists. Walks of lists that are joined, and of new lists. Walks of Of, Append, Tail and Reverse. Walks of SortBy, where the firsts are characters. What joins say, of lists as they are. The walk of SortBy, where the firsts are characters. Bytes compared by the library. The walk of the document's utf8. Units of a text as rows; when a text has no bad byte. Walks of the document's Sound. -/
import Derived.Test.YtofbejppkldhnaaGreatDoorPlistso10f
import Derived.RangeFuncNested
import Derived.RangeFuncLeaves
import Derived.LoopNIn
import Derived.Test.YtofbejppkldhnaaGreatDoorProg
import Derived.Test.YtofbejppkldhnaaGreatDoorArith
import Derived.Test.YtofbejppkldhnaaGreatDoorPlistso10d
import Derived.Test.YtofbejppkldhnaaGreatDoorShelf
import Derived.Lib.Bytealg
import Derived.WalkKit
import Derived.WalkSpells
import Derived.Lib.ConvBytes
import Derived.Test.YtofbejppkldhnaaGreatDoorPlistso10c
namespace Go.Proofs.YtofbejppkldhnaaGreatDoor.G
open Go.RowKit
set_option linter.unusedVariables false
set_option linter.unusedSimpArgs false
set_option maxRecDepth 100000
theorem LiU_isS_30 : IsS Tryz.prog 30 11 := ⟨⟨_, Tryz.underlying30⟩, by kernel_rfl⟩
def SymC (f : FuncId) (cs : List Value) (c : Dt → Dt → Int) (ts : List Dt) (w0 : World) (g9 c9 n9 : Nat) (T : List Ck) (d : Nat) : Prop := ∀ {w : World} {zs : List Dt} {la lm lb : Nat}, lb - la ≤ d → zs.length = n9 → (∀ t ∈ zs, t ∈ ts) → la < lm → lm < lb → lb ≤ n9 → UpS (ltC c) zs la lm → UpS (ltC c) zs lm lb → Mg w0 w (.row 30 11 (.slice (some ⟨g9, 0, none⟩) n9 c9) n9 (cellsOf zs) :: T) → Calls Tryz.prog 97 #[.slice (some ⟨g9, 0, none⟩) n9 c9, .int .i64 ((la : Nat) : Int), .int .i64 ((lm : Nat) : Int), .int .i64 ((lb : Nat) : Int), .func (.func f) #[] cs.toArray] w fun e w' => e = .returned (.tuple #[]) ∧ Mg w0 w' (.row 30 11 (.slice (some ⟨g9, 0, none⟩) n9 c9) n9 (cellsOf (mg (ltC c) zs la lm lb)) :: T)
set_option maxHeartbeats 1000000 in
theorem zth {f : FuncId} {cs : List Value} {c : Dt → Dt → Int} {ts : List Dt} {w0 : World} {g9 c9 n9 : Nat} {T : List Ck} (hl : n9 ≤ 1000000000) (hF : Cmps Tryz.prog f cs w0 T ts c) (H : Swo (ltC c)) {d : Nat} (ih : SymC f cs c ts w0 g9 c9 n9 T d) : SymC f cs c ts w0 g9 c9 n9 T (d + 1) := by
 intro w zs la lm lb hd hzl hsub ham hmb hbn hu1 hu2 hM0
 have M : Mg w0 w (.row 30 11 (.slice (some ⟨g9, 0, none⟩) n9 c9) n9 (cellsOf zs) :: T) := hM0
 refine qr (l := [(0, .slice (some ⟨g9, 0, none⟩) n9 c9), (1, .int .i64 (((la : Nat) : Int))), (2, .int .i64 (((lm : Nat) : Int))), (3, .int .i64 (((lb : Nat) : Int))), (4, .func (.func f) #[] cs.toArray)]) Tryz.func97 rfl Tryz.ntmps97 rfl rfl ?_
 intro Q hret hnorm hP a A
 refine wsk fun K1 hK1 => wsk fun K2 hK2 => wrl ?_
 iterate 2 refine sdm A λa A↦?_
 refine sdo (v := .int .i64 (((lm - la : Nat) : Int))) A (qf rfl rfl (ar_sub ((in_i64 (by omega) (by omega)).trans (by omega)))) λa A↦?_
 rcases tf ((((lm - la : Nat) : Int) == 1)) with hb3 | hb3
 ·
  have hb3' := eq_of_beq hb3
  refine sdc A ql hb3 λa A↦?_
  refine qa (hK2 _ _ (wp_cond_true (A.ev rfl) ?_))
  refine wsk fun K4 hK4 => wrl (sdm A λa A↦?_)
  refine sda A λa A↦?_
  refine qa (hK4 _ _ (wsk fun K5 hK5 => wrl (sdm A λa A↦?_)))
  refine sda A λa A↦?_
  refine qa (hK5 _ _ (wsk fun K6 hK6 => wp_block (zt (fun m_ a w1 => ∃ (i : Nat) (j : Nat), m_ = 1 + (j - i) ∧ (lm ≤ i ∧ i ≤ j ∧ j ≤ lb ∧ (i = lm ∨ ltA (ltC c) zs (i - 1) la = true) ∧ (j = lb ∨ ltA (ltC c) zs j la = false)) ∧ Sl a 220 [(0, .slice (some ⟨g9, 0, none⟩) n9 c9), (1, .int .i64 (((la : Nat) : Int))), (2, .int .i64 (((lm : Nat) : Int))), (3, .int .i64 (((lb : Nat) : Int))), (4, .func (.func f) #[] cs.toArray), (10, .int .i64 (((i : Nat) : Int))), (11, .int .i64 (((j : Nat) : Int))), (25, .int .i64 (((lm : Nat) : Int))), (26, .int .i64 (((la : Nat) : Int))), (27, .int .i64 (((lm - la : Nat) : Int))), (28, .bool true), (29, .int .i64 (((lm : Nat) : Int))), (30, .int .i64 (((lb : Nat) : Int)))] ∧ Mg w0 w1 (.row 30 11 (.slice (some ⟨g9, 0, none⟩) n9 c9) n9 (cellsOf zs) :: T)) _ ⟨lm, lb, rfl, ⟨Nat.le_refl _, by omega, Nat.le_refl _, .inl rfl, .inl rfl⟩, A.keep _ ⟨rfl, rfl, rfl, rfl, rfl, rfl, rfl, rfl, rfl, rfl, rfl, rfl, rfl, trivial⟩, M⟩ ?_)))
  clear M A
  rintro m_ a w7 ⟨i, j, rfl, hinv9, A, M⟩ K8 hK8
  obtain ⟨hi0, hi1, hi2, hil, hjr⟩ := hinv9
  refine wsk fun K10 hK10 => wsk fun K11 hK11 => wrl ?_
  iterate 2 refine sdm A λa A↦?_
  rcases tf (decide (((i : Nat) : Int) < ((j : Nat) : Int))) with hb12 | hb12
  ·
   have hb12' := of_decide_eq_true hb12
   refine sdc A qw hb12 λa A↦?_
   refine qa (hK11 _ _ (wp_cond_true (A.ev rfl) ?_))
   refine wp_skip (hK10 _ _ (wp_block (wsk fun K13 hK13 => wrl ?_)))
   iterate 2 refine sdm A λa A↦?_
   refine sdo (v := .int .i64 (((i + j : Nat) : Int))) A (qf rfl rfl (ar_add ((in_i64 (by omega) (by omega)).trans (by omega)))) λa A↦?_
   refine sdo (v := .int .u64 (((i + j : Nat) : Int))) A (jg rfl (ar_conv Tryz.underlying3 Tryz.underlying109 (qwi (by omega) (by omega)))) λa A↦?_
   refine sdo (v := .int .u64 ((((i + j) / 2 : Nat) : Int))) A (qf rfl rfl (ar_shr (n := 1) rfl rfl (show ((i + j : Nat) : Int) / 2 ^ 1 = (((i + j) / 2 : Nat) : Int) from by rw [show ((2 : Int) ^ 1) = 2 from rfl]; omega))) λa A↦?_
   refine sdo (v := .int .i64 ((((i + j) / 2 : Nat) : Int))) A (jg rfl (ar_conv Tryz.underlying109 Tryz.underlying3 (in_i64 (by omega) (by omega)))) λa A↦?_
   refine sda A λa A↦?_
   refine qa (hK13 _ _ (wsk fun K14 hK14 => jc (S := fun w1 => Mg w0 w1 (.row 30 11 (.slice (some ⟨g9, 0, none⟩) n9 c9) n9 (cellsOf zs) :: [])) (by kernel_rfl) ?_))
   replace M := M.drew
   refine qe A 0 rfl rfl rfl rfl hP (M.sub (.cons_cons _ (List.nil_sublist _))) (fun w1 M => qh rfl) λa A↦?_
   refine qe A 1 rfl rfl rfl rfl hP (M.sub (.cons_cons _ (List.nil_sublist _))) (fun w1 M => qh rfl) λa A↦?_
   refine qe A 2 rfl rfl rfl rfl hP (M.sub (.cons_cons _ (List.nil_sublist _))) (fun w1 M => qh rfl) λa A↦?_
   refine qe (v := .pointer (some ⟨g9, ((i + j) / 2) * 11, none⟩)) A 3 rfl rfl rfl rfl hP (M.sub (.cons_cons _ (List.nil_sublist _))) (fun w1 M => qx (k := ((i + j) / 2)) Tryz.underlying28 (by kernel_rfl) rfl rfl rfl (by omega)) λa A↦?_
   obtain ⟨e15, he15⟩ : ∃ z, zs[((i + j) / 2)]? = some z := ⟨_, List.getElem?_eq_getElem (by omega)⟩
   refine qe A 4 rfl rfl rfl rfl hP (M.sub (.cons_cons _ (List.nil_sublist _))) (fun w1 M => jd (o := ((i + j) / 2) * 11) (cs := e15.d.cells e15.ts.length) M 0 rfl LiU_isS_30 (zl he15) rfl rfl) λa A↦?_
   refine qe A 5 rfl rfl rfl rfl hP (M.sub (.cons_cons _ (List.nil_sublist _))) (fun w1 M => qh rfl) λa A↦?_
   refine qe A 6 rfl rfl rfl rfl hP (M.sub (.cons_cons _ (List.nil_sublist _))) (fun w1 M => qh rfl) λa A↦?_
   refine qe (v := .pointer (some ⟨g9, la * 11, none⟩)) A 7 rfl rfl rfl rfl hP (M.sub (.cons_cons _ (List.nil_sublist _))) (fun w1 M => qx (k := la) Tryz.underlying28 (by kernel_rfl) rfl rfl rfl (by omega)) λa A↦?_
   obtain ⟨e16, he16⟩ : ∃ z, zs[la]? = some z := ⟨_, List.getElem?_eq_getElem (by omega)⟩
   refine qe A 8 rfl rfl rfl rfl hP (M.sub (.cons_cons _ (List.nil_sublist _))) (fun w1 M => jd (o := la * 11) (cs := e16.d.cells e16.ts.length) M 0 rfl LiU_isS_30 (zl he16) rfl rfl) λa A↦?_
   refine qi (by kernel_rfl) (za A 9 rfl rfl rfl rfl (yv rfl rfl hF.inv) (hF.run e15 e16 _ (hsub _ (List.mem_of_getElem? he15)) (hsub _ (List.mem_of_getElem? he16)) (M.sub (.cons _ (List.Sublist.refl _)))) ?_)
   rintro _ w18 ⟨rfl, hb17⟩
   replace M := M.call hb17
   refine ⟨_, rfl, (M.sub (.cons_cons _ (List.nil_sublist _))), ?_⟩
   intro a A
   rcases tf (decide ((c e15 e16) < 0)) with hb19 | hb19
   ·
    have hb19' := of_decide_eq_true hb19
    refine qe (v := .bool true) A 10 rfl rfl rfl rfl hP (M.sub (.cons_cons _ (List.nil_sublist _))) (fun w1 M => qf rfl rfl (fun w => (qw w).trans (by rw [hb19]))) λa A↦?_
    refine zb (by kernel_rfl) ?_
    refine hK14 _ _ (wp_cond_true (A.ev rfl) ?_)
    refine wrl (sdm A λa A↦?_)
    refine sdo (v := .int .i64 (((((i + j) / 2) + 1 : Nat) : Int))) A (qf rfl rfl (ar_add ((in_i64 (by omega) (by omega)).trans (by omega)))) λa A↦?_
    refine sda A λa A↦?_
    refine qa ?_
    refine hK8 _ _ _ (by omega) ⟨(i + j) / 2 + 1, j, rfl, ⟨by omega, by omega, by omega, .inr (by rw [Nat.add_sub_cancel]; exact qbh he15 he16 hb19), hjr⟩, A.keep _ ⟨rfl, rfl, rfl, rfl, rfl, rfl, rfl, rfl, rfl, rfl, rfl, rfl, rfl, trivial⟩, M⟩
   ·
    have hb19' := of_decide_eq_false hb19
    refine qe (v := .bool false) A 10 rfl rfl rfl rfl hP (M.sub (.cons_cons _ (List.nil_sublist _))) (fun w1 M => qf rfl rfl (fun w => (qw w).trans (by rw [hb19]))) λa A↦?_
    refine zb (by kernel_rfl) ?_
    refine hK14 _ _ (wp_cond_false (A.ev rfl) ?_)
    refine wrl (sdm A λa A↦?_)
    refine sda A λa A↦?_
    refine qa ?_
    refine hK8 _ _ _ (by omega) ⟨i, (i + j) / 2, rfl, ⟨by omega, by omega, by omega, hil, .inr (qbh he15 he16 hb19)⟩, A.keep _ ⟨rfl, rfl, rfl, rfl, rfl, rfl, rfl, rfl, rfl, rfl, rfl, rfl, rfl, trivial⟩, M⟩
  ·
   have hb12' := of_decide_eq_false hb12
   refine sdc A qw hb12 λa A↦?_
   refine qa (hK11 _ _ (wp_cond_false (A.ev rfl) ?_))
   refine wp_exit (hK6 _ _ (wsk fun K20 hK20 => wsk fun K21 hK21 => wrl (sdm A λa A↦?_)))
   refine sda A λa A↦?_
   refine qa (hK21 _ _ (wp_block (zt (fun m_ a w1 => ∃ (k : Nat) (xs : List Dt), m_ = 1 + (i - k) ∧ (la ≤ k ∧ k + 1 ≤ i ∧ xs.length = n9 ∧ mvU xs k (i - 1 - k) = mvU zs la (i - 1 - la)) ∧ Sl a 220 [(0, .slice (some ⟨g9, 0, none⟩) n9 c9), (1, .int .i64 (((la : Nat) : Int))), (2, .int .i64 (((lm : Nat) : Int))), (3, .int .i64 (((lb : Nat) : Int))), (4, .func (.func f) #[] cs.toArray), (10, .int .i64 (((i : Nat) : Int))), (11, .int .i64 (((j : Nat) : Int))), (13, .int .i64 (((k : Nat) : Int))), (25, .int .i64 (((lm : Nat) : Int))), (26, .int .i64 (((la : Nat) : Int))), (27, .int .i64 (((lm - la : Nat) : Int))), (28, .bool true), (29, .int .i64 (((lm : Nat) : Int))), (30, .int .i64 (((lb : Nat) : Int))), (31, .int .i64 (((i : Nat) : Int))), (32, .int .i64 (((j : Nat) : Int))), (33, .bool false), (54, .int .i64 (((la : Nat) : Int)))] ∧ Mg w0 w1 (.row 30 11 (.slice (some ⟨g9, 0, none⟩) n9 c9) n9 (cellsOf xs) :: T)) _ ⟨la, zs, rfl, ⟨Nat.le_refl _, by omega, hzl, rfl⟩, A.keep _ ⟨rfl, rfl, rfl, rfl, rfl, rfl, rfl, rfl, rfl, rfl, rfl, rfl, rfl, rfl, rfl, rfl, rfl, rfl, trivial⟩, M⟩ ?_)))
   clear M A
   rintro m_ a w22 ⟨k, xs, rfl, hinv24, A, M⟩ K23 hK23
   obtain ⟨hk0, hk1, hxl, hin⟩ := hinv24
   refine wsk fun K25 hK25 => wsk fun K26 hK26 => wrl ?_
   iterate 2 refine sdm A λa A↦?_
   refine sdo (v := .int .i64 (((i - 1 : Nat) : Int))) A (qf rfl rfl (ar_sub ((in_i64 (by omega) (by omega)).trans (by omega)))) λa A↦?_
   rcases tf (decide (((k : Nat) : Int) < ((i - 1 : Nat) : Int))) with hb27 | hb27
   ·
    have hb27' := of_decide_eq_true hb27
    refine sdc A qw hb27 λa A↦?_
    refine qa (hK26 _ _ (wp_cond_true (A.ev rfl) ?_))
    refine wp_skip (hK25 _ _ (wsk fun K28 hK28 => wp_block (jc (S := fun w1 => Mg w0 w1 ([])) (by kernel_rfl) ?_)))
    replace M := M.drew
    refine qe A 0 rfl rfl rfl rfl hP (M.sub (.cons _ (List.nil_sublist _))) (fun w1 M => qh rfl) λa A↦?_
    refine qe A 1 rfl rfl rfl rfl hP (M.sub (.cons _ (List.nil_sublist _))) (fun w1 M => qh rfl) λa A↦?_
    refine qe A 2 rfl rfl rfl rfl hP (M.sub (.cons _ (List.nil_sublist _))) (fun w1 M => qh rfl) λa A↦?_
    refine qe A 3 rfl rfl rfl rfl hP (M.sub (.cons _ (List.nil_sublist _))) (fun w1 M => qh rfl) λa A↦?_
    refine qe (v := .int .i64 (((k + 1 : Nat) : Int))) A 4 rfl rfl rfl rfl hP (M.sub (.cons _ (List.nil_sublist _))) (fun w1 M => qf rfl rfl (ar_add ((in_i64 (by omega) (by omega)).trans (by omega)))) λa A↦?_
    refine qe A 5 rfl rfl rfl rfl hP (M.sub (.cons _ (List.nil_sublist _))) (fun w1 M => qh rfl) λa A↦?_
    refine qe A 6 rfl rfl rfl rfl hP (M.sub (.cons _ (List.nil_sublist _))) (fun w1 M => qh rfl) λa A↦?_
    refine qe (v := .int .i64 (((k + 1 : Nat) : Int))) A 7 rfl rfl rfl rfl hP (M.sub (.cons _ (List.nil_sublist _))) (fun w1 M => qf rfl rfl (ar_add ((in_i64 (by omega) (by omega)).trans (by omega)))) λa A↦?_
    refine qe (v := .pointer (some ⟨g9, (k + 1) * 11, none⟩)) A 8 rfl rfl rfl rfl hP (M.sub (.cons _ (List.nil_sublist _))) (fun w1 M => qx (k := (k + 1)) Tryz.underlying28 (by kernel_rfl) rfl rfl rfl (by omega)) λa A↦?_
    refine qe A 10 rfl rfl rfl rfl hP (M.sub (.cons _ (List.nil_sublist _))) (fun w1 M => qh rfl) λa A↦?_
    refine qe A 11 rfl rfl rfl rfl hP (M.sub (.cons _ (List.nil_sublist _))) (fun w1 M => qh rfl) λa A↦?_
    refine qe (v := .pointer (some ⟨g9, k * 11, none⟩)) A 12 rfl rfl rfl rfl hP (M.sub (.cons _ (List.nil_sublist _))) (fun w1 M => qx (k := k) Tryz.underlying28 (by kernel_rfl) rfl rfl rfl (by omega)) λa A↦?_
    refine jt (rs := [9, 13]) (by kernel_rfl) (by simp) ⟨?_, ?_, trivial⟩
    ·
     obtain ⟨e29, he29⟩ : ∃ z, xs[(k + 1)]? = some z := ⟨_, List.getElem?_eq_getElem (by omega)⟩
     refine xk A 9 rfl rfl rfl rfl (jd (o := (k + 1) * 11) (cs := e29.d.cells e29.ts.length) M 0 rfl LiU_isS_30 (zl he29) rfl rfl) (M.sub (.cons _ (List.nil_sublist _))) λa A↦?_
     obtain ⟨e30, he30⟩ : ∃ z, xs[k]? = some z := ⟨_, List.getElem?_eq_getElem (by omega)⟩
     refine qi (by kernel_rfl) (xk A 13 rfl rfl rfl rfl (jd (o := k * 11) (cs := e30.d.cells e30.ts.length) M 0 rfl LiU_isS_30 (zl he30) rfl rfl) (M.sub (.cons _ (List.nil_sublist _))) ?_)
     intro a A
     refine qe (v := .pointer (some ⟨g9, k * 11, none⟩)) A 14 rfl rfl rfl rfl hP (M.sub (.cons _ (List.nil_sublist _))) (fun w1 M => qx (k := k) Tryz.underlying28 (by kernel_rfl) rfl rfl rfl (by omega)) λa A↦?_
     refine qi (by kernel_rfl) (jk (us := cellsOf (xs.set k e29)) (L' := (.row 30 11 (.slice (some ⟨g9, 0, none⟩) n9 c9) n9 (cellsOf (xs.set k e29)) :: T)) A M 15 rfl rfl rfl (jo (cs := e29.d.cells e29.ts.length) rfl rfl rfl (by kernel_rfl) M 0 rfl (by show _ + 11 ≤ _; omega) (je e29)) 0 rfl (jp (by omega) rfl) rfl ?_)
     intro w31 M
     refine ⟨(M.sub (.cons _ (List.nil_sublist _))), ?_⟩
     refine qe (v := .pointer (some ⟨g9, (k + 1) * 11, none⟩)) A 16 rfl rfl rfl rfl hP (M.sub (.cons _ (List.nil_sublist _))) (fun w1 M => qx (k := (k + 1)) Tryz.underlying28 (by kernel_rfl) rfl rfl rfl (by omega)) λa A↦?_
     refine qi (by kernel_rfl) (jk (us := cellsOf ((xs.set k e29).set (k + 1) e30)) (L' := (.row 30 11 (.slice (some ⟨g9, 0, none⟩) n9 c9) n9 (cellsOf ((xs.set k e29).set (k + 1) e30)) :: T)) A M 17 rfl rfl rfl (jo (cs := e30.d.cells e30.ts.length) rfl rfl rfl (by kernel_rfl) M 0 rfl (by show _ + 11 ≤ _; omega) (je e30)) 0 rfl (jp (by rw [List.length_set]; omega) rfl) rfl ?_)
     intro w32 M
     rw [qab he30 he29] at M
     refine ⟨(M.sub (.cons _ (List.nil_sublist _))), ?_⟩
     refine zb (by kernel_rfl) ?_
     refine hK28 _ _ (wrl (sdm A λa A↦?_))
     refine sdo (v := .int .i64 (((k + 1 : Nat) : Int))) A (qf rfl rfl (ar_add ((in_i64 (by omega) (by omega)).trans (by omega)))) λa A↦?_
     refine sda A λa A↦?_
     refine qa ?_
     refine hK23 _ _ _ (by omega) ⟨k + 1, (swp xs k (k + 1)), rfl, ⟨by omega, by omega, by rw [yq]; exact hxl, by rw [← hin, show i - 1 - k = i - 1 - (k + 1) + 1 by omega]; rfl⟩, A.keep _ ⟨rfl, rfl, rfl, rfl, rfl, rfl, rfl, rfl, rfl, rfl, rfl, rfl, rfl, rfl, rfl, rfl, rfl, rfl, trivial⟩, M⟩
    ·
     obtain ⟨e33, he33⟩ : ∃ z, xs[k]? = some z := ⟨_, List.getElem?_eq_getElem (by omega)⟩
     refine xk A 13 rfl rfl rfl rfl (jd (o := k * 11) (cs := e33.d.cells e33.ts.length) M 0 rfl LiU_isS_30 (zl he33) rfl rfl) (M.sub (.cons _ (List.nil_sublist _))) λa A↦?_
     obtain ⟨e34, he34⟩ : ∃ z, xs[(k + 1)]? = some z := ⟨_, List.getElem?_eq_getElem (by omega)⟩
     refine qi (by kernel_rfl) (xk A 9 rfl rfl rfl rfl (jd (o := (k + 1) * 11) (cs := e34.d.cells e34.ts.length) M 0 rfl LiU_isS_30 (zl he34) rfl rfl) (M.sub (.cons _ (List.nil_sublist _))) ?_)
     intro a A
     refine qe (v := .pointer (some ⟨g9, k * 11, none⟩)) A 14 rfl rfl rfl rfl hP (M.sub (.cons _ (List.nil_sublist _))) (fun w1 M => qx (k := k) Tryz.underlying28 (by kernel_rfl) rfl rfl rfl (by omega)) λa A↦?_
     refine qi (by kernel_rfl) (jk (us := cellsOf (xs.set k e34)) (L' := (.row 30 11 (.slice (some ⟨g9, 0, none⟩) n9 c9) n9 (cellsOf (xs.set k e34)) :: T)) A M 15 rfl rfl rfl (jo (cs := e34.d.cells e34.ts.length) rfl rfl rfl (by kernel_rfl) M 0 rfl (by show _ + 11 ≤ _; omega) (je e34)) 0 rfl (jp (by omega) rfl) rfl ?_)
     intro w35 M
     refine ⟨(M.sub (.cons _ (List.nil_sublist _))), ?_⟩
     refine qe (v := .pointer (some ⟨g9, (k + 1) * 11, none⟩)) A 16 rfl rfl rfl rfl hP (M.sub (.cons _ (List.nil_sublist _))) (fun w1 M => qx (k := (k + 1)) Tryz.underlying28 (by kernel_rfl) rfl rfl rfl (by omega)) λa A↦?_
     refine qi (by kernel_rfl) (jk (us := cellsOf ((xs.set k e34).set (k + 1) e33)) (L' := (.row 30 11 (.slice (some ⟨g9, 0, none⟩) n9 c9) n9 (cellsOf ((xs.set k e34).set (k + 1) e33)) :: T)) A M 17 rfl rfl rfl (jo (cs := e33.d.cells e33.ts.length) rfl rfl rfl (by kernel_rfl) M 0 rfl (by show _ + 11 ≤ _; omega) (je e33)) 0 rfl (jp (by rw [List.length_set]; omega) rfl) rfl ?_)
     intro w36 M
     rw [qab he33 he34] at M
     refine ⟨(M.sub (.cons _ (List.nil_sublist _))), ?_⟩
     refine zb (by kernel_rfl) ?_
     refine hK28 _ _ (wrl (sdm A λa A↦?_))
     refine sdo (v := .int .i64 (((k + 1 : Nat) : Int))) A (qf rfl rfl (ar_add ((in_i64 (by omega) (by omega)).trans (by omega)))) λa A↦?_
     refine sda A λa A↦?_
     refine qa ?_
     refine hK23 _ _ _ (by omega) ⟨k + 1, (swp xs k (k + 1)), rfl, ⟨by omega, by omega, by rw [yq]; exact hxl, by rw [← hin, show i - 1 - k = i - 1 - (k + 1) + 1 by omega]; rfl⟩, A.keep _ ⟨rfl, rfl, rfl, rfl, rfl, rfl, rfl, rfl, rfl, rfl, rfl, rfl, rfl, rfl, rfl, rfl, rfl, rfl, trivial⟩, M⟩
   ·
    have hb27' := of_decide_eq_false hb27
    refine sdc A qw hb27 λa A↦?_
    refine qa (hK26 _ _ (wp_cond_false (A.ev rfl) ?_))
    refine wp_exit (hK20 _ _ (wp_ret (hret _ _ (vw (v := .tuple #[]) A rfl .nil rfl ?_))))
    obtain rfl : i = j := by omega
    rw [show i - 1 - k = 0 by omega] at hin
    replace hin : xs = mvU zs la (i - 1 - la) := hin
    rw [hin, one_l H (by omega) (by omega) (by omega) (by omega) hu2 hil hjr] at M
    exact ⟨rfl, M⟩
 ·
  have hb3' := ne_of_beq_false hb3
  refine sdc A ql hb3 λa A↦?_
  refine qa (hK2 _ _ (wp_cond_false (A.ev rfl) ?_))
  refine wp_skip (hK1 _ _ (wsk fun K37 hK37 => wsk fun K38 hK38 => wrl ?_))
  iterate 2 refine sdm A λa A↦?_
  refine sdo (v := .int .i64 (((lb - lm : Nat) : Int))) A (qf rfl rfl (ar_sub ((in_i64 (by omega) (by omega)).trans (by omega)))) λa A↦?_
  rcases tf ((((lb - lm : Nat) : Int) == 1)) with hb39 | hb39
  ·
   have hb39' := eq_of_beq hb39
   refine sdc A ql hb39 λa A↦?_
   refine qa (hK38 _ _ (wp_cond_true (A.ev rfl) ?_))
   refine wsk fun K40 hK40 => wrl (sdm A λa A↦?_)
   refine sda A λa A↦?_
   refine qa (hK40 _ _ (wsk fun K41 hK41 => wrl (sdm A λa A↦?_)))
   refine sda A λa A↦?_
   refine qa (hK41 _ _ (wsk fun K42 hK42 => wp_block (zt (fun m_ a w1 => ∃ (i : Nat) (j : Nat), m_ = 1 + (j - i) ∧ (la ≤ i ∧ i ≤ j ∧ j ≤ lm ∧ (i = la ∨ ltA (ltC c) zs lm (i - 1) = false) ∧ (j = lm ∨ ltA (ltC c) zs lm j = true)) ∧ Sl a 220 [(0, .slice (some ⟨g9, 0, none⟩) n9 c9), (1, .int .i64 (((la : Nat) : Int))), (2, .int .i64 (((lm : Nat) : Int))), (3, .int .i64 (((lb : Nat) : Int))), (4, .func (.func f) #[] cs.toArray), (14, .int .i64 (((i : Nat) : Int))), (15, .int .i64 (((j : Nat) : Int))), (25, .int .i64 (((lm : Nat) : Int))), (26, .int .i64 (((la : Nat) : Int))), (27, .int .i64 (((lm - la : Nat) : Int))), (28, .bool false), (77, .int .i64 (((lb : Nat) : Int))), (78, .int .i64 (((lm : Nat) : Int))), (79, .int .i64 (((lb - lm : Nat) : Int))), (80, .bool true), (81, .int .i64 (((la : Nat) : Int))), (82, .int .i64 (((lm : Nat) : Int)))] ∧ Mg w0 w1 (.row 30 11 (.slice (some ⟨g9, 0, none⟩) n9 c9) n9 (cellsOf zs) :: T)) _ ⟨la, lm, rfl, ⟨Nat.le_refl _, by omega, Nat.le_refl _, .inl rfl, .inl rfl⟩, A.keep _ ⟨rfl, rfl, rfl, rfl, rfl, rfl, rfl, rfl, rfl, rfl, rfl, rfl, rfl, rfl, rfl, rfl, rfl, trivial⟩, M⟩ ?_)))
   clear M A
   rintro m_ a w43 ⟨i, j, rfl, hinv45, A, M⟩ K44 hK44
   obtain ⟨hi0, hi1, hi2, hil, hjr⟩ := hinv45
   refine wsk fun K46 hK46 => wsk fun K47 hK47 => wrl ?_
   iterate 2 refine sdm A λa A↦?_
   rcases tf (decide (((i : Nat) : Int) < ((j : Nat) : Int))) with hb48 | hb48
   ·
    have hb48' := of_decide_eq_true hb48
    refine sdc A qw hb48 λa A↦?_
    refine qa (hK47 _ _ (wp_cond_true (A.ev rfl) ?_))
    refine wp_skip (hK46 _ _ (wp_block (wsk fun K49 hK49 => wrl ?_)))
    iterate 2 refine sdm A λa A↦?_
    refine sdo (v := .int .i64 (((i + j : Nat) : Int))) A (qf rfl rfl (ar_add ((in_i64 (by omega) (by omega)).trans (by omega)))) λa A↦?_
    refine sdo (v := .int .u64 (((i + j : Nat) : Int))) A (jg rfl (ar_conv Tryz.underlying3 Tryz.underlying109 (qwi (by omega) (by omega)))) λa A↦?_
    refine sdo (v := .int .u64 ((((i + j) / 2 : Nat) : Int))) A (qf rfl rfl (ar_shr (n := 1) rfl rfl (show ((i + j : Nat) : Int) / 2 ^ 1 = (((i + j) / 2 : Nat) : Int) from by rw [show ((2 : Int) ^ 1) = 2 from rfl]; omega))) λa A↦?_
    refine sdo (v := .int .i64 ((((i + j) / 2 : Nat) : Int))) A (jg rfl (ar_conv Tryz.underlying109 Tryz.underlying3 (in_i64 (by omega) (by omega)))) λa A↦?_
    refine sda A λa A↦?_
    refine qa (hK49 _ _ (wsk fun K50 hK50 => jc (S := fun w1 => Mg w0 w1 (.row 30 11 (.slice (some ⟨g9, 0, none⟩) n9 c9) n9 (cellsOf zs) :: [])) (by kernel_rfl) ?_))
    replace M := M.drew
    refine qe A 0 rfl rfl rfl rfl hP (M.sub (.cons_cons _ (List.nil_sublist _))) (fun w1 M => qh rfl) λa A↦?_
    refine qe A 1 rfl rfl rfl rfl hP (M.sub (.cons_cons _ (List.nil_sublist _))) (fun w1 M => qh rfl) λa A↦?_
    refine qe A 2 rfl rfl rfl rfl hP (M.sub (.cons_cons _ (List.nil_sublist _))) (fun w1 M => qh rfl) λa A↦?_
    refine qe (v := .pointer (some ⟨g9, lm * 11, none⟩)) A 3 rfl rfl rfl rfl hP (M.sub (.cons_cons _ (List.nil_sublist _))) (fun w1 M => qx (k := lm) Tryz.underlying28 (by kernel_rfl) rfl rfl rfl (by omega)) λa A↦?_
    obtain ⟨e51, he51⟩ : ∃ z, zs[lm]? = some z := ⟨_, List.getElem?_eq_getElem (by omega)⟩
    refine qe A 4 rfl rfl rfl rfl hP (M.sub (.cons_cons _ (List.nil_sublist _))) (fun w1 M => jd (o := lm * 11) (cs := e51.d.cells e51.ts.length) M 0 rfl LiU_isS_30 (zl he51) rfl rfl) λa A↦?_
    refine qe A 5 rfl rfl rfl rfl hP (M.sub (.cons_cons _ (List.nil_sublist _))) (fun w1 M => qh rfl) λa A↦?_
    refine qe A 6 rfl rfl rfl rfl hP (M.sub (.cons_cons _ (List.nil_sublist _))) (fun w1 M => qh rfl) λa A↦?_
    refine qe (v := .pointer (some ⟨g9, ((i + j) / 2) * 11, none⟩)) A 7 rfl rfl rfl rfl hP (M.sub (.cons_cons _ (List.nil_sublist _))) (fun w1 M => qx (k := ((i + j) / 2)) Tryz.underlying28 (by kernel_rfl) rfl rfl rfl (by omega)) λa A↦?_
    obtain ⟨e52, he52⟩ : ∃ z, zs[((i + j) / 2)]? = some z := ⟨_, List.getElem?_eq_getElem (by omega)⟩
    refine qe A 8 rfl rfl rfl rfl hP (M.sub (.cons_cons _ (List.nil_sublist _))) (fun w1 M => jd (o := ((i + j) / 2) * 11) (cs := e52.d.cells e52.ts.length) M 0 rfl LiU_isS_30 (zl he52) rfl rfl) λa A↦?_
    refine qi (by kernel_rfl) (za A 9 rfl rfl rfl rfl (yv rfl rfl hF.inv) (hF.run e51 e52 _ (hsub _ (List.mem_of_getElem? he51)) (hsub _ (List.mem_of_getElem? he52)) (M.sub (.cons _ (List.Sublist.refl _)))) ?_)
    rintro _ w54 ⟨rfl, hb53⟩
    replace M := M.call hb53
    refine ⟨_, rfl, (M.sub (.cons_cons _ (List.nil_sublist _))), ?_⟩
    intro a A
    rcases tf (decide ((c e51 e52) < 0)) with hb55 | hb55
    ·
     have hb55' := of_decide_eq_true hb55
     refine qe (v := .bool true) A 10 rfl rfl rfl rfl hP (M.sub (.cons_cons _ (List.nil_sublist _))) (fun w1 M => qf rfl rfl (fun w => (qw w).trans (by rw [hb55]))) λa A↦?_
     refine qe (v := .bool false) A 11 rfl rfl rfl rfl hP (M.sub (.cons_cons _ (List.nil_sublist _))) (fun w1 M => zd rfl zj) λa A↦?_
     refine zb (by kernel_rfl) ?_
     refine hK50 _ _ (wp_cond_false (A.ev rfl) ?_)
     refine wrl (sdm A λa A↦?_)
     refine sda A λa A↦?_
     refine qa ?_
     refine hK44 _ _ _ (by omega) ⟨i, (i + j) / 2, rfl, ⟨by omega, by omega, by omega, hil, .inr (qbh he51 he52 hb55)⟩, A.keep _ ⟨rfl, rfl, rfl, rfl, rfl, rfl, rfl, rfl, rfl, rfl, rfl, rfl, rfl, rfl, rfl, rfl, rfl, trivial⟩, M⟩
    ·
     have hb55' := of_decide_eq_false hb55
     refine qe (v := .bool false) A 10 rfl rfl rfl rfl hP (M.sub (.cons_cons _ (List.nil_sublist _))) (fun w1 M => qf rfl rfl (fun w => (qw w).trans (by rw [hb55]))) λa A↦?_
     refine qe (v := .bool true) A 11 rfl rfl rfl rfl hP (M.sub (.cons_cons _ (List.nil_sublist _))) (fun w1 M => zd rfl zj) λa A↦?_
     refine zb (by kernel_rfl) ?_
     refine hK50 _ _ (wp_cond_true (A.ev rfl) ?_)
     refine wrl (sdm A λa A↦?_)
     refine sdo (v := .int .i64 (((((i + j) / 2) + 1 : Nat) : Int))) A (qf rfl rfl (ar_add ((in_i64 (by omega) (by omega)).trans (by omega)))) λa A↦?_
     refine sda A λa A↦?_
     refine qa ?_
     refine hK44 _ _ _ (by omega) ⟨(i + j) / 2 + 1, j, rfl, ⟨by omega, by omega, by omega, .inr (by rw [Nat.add_sub_cancel]; exact qbh he51 he52 hb55), hjr⟩, A.keep _ ⟨rfl, rfl, rfl, rfl, rfl, rfl, rfl, rfl, rfl, rfl, rfl, rfl, rfl, rfl, rfl, rfl, rfl, trivial⟩, M⟩
   ·
    have hb48' := of_decide_eq_false hb48
    refine sdc A qw hb48 λa A↦?_
    refine qa (hK47 _ _ (wp_cond_false (A.ev rfl) ?_))
    refine wp_exit (hK42 _ _ (wsk fun K56 hK56 => wsk fun K57 hK57 => wrl (sdm A λa A↦?_)))
    refine sda A λa A↦?_
    refine qa (hK57 _ _ (wp_block (zt (fun m_ a w1 => ∃ (k : Nat) (xs : List Dt), m_ = 1 + k ∧ (i ≤ k ∧ k ≤ lm ∧ xs.length = n9 ∧ mvD xs k (k - i) = mvD zs lm (lm - i)) ∧ Sl a 220 [(0, .slice (some ⟨g9, 0, none⟩) n9 c9), (1, .int .i64 (((la : Nat) : Int))), (2, .int .i64 (((lm : Nat) : Int))), (3, .int .i64 (((lb : Nat) : Int))), (4, .func (.func f) #[] cs.toArray), (14, .int .i64 (((i : Nat) : Int))), (15, .int .i64 (((j : Nat) : Int))), (17, .int .i64 (((k : Nat) : Int))), (25, .int .i64 (((lm : Nat) : Int))), (26, .int .i64 (((la : Nat) : Int))), (27, .int .i64 (((lm - la : Nat) : Int))), (28, .bool false), (77, .int .i64 (((lb : Nat) : Int))), (78, .int .i64 (((lm : Nat) : Int))), (79, .int .i64 (((lb - lm : Nat) : Int))), (80, .bool true), (81, .int .i64 (((la : Nat) : Int))), (82, .int .i64 (((lm : Nat) : Int))), (83, .int .i64 (((i : Nat) : Int))), (84, .int .i64 (((j : Nat) : Int))), (85, .bool false), (107, .int .i64 (((lm : Nat) : Int)))] ∧ Mg w0 w1 (.row 30 11 (.slice (some ⟨g9, 0, none⟩) n9 c9) n9 (cellsOf xs) :: T)) _ ⟨lm, zs, rfl, ⟨by omega, Nat.le_refl _, hzl, rfl⟩, A.keep _ ⟨rfl, rfl, rfl, rfl, rfl, rfl, rfl, rfl, rfl, rfl, rfl, rfl, rfl, rfl, rfl, rfl, rfl, rfl, rfl, rfl, rfl, rfl, trivial⟩, M⟩ ?_)))
    clear M A
    rintro m_ a w58 ⟨k, xs, rfl, hinv60, A, M⟩ K59 hK59
    obtain ⟨hk0, hk1, hxl, hin⟩ := hinv60
    refine wsk fun K61 hK61 => wsk fun K62 hK62 => wrl ?_
    iterate 2 refine sdm A λa A↦?_
    rcases tf (decide (((i : Nat) : Int) < ((k : Nat) : Int))) with hb63 | hb63
    ·
     have hb63' := of_decide_eq_true hb63
     refine sdc A ja hb63 λa A↦?_
     refine qa (hK62 _ _ (wp_cond_true (A.ev rfl) ?_))
     refine wp_skip (hK61 _ _ (wsk fun K64 hK64 => wp_block (jc (S := fun w1 => Mg w0 w1 ([])) (by kernel_rfl) ?_)))
     replace M := M.drew
     refine qe A 0 rfl rfl rfl rfl hP (M.sub (.cons _ (List.nil_sublist _))) (fun w1 M => qh rfl) λa A↦?_
     refine qe A 1 rfl rfl rfl rfl hP (M.sub (.cons _ (List.nil_sublist _))) (fun w1 M => qh rfl) λa A↦?_
     refine qe A 2 rfl rfl rfl rfl hP (M.sub (.cons _ (List.nil_sublist _))) (fun w1 M => qh rfl) λa A↦?_
     refine qe A 3 rfl rfl rfl rfl hP (M.sub (.cons _ (List.nil_sublist _))) (fun w1 M => qh rfl) λa A↦?_
     refine qe (v := .int .i64 (((k - 1 : Nat) : Int))) A 4 rfl rfl rfl rfl hP (M.sub (.cons _ (List.nil_sublist _))) (fun w1 M => qf rfl rfl (ar_sub ((in_i64 (by omega) (by omega)).trans (by omega)))) λa A↦?_
     refine qe A 5 rfl rfl rfl rfl hP (M.sub (.cons _ (List.nil_sublist _))) (fun w1 M => qh rfl) λa A↦?_
     refine qe A 6 rfl rfl rfl rfl hP (M.sub (.cons _ (List.nil_sublist _))) (fun w1 M => qh rfl) λa A↦?_
     refine qe (v := .int .i64 (((k - 1 : Nat) : Int))) A 7 rfl rfl rfl rfl hP (M.sub (.cons _ (List.nil_sublist _))) (fun w1 M => qf rfl rfl (ar_sub ((in_i64 (by omega) (by omega)).trans (by omega)))) λa A↦?_
     refine qe (v := .pointer (some ⟨g9, (k - 1) * 11, none⟩)) A 8 rfl rfl rfl rfl hP (M.sub (.cons _ (List.nil_sublist _))) (fun w1 M => qx (k := (k - 1)) Tryz.underlying28 (by kernel_rfl) rfl rfl rfl (by omega)) λa A↦?_
     refine qe A 10 rfl rfl rfl rfl hP (M.sub (.cons _ (List.nil_sublist _))) (fun w1 M => qh rfl) λa A↦?_
     refine qe A 11 rfl rfl rfl rfl hP (M.sub (.cons _ (List.nil_sublist _))) (fun w1 M => qh rfl) λa A↦?_
     refine qe (v := .pointer (some ⟨g9, k * 11, none⟩)) A 12 rfl rfl rfl rfl hP (M.sub (.cons _ (List.nil_sublist _))) (fun w1 M => qx (k := k) Tryz.underlying28 (by kernel_rfl) rfl rfl rfl (by omega)) λa A↦?_
     refine jt (rs := [9, 13]) (by kernel_rfl) (by simp) ⟨?_, ?_, trivial⟩
     ·
      obtain ⟨e65, he65⟩ : ∃ z, xs[(k - 1)]? = some z := ⟨_, List.getElem?_eq_getElem (by omega)⟩
      refine xk A 9 rfl rfl rfl rfl (jd (o := (k - 1) * 11) (cs := e65.d.cells e65.ts.length) M 0 rfl LiU_isS_30 (zl he65) rfl rfl) (M.sub (.cons _ (List.nil_sublist _))) λa A↦?_
      obtain ⟨e66, he66⟩ : ∃ z, xs[k]? = some z := ⟨_, List.getElem?_eq_getElem (by omega)⟩
      refine qi (by kernel_rfl) (xk A 13 rfl rfl rfl rfl (jd (o := k * 11) (cs := e66.d.cells e66.ts.length) M 0 rfl LiU_isS_30 (zl he66) rfl rfl) (M.sub (.cons _ (List.nil_sublist _))) ?_)
      intro a A
      refine qe (v := .pointer (some ⟨g9, k * 11, none⟩)) A 14 rfl rfl rfl rfl hP (M.sub (.cons _ (List.nil_sublist _))) (fun w1 M => qx (k := k) Tryz.underlying28 (by kernel_rfl) rfl rfl rfl (by omega)) λa A↦?_
      refine qi (by kernel_rfl) (jk (us := cellsOf (xs.set k e65)) (L' := (.row 30 11 (.slice (some ⟨g9, 0, none⟩) n9 c9) n9 (cellsOf (xs.set k e65)) :: T)) A M 15 rfl rfl rfl (jo (cs := e65.d.cells e65.ts.length) rfl rfl rfl (by kernel_rfl) M 0 rfl (by show _ + 11 ≤ _; omega) (je e65)) 0 rfl (jp (by omega) rfl) rfl ?_)
      intro w67 M
      refine ⟨(M.sub (.cons _ (List.nil_sublist _))), ?_⟩
      refine qe (v := .pointer (some ⟨g9, (k - 1) * 11, none⟩)) A 16 rfl rfl rfl rfl hP (M.sub (.cons _ (List.nil_sublist _))) (fun w1 M => qx (k := (k - 1)) Tryz.underlying28 (by kernel_rfl) rfl rfl rfl (by omega)) λa A↦?_
      refine qi (by kernel_rfl) (jk (us := cellsOf ((xs.set k e65).set (k - 1) e66)) (L' := (.row 30 11 (.slice (some ⟨g9, 0, none⟩) n9 c9) n9 (cellsOf ((xs.set k e65).set (k - 1) e66)) :: T)) A M 17 rfl rfl rfl (jo (cs := e66.d.cells e66.ts.length) rfl rfl rfl (by kernel_rfl) M 0 rfl (by show _ + 11 ≤ _; omega) (je e66)) 0 rfl (jp (by rw [List.length_set]; omega) rfl) rfl ?_)
      intro w68 M
      rw [qab he66 he65] at M
      refine ⟨(M.sub (.cons _ (List.nil_sublist _))), ?_⟩
      refine zb (by kernel_rfl) ?_
      refine hK64 _ _ (wrl (sdm A λa A↦?_))
      refine sdo (v := .int .i64 (((k - 1 : Nat) : Int))) A (qf rfl rfl (ar_sub ((in_i64 (by omega) (by omega)).trans (by omega)))) λa A↦?_
      refine sda A λa A↦?_
      refine qa ?_
      refine hK59 _ _ _ (by omega) ⟨k - 1, (swp xs k (k - 1)), rfl, ⟨by omega, by omega, by rw [yq]; exact hxl, by rw [← hin, show k - i = k - 1 - i + 1 by omega]; rfl⟩, A.keep _ ⟨rfl, rfl, rfl, rfl, rfl, rfl, rfl, rfl, rfl, rfl, rfl, rfl, rfl, rfl, rfl, rfl, rfl, rfl, rfl, rfl, rfl, rfl, trivial⟩, M⟩
     ·
      obtain ⟨e69, he69⟩ : ∃ z, xs[k]? = some z := ⟨_, List.getElem?_eq_getElem (by omega)⟩
      refine xk A 13 rfl rfl rfl rfl (jd (o := k * 11) (cs := e69.d.cells e69.ts.length) M 0 rfl LiU_isS_30 (zl he69) rfl rfl) (M.sub (.cons _ (List.nil_sublist _))) λa A↦?_
      obtain ⟨e70, he70⟩ : ∃ z, xs[(k - 1)]? = some z := ⟨_, List.getElem?_eq_getElem (by omega)⟩
      refine qi (by kernel_rfl) (xk A 9 rfl rfl rfl rfl (jd (o := (k - 1) * 11) (cs := e70.d.cells e70.ts.length) M 0 rfl LiU_isS_30 (zl he70) rfl rfl) (M.sub (.cons _ (List.nil_sublist _))) ?_)
      intro a A
      refine qe (v := .pointer (some ⟨g9, k * 11, none⟩)) A 14 rfl rfl rfl rfl hP (M.sub (.cons _ (List.nil_sublist _))) (fun w1 M => qx (k := k) Tryz.underlying28 (by kernel_rfl) rfl rfl rfl (by omega)) λa A↦?_
      refine qi (by kernel_rfl) (jk (us := cellsOf (xs.set k e70)) (L' := (.row 30 11 (.slice (some ⟨g9, 0, none⟩) n9 c9) n9 (cellsOf (xs.set k e70)) :: T)) A M 15 rfl rfl rfl (jo (cs := e70.d.cells e70.ts.length) rfl rfl rfl (by kernel_rfl) M 0 rfl (by show _ + 11 ≤ _; omega) (je e70)) 0 rfl (jp (by omega) rfl) rfl ?_)
      intro w71 M
      refine ⟨(M.sub (.cons _ (List.nil_sublist _))), ?_⟩
      refine qe (v := .pointer (some ⟨g9, (k - 1) * 11, none⟩)) A 16 rfl rfl rfl rfl hP (M.sub (.cons _ (List.nil_sublist _))) (fun w1 M => qx (k := (k - 1)) Tryz.underlying28 (by kernel_rfl) rfl rfl rfl (by omega)) λa A↦?_
      refine qi (by kernel_rfl) (jk (us := cellsOf ((xs.set k e70).set (k - 1) e69)) (L' := (.row 30 11 (.slice (some ⟨g9, 0, none⟩) n9 c9) n9 (cellsOf ((xs.set k e70).set (k - 1) e69)) :: T)) A M 17 rfl rfl rfl (jo (cs := e69.d.cells e69.ts.length) rfl rfl rfl (by kernel_rfl) M 0 rfl (by show _ + 11 ≤ _; omega) (je e69)) 0 rfl (jp (by rw [List.length_set]; omega) rfl) rfl ?_)
      intro w72 M
      rw [qab he69 he70] at M
      refine ⟨(M.sub (.cons _ (List.nil_sublist _))), ?_⟩
      refine zb (by kernel_rfl) ?_
      refine hK64 _ _ (wrl (sdm A λa A↦?_))
      refine sdo (v := .int .i64 (((k - 1 : Nat) : Int))) A (qf rfl rfl (ar_sub ((in_i64 (by omega) (by omega)).trans (by omega)))) λa A↦?_
      refine sda A λa A↦?_
      refine qa ?_
      refine hK59 _ _ _ (by omega) ⟨k - 1, (swp xs k (k - 1)), rfl, ⟨by omega, by omega, by rw [yq]; exact hxl, by rw [← hin, show k - i = k - 1 - i + 1 by omega]; rfl⟩, A.keep _ ⟨rfl, rfl, rfl, rfl, rfl, rfl, rfl, rfl, rfl, rfl, rfl, rfl, rfl, rfl, rfl, rfl, rfl, rfl, rfl, rfl, rfl, rfl, trivial⟩, M⟩
    ·
     have hb63' := of_decide_eq_false hb63
     refine sdc A ja hb63 λa A↦?_
     refine qa (hK62 _ _ (wp_cond_false (A.ev rfl) ?_))
     refine wp_exit (hK56 _ _ (wp_ret (hret _ _ (vw (v := .tuple #[]) A rfl .nil rfl ?_))))
     obtain rfl : i = j := by omega
     rw [show k - i = 0 by omega] at hin
     replace hin : xs = mvD zs lm (lm - i) := hin
     have h9 : mvD zs lm (lm - i) = mg (ltC c) zs la lm lb := one_r H (by omega) (by omega) (by omega) (by omega) hu1 hil hjr
     rw [hin, h9] at M
     exact ⟨rfl, M⟩
  ·
   have hb39' := ne_of_beq_false hb39
   refine sdc A ql hb39 λa A↦?_
   refine qa (hK38 _ _ (wp_cond_false (A.ev rfl) ?_))
   refine wp_skip (hK37 _ _ (wsk fun K73 hK73 => wrl ?_))
   iterate 2 refine sdm A λa A↦?_
   refine sdo (v := .int .i64 (((la + lb : Nat) : Int))) A (qf rfl rfl (ar_add ((in_i64 (by omega) (by omega)).trans (by omega)))) λa A↦?_
   refine sdo (v := .int .u64 (((la + lb : Nat) : Int))) A (jg rfl (ar_conv Tryz.underlying3 Tryz.underlying109 (qwi (by omega) (by omega)))) λa A↦?_
   refine sdo (v := .int .u64 ((((la + lb) / 2 : Nat) : Int))) A (qf rfl rfl (ar_shr (n := 1) rfl rfl (show ((la + lb : Nat) : Int) / 2 ^ 1 = (((la + lb) / 2 : Nat) : Int) from by rw [show ((2 : Int) ^ 1) = 2 from rfl]; omega))) λa A↦?_
   refine sdo (v := .int .i64 ((((la + lb) / 2 : Nat) : Int))) A (jg rfl (ar_conv Tryz.underlying109 Tryz.underlying3 (in_i64 (by omega) (by omega)))) λa A↦?_
   refine sda A λa A↦?_
   refine qa (hK73 _ _ (wsk fun K74 hK74 => wrl ?_))
   iterate 2 refine sdm A λa A↦?_
   refine sdo (v := .int .i64 (((((la + lb) / 2) + lm : Nat) : Int))) A (qf rfl rfl (ar_add ((in_i64 (by omega) (by omega)).trans (by omega)))) λa A↦?_
   refine sda A λa A↦?_
   refine qa (hK74 _ _ (wsk fun K75 hK75 => wrl ?_))
   iterate 2 refine sda A λa A↦?_
   refine qa (hK75 _ _ (wsk fun K76 hK76 => ?_))
   have hJ77 : ∀ a w1, (∃ (i3 : Nat) (j3 : Nat), (la ≤ i3 ∧ i3 ≤ j3 ∧ j3 ≤ lm ∧ j3 ≤ ((la + lb) / 2) ∧ (((la + lb) / 2) + lm) ≤ i3 + lb ∧ (i3 = la ∨ (((la + lb) / 2) + lm) - i3 = lb) ∧ (j3 = lm ∨ (((la + lb) / 2) + lm) - j3 = lm)) ∧ Sl a 220 [(0, .slice (some ⟨g9, 0, none⟩) n9 c9), (1, .int .i64 (((la : Nat) : Int))), (2, .int .i64 (((lm : Nat) : Int))), (3, .int .i64 (((lb : Nat) : Int))), (4, .func (.func f) #[] cs.toArray), (18, .int .i64 ((((la + lb) / 2 : Nat) : Int))), (19, .int .i64 (((((la + lb) / 2) + lm : Nat) : Int))), (20, .int .i64 (((i3 : Nat) : Int))), (21, .int .i64 (((j3 : Nat) : Int))), (25, .int .i64 (((lm : Nat) : Int))), (26, .int .i64 (((la : Nat) : Int))), (27, .int .i64 (((lm - la : Nat) : Int))), (28, .bool false), (77, .int .i64 (((lb : Nat) : Int))), (78, .int .i64 (((lm : Nat) : Int))), (79, .int .i64 (((lb - lm : Nat) : Int))), (80, .bool false), (129, .int .i64 (((la : Nat) : Int))), (130, .int .i64 (((lb : Nat) : Int))), (131, .int .i64 (((la + lb : Nat) : Int))), (132, .int .u64 (((la + lb : Nat) : Int))), (133, .int .u64 ((((la + lb) / 2 : Nat) : Int))), (134, .int .i64 ((((la + lb) / 2 : Nat) : Int))), (135, .int .i64 ((((la + lb) / 2 : Nat) : Int))), (136, .int .i64 (((lm : Nat) : Int))), (137, .int .i64 (((((la + lb) / 2) + lm : Nat) : Int)))] ∧ Mg w0 w1 (.row 30 11 (.slice (some ⟨g9, 0, none⟩) n9 c9) n9 (cellsOf zs) :: T)) → K76 a w1 := by
    clear A M
    rintro a w78 ⟨i3, j3, hf79, A, M⟩
    obtain ⟨q1, q2, q3, q4, q5, q6, q7⟩ := hf79
    refine hK76 _ _ (wsk fun K80 hK80 => wrl (sdm A λa A↦?_))
    refine sdo (v := .int .i64 ((((((la + lb) / 2) + lm) - 1 : Nat) : Int))) A (qf rfl rfl (ar_sub ((in_i64 (by omega) (by omega)).trans (by omega)))) λa A↦?_
    refine sda A λa A↦?_
    refine qa (hK80 _ _ (wsk fun K81 hK81 => wp_block (zt (fun m_ a w1 => ∃ (i : Nat) (j : Nat), m_ = 1 + (j - i) ∧ (i3 ≤ i ∧ i ≤ j ∧ j ≤ j3 ∧ (i = la ∨ (((la + lb) / 2) + lm) - i = lb ∨ ltA (ltC c) zs ((((la + lb) / 2) + lm) - i) (i - 1) = false) ∧ (j = lm ∨ (((la + lb) / 2) + lm) - j = lm ∨ ltA (ltC c) zs ((((la + lb) / 2) + lm) - j - 1) j = true)) ∧ Sl a 220 [(0, .slice (some ⟨g9, 0, none⟩) n9 c9), (1, .int .i64 (((la : Nat) : Int))), (2, .int .i64 (((lm : Nat) : Int))), (3, .int .i64 (((lb : Nat) : Int))), (4, .func (.func f) #[] cs.toArray), (18, .int .i64 ((((la + lb) / 2 : Nat) : Int))), (19, .int .i64 (((((la + lb) / 2) + lm : Nat) : Int))), (20, .int .i64 (((i : Nat) : Int))), (21, .int .i64 (((j : Nat) : Int))), (22, .int .i64 ((((((la + lb) / 2) + lm) - 1 : Nat) : Int))), (25, .int .i64 (((lm : Nat) : Int))), (26, .int .i64 (((la : Nat) : Int))), (27, .int .i64 (((lm - la : Nat) : Int))), (28, .bool false), (77, .int .i64 (((lb : Nat) : Int))), (78, .int .i64 (((lm : Nat) : Int))), (79, .int .i64 (((lb - lm : Nat) : Int))), (80, .bool false), (129, .int .i64 (((la : Nat) : Int))), (130, .int .i64 (((lb : Nat) : Int))), (131, .int .i64 (((la + lb : Nat) : Int))), (132, .int .u64 (((la + lb : Nat) : Int))), (133, .int .u64 ((((la + lb) / 2 : Nat) : Int))), (134, .int .i64 ((((la + lb) / 2 : Nat) : Int))), (135, .int .i64 ((((la + lb) / 2 : Nat) : Int))), (136, .int .i64 (((lm : Nat) : Int))), (137, .int .i64 (((((la + lb) / 2) + lm : Nat) : Int))), (147, .int .i64 (((((la + lb) / 2) + lm : Nat) : Int))), (148, .int .i64 ((((((la + lb) / 2) + lm) - 1 : Nat) : Int)))] ∧ Mg w0 w1 (.row 30 11 (.slice (some ⟨g9, 0, none⟩) n9 c9) n9 (cellsOf zs) :: T)) _ ⟨i3, j3, rfl, ⟨Nat.le_refl _, q2, Nat.le_refl _, q6.elim .inl fun h => .inr (.inl h), q7.elim .inl fun h => .inr (.inl h)⟩, A.keep _ ⟨rfl, rfl, rfl, rfl, rfl, rfl, rfl, rfl, rfl, rfl, rfl, rfl, rfl, rfl, rfl, rfl, rfl, rfl, rfl, rfl, rfl, rfl, rfl, rfl, rfl, rfl, rfl, rfl, rfl, trivial⟩, M⟩ ?_)))
    clear M A
    rintro m_ a w82 ⟨i, j, rfl, hinv84, A, M⟩ K83 hK83
    obtain ⟨hi0, hi1, hi2, hil, hjr⟩ := hinv84
    refine wsk fun K85 hK85 => wsk fun K86 hK86 => wrl ?_
    iterate 2 refine sdm A λa A↦?_
    rcases tf (decide (((i : Nat) : Int) < ((j : Nat) : Int))) with hb87 | hb87
    ·
     have hb87' := of_decide_eq_true hb87
     refine sdc A qw hb87 λa A↦?_
     refine qa (hK86 _ _ (wp_cond_true (A.ev rfl) ?_))
     refine wp_skip (hK85 _ _ (wp_block (wsk fun K88 hK88 => wrl ?_)))
     iterate 2 refine sdm A λa A↦?_
     refine sdo (v := .int .i64 (((i + j : Nat) : Int))) A (qf rfl rfl (ar_add ((in_i64 (by omega) (by omega)).trans (by omega)))) λa A↦?_
     refine sdo (v := .int .u64 (((i + j : Nat) : Int))) A (jg rfl (ar_conv Tryz.underlying3 Tryz.underlying109 (qwi (by omega) (by omega)))) λa A↦?_
     refine sdo (v := .int .u64 ((((i + j) / 2 : Nat) : Int))) A (qf rfl rfl (ar_shr (n := 1) rfl rfl (show ((i + j : Nat) : Int) / 2 ^ 1 = (((i + j) / 2 : Nat) : Int) from by rw [show ((2 : Int) ^ 1) = 2 from rfl]; omega))) λa A↦?_
     refine sdo (v := .int .i64 ((((i + j) / 2 : Nat) : Int))) A (jg rfl (ar_conv Tryz.underlying109 Tryz.underlying3 (in_i64 (by omega) (by omega)))) λa A↦?_
     refine sda A λa A↦?_
     refine qa (hK88 _ _ (wsk fun K89 hK89 => jc (S := fun w1 => Mg w0 w1 (.row 30 11 (.slice (some ⟨g9, 0, none⟩) n9 c9) n9 (cellsOf zs) :: [])) (by kernel_rfl) ?_))
     replace M := M.drew
     refine qe A 0 rfl rfl rfl rfl hP (M.sub (.cons_cons _ (List.nil_sublist _))) (fun w1 M => qh rfl) λa A↦?_
     refine qe A 1 rfl rfl rfl rfl hP (M.sub (.cons_cons _ (List.nil_sublist _))) (fun w1 M => qh rfl) λa A↦?_
     refine qe A 2 rfl rfl rfl rfl hP (M.sub (.cons_cons _ (List.nil_sublist _))) (fun w1 M => qh rfl) λa A↦?_
     refine qe A 3 rfl rfl rfl rfl hP (M.sub (.cons_cons _ (List.nil_sublist _))) (fun w1 M => qh rfl) λa A↦?_
     refine qe (v := .int .i64 (((((((la + lb) / 2) + lm) - 1) - ((i + j) / 2) : Nat) : Int))) A 4 rfl rfl rfl rfl hP (M.sub (.cons_cons _ (List.nil_sublist _))) (fun w1 M => qf rfl rfl (ar_sub ((in_i64 (by omega) (by omega)).trans (by omega)))) λa A↦?_
     refine qe (v := .pointer (some ⟨g9, (((((la + lb) / 2) + lm) - 1) - ((i + j) / 2)) * 11, none⟩)) A 5 rfl rfl rfl rfl hP (M.sub (.cons_cons _ (List.nil_sublist _))) (fun w1 M => qx (k := (((((la + lb) / 2) + lm) - 1) - ((i + j) / 2))) Tryz.underlying28 (by kernel_rfl) rfl rfl rfl (by omega)) λa A↦?_
     obtain ⟨e90, he90⟩ : ∃ z, zs[(((((la + lb) / 2) + lm) - 1) - ((i + j) / 2))]? = some z := ⟨_, List.getElem?_eq_getElem (by omega)⟩
     refine qe A 6 rfl rfl rfl rfl hP (M.sub (.cons_cons _ (List.nil_sublist _))) (fun w1 M => jd (o := (((((la + lb) / 2) + lm) - 1) - ((i + j) / 2)) * 11) (cs := e90.d.cells e90.ts.length) M 0 rfl LiU_isS_30 (zl he90) rfl rfl) λa A↦?_
     refine qe A 7 rfl rfl rfl rfl hP (M.sub (.cons_cons _ (List.nil_sublist _))) (fun w1 M => qh rfl) λa A↦?_
     refine qe A 8 rfl rfl rfl rfl hP (M.sub (.cons_cons _ (List.nil_sublist _))) (fun w1 M => qh rfl) λa A↦?_
     refine qe (v := .pointer (some ⟨g9, ((i + j) / 2) * 11, none⟩)) A 9 rfl rfl rfl rfl hP (M.sub (.cons_cons _ (List.nil_sublist _))) (fun w1 M => qx (k := ((i + j) / 2)) Tryz.underlying28 (by kernel_rfl) rfl rfl rfl (by omega)) λa A↦?_
     obtain ⟨e91, he91⟩ : ∃ z, zs[((i + j) / 2)]? = some z := ⟨_, List.getElem?_eq_getElem (by omega)⟩
     refine qe A 10 rfl rfl rfl rfl hP (M.sub (.cons_cons _ (List.nil_sublist _))) (fun w1 M => jd (o := ((i + j) / 2) * 11) (cs := e91.d.cells e91.ts.length) M 0 rfl LiU_isS_30 (zl he91) rfl rfl) λa A↦?_
     refine qi (by kernel_rfl) (za A 11 rfl rfl rfl rfl (yv rfl rfl hF.inv) (hF.run e90 e91 _ (hsub _ (List.mem_of_getElem? he90)) (hsub _ (List.mem_of_getElem? he91)) (M.sub (.cons _ (List.Sublist.refl _)))) ?_)
     rintro _ w93 ⟨rfl, hb92⟩
     replace M := M.call hb92
     refine ⟨_, rfl, (M.sub (.cons_cons _ (List.nil_sublist _))), ?_⟩
     intro a A
     rcases tf (decide ((c e90 e91) < 0)) with hb94 | hb94
     ·
      have hb94' := of_decide_eq_true hb94
      refine qe (v := .bool true) A 12 rfl rfl rfl rfl hP (M.sub (.cons_cons _ (List.nil_sublist _))) (fun w1 M => qf rfl rfl (fun w => (qw w).trans (by rw [hb94]))) λa A↦?_
      refine qe (v := .bool false) A 13 rfl rfl rfl rfl hP (M.sub (.cons_cons _ (List.nil_sublist _))) (fun w1 M => zd rfl zj) λa A↦?_
      refine zb (by kernel_rfl) ?_
      refine hK89 _ _ (wp_cond_false (A.ev rfl) ?_)
      refine wrl (sdm A λa A↦?_)
      refine sda A λa A↦?_
      refine qa ?_
      refine hK83 _ _ _ (by omega) ⟨i, (i + j) / 2, rfl, ⟨by omega, by omega, by omega, hil, .inr (.inr (by rw [show (((la + lb) / 2) + lm) - (i + j) / 2 - 1 = (((la + lb) / 2) + lm) - 1 - (i + j) / 2 by omega]; exact qbh he90 he91 hb94))⟩, A.keep _ ⟨rfl, rfl, rfl, rfl, rfl, rfl, rfl, rfl, rfl, rfl, rfl, rfl, rfl, rfl, rfl, rfl, rfl, rfl, rfl, rfl, rfl, rfl, rfl, rfl, rfl, rfl, rfl, rfl, rfl, trivial⟩, M⟩
     ·
      have hb94' := of_decide_eq_false hb94
      refine qe (v := .bool false) A 12 rfl rfl rfl rfl hP (M.sub (.cons_cons _ (List.nil_sublist _))) (fun w1 M => qf rfl rfl (fun w => (qw w).trans (by rw [hb94]))) λa A↦?_
      refine qe (v := .bool true) A 13 rfl rfl rfl rfl hP (M.sub (.cons_cons _ (List.nil_sublist _))) (fun w1 M => zd rfl zj) λa A↦?_
      refine zb (by kernel_rfl) ?_
      refine hK89 _ _ (wp_cond_true (A.ev rfl) ?_)
      refine wrl (sdm A λa A↦?_)
      refine sdo (v := .int .i64 (((((i + j) / 2) + 1 : Nat) : Int))) A (qf rfl rfl (ar_add ((in_i64 (by omega) (by omega)).trans (by omega)))) λa A↦?_
      refine sda A λa A↦?_
      refine qa ?_
      refine hK83 _ _ _ (by omega) ⟨(i + j) / 2 + 1, j, rfl, ⟨by omega, by omega, by omega, .inr (.inr (by rw [show (((la + lb) / 2) + lm) - ((i + j) / 2 + 1) = (((la + lb) / 2) + lm) - 1 - (i + j) / 2 by omega, Nat.add_sub_cancel]; exact qbh he90 he91 hb94)), hjr⟩, A.keep _ ⟨rfl, rfl, rfl, rfl, rfl, rfl, rfl, rfl, rfl, rfl, rfl, rfl, rfl, rfl, rfl, rfl, rfl, rfl, rfl, rfl, rfl, rfl, rfl, rfl, rfl, rfl, rfl, rfl, rfl, trivial⟩, M⟩
    ·
     have hb87' := of_decide_eq_false hb87
     refine sdc A qw hb87 λa A↦?_
     refine qa (hK86 _ _ (wp_cond_false (A.ev rfl) ?_))
     refine wp_exit (hK81 _ _ (wsk fun K95 hK95 => wrl ?_))
     iterate 2 refine sdm A λa A↦?_
     refine sdo (v := .int .i64 ((((((la + lb) / 2) + lm) - i : Nat) : Int))) A (qf rfl rfl (ar_sub ((in_i64 (by omega) (by omega)).trans (by omega)))) λa A↦?_
     refine sda A λa A↦?_
     refine qa (hK95 _ _ (wsk fun K96 hK96 => ?_))
     have hJ97 : ∀ a w1, (∃ (xs : List Dt), (xs = rot zs i lm ((((la + lb) / 2) + lm) - i)) ∧ Sl a 220 [(0, .slice (some ⟨g9, 0, none⟩) n9 c9), (1, .int .i64 (((la : Nat) : Int))), (2, .int .i64 (((lm : Nat) : Int))), (3, .int .i64 (((lb : Nat) : Int))), (4, .func (.func f) #[] cs.toArray), (18, .int .i64 ((((la + lb) / 2 : Nat) : Int))), (19, .int .i64 (((((la + lb) / 2) + lm : Nat) : Int))), (20, .int .i64 (((i : Nat) : Int))), (21, .int .i64 (((j : Nat) : Int))), (22, .int .i64 ((((((la + lb) / 2) + lm) - 1 : Nat) : Int))), (24, .int .i64 ((((((la + lb) / 2) + lm) - i : Nat) : Int))), (25, .int .i64 (((lm : Nat) : Int))), (26, .int .i64 (((la : Nat) : Int))), (27, .int .i64 (((lm - la : Nat) : Int))), (28, .bool false), (77, .int .i64 (((lb : Nat) : Int))), (78, .int .i64 (((lm : Nat) : Int))), (79, .int .i64 (((lb - lm : Nat) : Int))), (80, .bool false), (129, .int .i64 (((la : Nat) : Int))), (130, .int .i64 (((lb : Nat) : Int))), (131, .int .i64 (((la + lb : Nat) : Int))), (132, .int .u64 (((la + lb : Nat) : Int))), (133, .int .u64 ((((la + lb) / 2 : Nat) : Int))), (134, .int .i64 ((((la + lb) / 2 : Nat) : Int))), (135, .int .i64 ((((la + lb) / 2 : Nat) : Int))), (136, .int .i64 (((lm : Nat) : Int))), (137, .int .i64 (((((la + lb) / 2) + lm : Nat) : Int))), (147, .int .i64 (((((la + lb) / 2) + lm : Nat) : Int))), (148, .int .i64 ((((((la + lb) / 2) + lm) - 1 : Nat) : Int))), (149, .int .i64 (((i : Nat) : Int))), (150, .int .i64 (((j : Nat) : Int))), (151, .bool false), (175, .int .i64 (((((la + lb) / 2) + lm : Nat) : Int))), (176, .int .i64 (((i : Nat) : Int))), (177, .int .i64 ((((((la + lb) / 2) + lm) - i : Nat) : Int)))] ∧ Mg w0 w1 (.row 30 11 (.slice (some ⟨g9, 0, none⟩) n9 c9) n9 (cellsOf xs) :: T)) → K96 a w1 := by
      clear A M
      rintro a w98 ⟨xs, hf99, A, M⟩
      have hxe := hf99
      have hij : i = j := by omega
      rw [← hij] at hjr
      have hcut : Cut (ltC c) zs la lm lb i ((la + lb) / 2) ((((la + lb) / 2) + lm) - i) := cut_at H (by omega) (by omega) (by omega) (by omega) (by omega) (by omega) hu1 hu2 hil hjr
      have hxl : xs.length = n9 := by rw [hxe, zzb (by omega) (by omega) (by omega)]; exact hzl
      have hxs : ∀ t ∈ xs, t ∈ ts := fun t ht => hsub t (zza (by omega) (by omega) (by omega) (hxe ▸ ht))
      refine hK96 _ _ (wsk fun K100 hK100 => ?_)
      have hJ101 : ∀ a w1, (∃ (ys : List Dt), (ys = mg (ltC c) xs la i ((la + lb) / 2)) ∧ Sl a 220 [(0, .slice (some ⟨g9, 0, none⟩) n9 c9), (1, .int .i64 (((la : Nat) : Int))), (2, .int .i64 (((lm : Nat) : Int))), (3, .int .i64 (((lb : Nat) : Int))), (4, .func (.func f) #[] cs.toArray), (18, .int .i64 ((((la + lb) / 2 : Nat) : Int))), (19, .int .i64 (((((la + lb) / 2) + lm : Nat) : Int))), (20, .int .i64 (((i : Nat) : Int))), (21, .int .i64 (((j : Nat) : Int))), (22, .int .i64 ((((((la + lb) / 2) + lm) - 1 : Nat) : Int))), (24, .int .i64 ((((((la + lb) / 2) + lm) - i : Nat) : Int))), (25, .int .i64 (((lm : Nat) : Int))), (26, .int .i64 (((la : Nat) : Int))), (27, .int .i64 (((lm - la : Nat) : Int))), (28, .bool false), (77, .int .i64 (((lb : Nat) : Int))), (78, .int .i64 (((lm : Nat) : Int))), (79, .int .i64 (((lb - lm : Nat) : Int))), (80, .bool false), (129, .int .i64 (((la : Nat) : Int))), (130, .int .i64 (((lb : Nat) : Int))), (131, .int .i64 (((la + lb : Nat) : Int))), (132, .int .u64 (((la + lb : Nat) : Int))), (133, .int .u64 ((((la + lb) / 2 : Nat) : Int))), (134, .int .i64 ((((la + lb) / 2 : Nat) : Int))), (135, .int .i64 ((((la + lb) / 2 : Nat) : Int))), (136, .int .i64 (((lm : Nat) : Int))), (137, .int .i64 (((((la + lb) / 2) + lm : Nat) : Int))), (147, .int .i64 (((((la + lb) / 2) + lm : Nat) : Int))), (148, .int .i64 ((((((la + lb) / 2) + lm) - 1 : Nat) : Int))), (149, .int .i64 (((i : Nat) : Int))), (150, .int .i64 (((j : Nat) : Int))), (151, .bool false), (175, .int .i64 (((((la + lb) / 2) + lm : Nat) : Int))), (176, .int .i64 (((i : Nat) : Int))), (177, .int .i64 ((((((la + lb) / 2) + lm) - i : Nat) : Int)))] ∧ Mg w0 w1 (.row 30 11 (.slice (some ⟨g9, 0, none⟩) n9 c9) n9 (cellsOf ys) :: T)) → K100 a w1 := by
       clear A M
       rintro a w102 ⟨ys, hf103, A, M⟩
       have hye := hf103
       have hyl : ys.length = n9 := by rw [hye, mg_len (by omega) (by omega) (by omega)]; exact hxl
       have hys : ∀ t ∈ ys, t ∈ ts := fun t ht => hxs t (ztd (by omega) (by omega) (by omega) (hye ▸ ht))
       refine hK100 _ _ (wsk fun K104 hK104 => wrl ?_)
       iterate 2 refine sdm A λa A↦?_
       rcases tf (decide ((((la + lb) / 2 : Nat) : Int) < (((((la + lb) / 2) + lm) - i : Nat) : Int))) with hb105 | hb105
       ·
        have hb105' := of_decide_eq_true hb105
        refine sdc A qw hb105 λa A↦?_
        iterate 3 refine sdm A λa A↦?_
        rcases tf (decide ((((((la + lb) / 2) + lm) - i : Nat) : Int) < ((lb : Nat) : Int))) with hb106 | hb106
        ·
         have hb106' := of_decide_eq_true hb106
         refine sdc A qw hb106 λa A↦?_
         refine sdk (v := .bool true) A λa A↦?_
         refine qa (hK104 _ _ (wp_cond_true (A.ev rfl) ?_))
         refine wrl ?_
         iterate 5 refine sdm A λa A↦?_
         refine sct A (ef rfl rfl) (ih (zs := ys) (by omega) hyl hys (by omega) (by omega) (by omega) (by rw [hye, hxe]; exact hcut.u3) (by rw [hye, hxe]; exact hcut.u4) M) ?_
         rintro _ w108 ⟨rfl, hM107⟩
         replace M : Mg w0 w108 (.row 30 11 (.slice (some ⟨g9, 0, none⟩) n9 c9) n9 (cellsOf (mg (ltC c) ys ((la + lb) / 2) ((((la + lb) / 2) + lm) - i) lb)) :: T) := hM107
         refine ⟨_, rfl, ?_⟩
         intro a A
         refine qa (hnorm _ _ (vw (v := .tuple #[]) A rfl .nil rfl ?_))
         rw [hye, hxe, hcut.eq] at M
         exact ⟨rfl, M⟩
        ·
         have hb106' := of_decide_eq_false hb106
         refine sdc A qw hb106 λa A↦?_
         refine sdk (v := .bool false) A λa A↦?_
         refine qa (hK104 _ _ (wp_cond_false (A.ev rfl) ?_))
         refine wp_skip (hnorm _ _ (vw (v := .tuple #[]) A rfl .nil rfl ?_))
         have hye2 : ys = mg (ltC c) ys ((la + lb) / 2) ((((la + lb) / 2) + lm) - i) lb := (qme (by omega) (by omega) (by omega) (by omega)).symm
         rw [hye2] at M
         rw [hye, hxe, hcut.eq] at M
         exact ⟨rfl, M⟩
       ·
        have hb105' := of_decide_eq_false hb105
        refine sdc A qw hb105 λa A↦?_
        refine sdm A λa A↦?_
        iterate 3 refine qk A rfl rfl rfl λa A↦?_
        refine sdk (v := .bool false) A λa A↦?_
        refine qa (hK104 _ _ (wp_cond_false (A.ev rfl) ?_))
        refine wp_skip (hnorm _ _ (vw (v := .tuple #[]) A rfl .nil rfl ?_))
        have hye2 : ys = mg (ltC c) ys ((la + lb) / 2) ((((la + lb) / 2) + lm) - i) lb := (qme (by omega) (by omega) (by omega) (by omega)).symm
        rw [hye2] at M
        rw [hye, hxe, hcut.eq] at M
        exact ⟨rfl, M⟩
      refine wsk fun K109 hK109 => wrl ?_
      iterate 2 refine sdm A λa A↦?_
      rcases tf (decide (((la : Nat) : Int) < ((i : Nat) : Int))) with hb110 | hb110
      ·
       have hb110' := of_decide_eq_true hb110
       refine sdc A qw hb110 λa A↦?_
       iterate 3 refine sdm A λa A↦?_
       rcases tf (decide (((i : Nat) : Int) < (((la + lb) / 2 : Nat) : Int))) with hb111 | hb111
       ·
        have hb111' := of_decide_eq_true hb111
        refine sdc A qw hb111 λa A↦?_
        refine sdk (v := .bool true) A λa A↦?_
        refine qa (hK109 _ _ (wp_cond_true (A.ev rfl) ?_))
        refine wrl ?_
        iterate 5 refine sdm A λa A↦?_
        refine sct A (ef rfl rfl) (ih (zs := xs) (by omega) hxl hxs (by omega) (by omega) (by omega) (by rw [hxe]; exact hcut.u1) (by rw [hxe]; exact hcut.u2) M) ?_
        rintro _ w113 ⟨rfl, hM112⟩
        replace M : Mg w0 w113 (.row 30 11 (.slice (some ⟨g9, 0, none⟩) n9 c9) n9 (cellsOf (mg (ltC c) xs la i ((la + lb) / 2))) :: T) := hM112
        refine ⟨_, rfl, ?_⟩
        intro a A
        refine qa ?_
        exact hJ101 _ _ ⟨(mg (ltC c) xs la i ((la + lb) / 2)), rfl, A.keep _ ⟨rfl, rfl, rfl, rfl, rfl, rfl, rfl, rfl, rfl, rfl, rfl, rfl, rfl, rfl, rfl, rfl, rfl, rfl, rfl, rfl, rfl, rfl, rfl, rfl, rfl, rfl, rfl, rfl, rfl, rfl, rfl, rfl, rfl, rfl, rfl, rfl, trivial⟩, M⟩
       ·
        have hb111' := of_decide_eq_false hb111
        refine sdc A qw hb111 λa A↦?_
        refine sdk (v := .bool false) A λa A↦?_
        refine qa (hK109 _ _ (wp_cond_false (A.ev rfl) ?_))
        refine wp_skip ?_
        exact hJ101 _ _ ⟨xs, (qme (by omega) (by omega) (by omega) (by omega)).symm, A.keep _ ⟨rfl, rfl, rfl, rfl, rfl, rfl, rfl, rfl, rfl, rfl, rfl, rfl, rfl, rfl, rfl, rfl, rfl, rfl, rfl, rfl, rfl, rfl, rfl, rfl, rfl, rfl, rfl, rfl, rfl, rfl, rfl, rfl, rfl, rfl, rfl, rfl, trivial⟩, M⟩
      ·
       have hb110' := of_decide_eq_false hb110
       refine sdc A qw hb110 λa A↦?_
       refine sdm A λa A↦?_
       iterate 3 refine qk A rfl rfl rfl λa A↦?_
       refine sdk (v := .bool false) A λa A↦?_
       refine qa (hK109 _ _ (wp_cond_false (A.ev rfl) ?_))
       refine wp_skip ?_
       exact hJ101 _ _ ⟨xs, (qme (by omega) (by omega) (by omega) (by omega)).symm, A.keep _ ⟨rfl, rfl, rfl, rfl, rfl, rfl, rfl, rfl, rfl, rfl, rfl, rfl, rfl, rfl, rfl, rfl, rfl, rfl, rfl, rfl, rfl, rfl, rfl, rfl, rfl, rfl, rfl, rfl, rfl, rfl, rfl, rfl, rfl, rfl, rfl, rfl, trivial⟩, M⟩
     refine wsk fun K114 hK114 => wrl ?_
     iterate 2 refine sdm A λa A↦?_
     rcases tf (decide (((i : Nat) : Int) < ((lm : Nat) : Int))) with hb115 | hb115
     ·
      have hb115' := of_decide_eq_true hb115
      refine sdc A qw hb115 λa A↦?_
      iterate 3 refine sdm A λa A↦?_
      rcases tf (decide (((lm : Nat) : Int) < (((((la + lb) / 2) + lm) - i : Nat) : Int))) with hb116 | hb116
      ·
       have hb116' := of_decide_eq_true hb116
       refine sdc A qw hb116 λa A↦?_
       refine sdk (v := .bool true) A λa A↦?_
       refine qa (hK114 _ _ (wp_cond_true (A.ev rfl) ?_))
       refine wrl ?_
       iterate 5 refine sdm A λa A↦?_
       refine sct A (ef rfl rfl) (zze (zs := zs) hl hzl (by omega) (by omega) (by omega) M) ?_
       rintro _ w118 ⟨rfl, hM117⟩
       replace M : Mg w0 w118 (.row 30 11 (.slice (some ⟨g9, 0, none⟩) n9 c9) n9 (cellsOf (rot zs i lm ((((la + lb) / 2) + lm) - i))) :: T) := hM117
       refine ⟨_, rfl, ?_⟩
       intro a A
       refine qa ?_
       exact hJ97 _ _ ⟨(rot zs i lm ((((la + lb) / 2) + lm) - i)), rfl, A.keep _ ⟨rfl, rfl, rfl, rfl, rfl, rfl, rfl, rfl, rfl, rfl, rfl, rfl, rfl, rfl, rfl, rfl, rfl, rfl, rfl, rfl, rfl, rfl, rfl, rfl, rfl, rfl, rfl, rfl, rfl, rfl, rfl, rfl, rfl, rfl, rfl, rfl, trivial⟩, M⟩
      ·
       have hb116' := of_decide_eq_false hb116
       refine sdc A qw hb116 λa A↦?_
       refine sdk (v := .bool false) A λa A↦?_
       refine qa (hK114 _ _ (wp_cond_false (A.ev rfl) ?_))
       refine wp_skip ?_
       exact hJ97 _ _ ⟨zs, (zag (by omega) (by omega) (by omega) (by omega)).symm, A.keep _ ⟨rfl, rfl, rfl, rfl, rfl, rfl, rfl, rfl, rfl, rfl, rfl, rfl, rfl, rfl, rfl, rfl, rfl, rfl, rfl, rfl, rfl, rfl, rfl, rfl, rfl, rfl, rfl, rfl, rfl, rfl, rfl, rfl, rfl, rfl, rfl, rfl, trivial⟩, M⟩
     ·
      have hb115' := of_decide_eq_false hb115
      refine sdc A qw hb115 λa A↦?_
      refine sdm A λa A↦?_
      iterate 3 refine qk A rfl rfl rfl λa A↦?_
      refine sdk (v := .bool false) A λa A↦?_
      refine qa (hK114 _ _ (wp_cond_false (A.ev rfl) ?_))
      refine wp_skip ?_
      exact hJ97 _ _ ⟨zs, (zag (by omega) (by omega) (by omega) (by omega)).symm, A.keep _ ⟨rfl, rfl, rfl, rfl, rfl, rfl, rfl, rfl, rfl, rfl, rfl, rfl, rfl, rfl, rfl, rfl, rfl, rfl, rfl, rfl, rfl, rfl, rfl, rfl, rfl, rfl, rfl, rfl, rfl, rfl, rfl, rfl, rfl, rfl, rfl, rfl, trivial⟩, M⟩
   refine wsk fun K119 hK119 => wrl ?_
   iterate 2 refine sdm A λa A↦?_
   rcases tf (decide ((((la + lb) / 2 : Nat) : Int) < ((lm : Nat) : Int))) with hb120 | hb120
   ·
    have hb120' := of_decide_eq_true hb120
    refine sdc A ja hb120 λa A↦?_
    refine qa (hK119 _ _ (wp_cond_true (A.ev rfl) ?_))
    refine wsk fun K121 hK121 => wrl ?_
    iterate 2 refine sdm A λa A↦?_
    refine sdo (v := .int .i64 ((((((la + lb) / 2) + lm) - lb : Nat) : Int))) A (qf rfl rfl (ar_sub ((in_i64 (by omega) (by omega)).trans (by omega)))) λa A↦?_
    refine sda A λa A↦?_
    refine qa (hK121 _ _ (wrl (sdm A λa A↦?_)))
    refine sda A λa A↦?_
    refine qa ?_
    exact hJ77 _ _ ⟨(((la + lb) / 2) + lm) - lb, (la + lb) / 2, ⟨by omega, by omega, by omega, by omega, by omega, by omega, by omega⟩, A.keep _ ⟨rfl, rfl, rfl, rfl, rfl, rfl, rfl, rfl, rfl, rfl, rfl, rfl, rfl, rfl, rfl, rfl, rfl, rfl, rfl, rfl, rfl, rfl, rfl, rfl, rfl, rfl, trivial⟩, M⟩
   ·
    have hb120' := of_decide_eq_false hb120
    refine sdc A ja hb120 λa A↦?_
    refine qa (hK119 _ _ (wp_cond_false (A.ev rfl) ?_))
    refine wsk fun K122 hK122 => wrl (sdm A λa A↦?_)
    refine sda A λa A↦?_
    refine qa (hK122 _ _ (wrl (sdm A λa A↦?_)))
    refine sda A λa A↦?_
    refine qa ?_
    exact hJ77 _ _ ⟨la, lm, ⟨by omega, by omega, by omega, by omega, by omega, by omega, by omega⟩, A.keep _ ⟨rfl, rfl, rfl, rfl, rfl, rfl, rfl, rfl, rfl, rfl, rfl, rfl, rfl, rfl, rfl, rfl, rfl, rfl, rfl, rfl, rfl, rfl, rfl, rfl, rfl, rfl, trivial⟩, M⟩
theorem qxb {f : FuncId} {cs : List Value} {c : Dt → Dt → Int} {ts : List Dt} {w0 : World} {g9 c9 n9 : Nat} {T : List Ck} (hl : n9 ≤ 1000000000) (hF : Cmps Tryz.prog f cs w0 T ts c) (H : Swo (ltC c)) : ∀ d, SymC f cs c ts w0 g9 c9 n9 T d
 | 0 => fun hd _ _ h1 h2 => by omega
 | d + 1 => zth hl hF H (qxb hl hF H d)
theorem zfh {w0 w : World} {g9 c9 n9 : Nat} {zs : List Dt} {T : List Ck} (hl : n9 ≤ 1000000000) (hzl : zs.length = n9) {f : FuncId} {cs : List Value} {c : Dt → Dt → Int} {ts : List Dt} (hF : Cmps Tryz.prog f cs w0 T ts c) (hsub : ∀ t ∈ zs, t ∈ ts) (H : Swo (ltC c)) (hM0 : Mg w0 w (.row 30 11 (.slice (some ⟨g9, 0, none⟩) n9 c9) n9 (cellsOf zs) :: T)) : Calls Tryz.prog 78 #[.slice (some ⟨g9, 0, none⟩) n9 c9, .int .i64 ((n9 : Nat) : Int), .func (.func f) #[] cs.toArray] w fun e w' => e = .returned (.tuple #[]) ∧ Mg w0 w' (.row 30 11 (.slice (some ⟨g9, 0, none⟩) n9 c9) n9 (cellsOf (zr (ltC c) zs)) :: T) := by
 have M : Mg w0 w (.row 30 11 (.slice (some ⟨g9, 0, none⟩) n9 c9) n9 (cellsOf zs) :: T) := hM0
 refine qr (l := [(0, .slice (some ⟨g9, 0, none⟩) n9 c9), (1, .int .i64 (((n9 : Nat) : Int))), (2, .func (.func f) #[] cs.toArray)]) Tryz.func78 rfl Tryz.ntmps78 rfl rfl ?_
 intro Q hret hnorm hP a A
 refine wsk fun K1 hK1 => wrl (sda A λa A↦?_)
 refine qa (hK1 _ _ (wsk fun K2 hK2 => wrl (sdm A λa A↦?_)))
 iterate 2 refine sda A λa A↦?_
 refine qa (hK2 _ _ (wsk fun K3 hK3 => wp_block (zt (fun m_ a w1 => ∃ (p : Nat) (x : List Dt), m_ = 1 + (n9 - p) ∧ (p ≤ n9 ∧ x.length = p ∧ (∀ t ∈ x ++ zs.drop p, t ∈ ts) ∧ x ++ srt (ltC c) 20 (zs.drop p) = srt (ltC c) 20 zs) ∧ Sl a 63 [(0, .slice (some ⟨g9, 0, none⟩) n9 c9), (1, .int .i64 (((n9 : Nat) : Int))), (2, .func (.func f) #[] cs.toArray), (6, .int .i64 20), (7, .int .i64 (((p : Nat) : Int))), (8, .int .i64 (((p + 20 : Nat) : Int))), (10, .int .i64 20)] ∧ Mg w0 w1 (.row 30 11 (.slice (some ⟨g9, 0, none⟩) n9 c9) n9 (cellsOf (x ++ zs.drop p)) :: T)) _ ⟨0, [], rfl, ⟨Nat.zero_le _, rfl, hsub, rfl⟩, A.keep _ ⟨rfl, rfl, rfl, rfl, rfl, rfl, rfl, trivial⟩, M⟩ ?_)))
 clear M A
 rintro m_ a w4 ⟨p, x, rfl, hinv6, A, M⟩ K5 hK5
 obtain ⟨hp0, hx, hxs, hX⟩ := hinv6
 refine wsk fun K7 hK7 => wsk fun K8 hK8 => wrl ?_
 iterate 2 refine sdm A λa A↦?_
 rcases tf (decide (((p + 20 : Nat) : Int) ≤ ((n9 : Nat) : Int))) with hb9 | hb9
 ·
  have hb9' := of_decide_eq_true hb9
  refine sdc A xw hb9 λa A↦?_
  refine qa (hK8 _ _ (wp_cond_true (A.ev rfl) ?_))
  refine wp_skip (hK7 _ _ (wp_block (wsk fun K10 hK10 => wrl ?_)))
  iterate 4 refine sdm A λa A↦?_
  refine sct A (ef rfl rfl) (zkf (zs := (x ++ zs.drop p)) hl (by rw [List.length_append, List.length_drop]; omega) hF hxs (by omega) (by omega) M) ?_
  rintro _ w12 ⟨rfl, hM11⟩
  replace M : Mg w0 w12 (.row 30 11 (.slice (some ⟨g9, 0, none⟩) n9 c9) n9 (cellsOf (qfi (ltC c) p ((p + 20) - (p + 1)) (p + 1) (x ++ zs.drop p))) :: T) := hM11
  refine ⟨_, rfl, ?_⟩
  intro a A
  refine qa (hK10 _ _ (wsk fun K13 hK13 => wrl (sdm A λa A↦?_)))
  refine sda A λa A↦?_
  refine qa (hK13 _ _ (wrl ?_))
  iterate 2 refine sdm A λa A↦?_
  refine sdo (v := .int .i64 ((((p + 20) + 20 : Nat) : Int))) A (qf rfl rfl (ar_add ((in_i64 (by omega) (by omega)).trans (by omega)))) λa A↦?_
  refine sda A λa A↦?_
  refine qa ?_
  obtain ⟨y1, hy1, hy2, hy3⟩ := zzc H (by decide) hx (by omega) hX
  have hys : ∀ t ∈ y1 ++ zs.drop (p + 20), t ∈ ts := fun t ht => hxs t (zaj _ _ _ (hy2 ▸ ht))
  rw [hy2] at M
  refine hK5 _ _ _ (by omega) ⟨p + 20, y1, rfl, ⟨by omega, hy1, hys, hy3⟩, A.keep _ ⟨rfl, rfl, rfl, rfl, rfl, rfl, rfl, trivial⟩, M⟩
 ·
  have hb9' := of_decide_eq_false hb9
  refine sdc A xw hb9 λa A↦?_
  refine qa (hK8 _ _ (wp_cond_false (A.ev rfl) ?_))
  refine wp_exit (hK3 _ _ (wsk fun K14 hK14 => wrl ?_))
  iterate 4 refine sdm A λa A↦?_
  refine sct A (ef rfl rfl) (zkf (zs := (x ++ zs.drop p)) hl (by rw [List.length_append, List.length_drop]; omega) hF hxs (by omega) (by omega) M) ?_
  rintro _ w16 ⟨rfl, hM15⟩
  replace M : Mg w0 w16 (.row 30 11 (.slice (some ⟨g9, 0, none⟩) n9 c9) n9 (cellsOf (qfi (ltC c) p (n9 - (p + 1)) (p + 1) (x ++ zs.drop p))) :: T) := hM15
  refine ⟨_, rfl, ?_⟩
  intro a A
  refine qa (hK14 _ _ (wp_block ?_))
  have h9 := zte H hx (by omega) (by omega) hX
  rw [hzl] at h9
  rw [h9] at M
  refine zt (fun m_ a w1 => ∃ (q : Nat), m_ = 1 + (n9 - q) ∧ (0 < q ∧ q ≤ 2 * n9 + 20) ∧ Sl a 63 [(0, .slice (some ⟨g9, 0, none⟩) n9 c9), (1, .int .i64 (((n9 : Nat) : Int))), (2, .func (.func f) #[] cs.toArray), (6, .int .i64 (((q : Nat) : Int))), (10, .int .i64 20), (11, .int .i64 (((p + 20 : Nat) : Int))), (12, .int .i64 (((n9 : Nat) : Int))), (13, .bool false), (23, .slice (some ⟨g9, 0, none⟩) n9 c9), (24, .int .i64 (((p : Nat) : Int))), (25, .int .i64 (((n9 : Nat) : Int))), (26, .func (.func f) #[] cs.toArray), (27, .tuple #[])] ∧ Mg w0 w1 (.row 30 11 (.slice (some ⟨g9, 0, none⟩) n9 c9) n9 (cellsOf (srt (ltC c) q zs)) :: T)) _ ⟨20, rfl, ⟨by decide, by omega⟩, A.keep _ ⟨rfl, rfl, rfl, rfl, rfl, rfl, rfl, rfl, rfl, rfl, rfl, rfl, rfl, trivial⟩, M⟩ ?_
  clear M A
  rintro m_ a w17 ⟨q, rfl, hinv19, A, M⟩ K18 hK18
  obtain ⟨hq0, hq1⟩ := hinv19
  refine wsk fun K20 hK20 => wsk fun K21 hK21 => wrl ?_
  iterate 2 refine sdm A λa A↦?_
  rcases tf (decide (((q : Nat) : Int) < ((n9 : Nat) : Int))) with hb22 | hb22
  ·
   have hb22' := of_decide_eq_true hb22
   refine sdc A qw hb22 λa A↦?_
   refine qa (hK21 _ _ (wp_cond_true (A.ev rfl) ?_))
   refine wp_skip (hK20 _ _ (wp_block (wsk fun K23 hK23 => wrl (sdm A λa A↦?_))))
   refine sdo (v := .int .i64 (((0 + 2 * q : Nat) : Int))) A (qf rfl rfl (qmf ((in_i64 (by omega) (by omega)).trans (by omega)))) λa A↦?_
   iterate 2 refine sda A λa A↦?_
   refine qa (hK23 _ _ (wsk fun K24 hK24 => wp_block (zt (fun m_ a w1 => ∃ (p2 : Nat) (x2 : List Dt), m_ = 1 + (n9 - p2) ∧ (p2 ≤ n9 ∧ x2.length = p2 ∧ (∀ t ∈ x2 ++ srt (ltC c) q (zs.drop p2), t ∈ ts) ∧ x2 ++ srt (ltC c) (2 * q) (zs.drop p2) = srt (ltC c) (2 * q) zs) ∧ Sl a 63 [(0, .slice (some ⟨g9, 0, none⟩) n9 c9), (1, .int .i64 (((n9 : Nat) : Int))), (2, .func (.func f) #[] cs.toArray), (6, .int .i64 (((q : Nat) : Int))), (7, .int .i64 (((p2 : Nat) : Int))), (8, .int .i64 (((p2 + 2 * q : Nat) : Int))), (10, .int .i64 20), (11, .int .i64 (((p + 20 : Nat) : Int))), (12, .int .i64 (((n9 : Nat) : Int))), (13, .bool false), (23, .slice (some ⟨g9, 0, none⟩) n9 c9), (24, .int .i64 (((p : Nat) : Int))), (25, .int .i64 (((n9 : Nat) : Int))), (26, .func (.func f) #[] cs.toArray), (27, .tuple #[]), (28, .int .i64 (((q : Nat) : Int))), (29, .int .i64 (((n9 : Nat) : Int))), (30, .bool true), (31, .int .i64 (((q : Nat) : Int))), (32, .int .i64 (((0 + 2 * q : Nat) : Int)))] ∧ Mg w0 w1 (.row 30 11 (.slice (some ⟨g9, 0, none⟩) n9 c9) n9 (cellsOf (x2 ++ srt (ltC c) q (zs.drop p2))) :: T)) _ ⟨0, [], rfl, ⟨Nat.zero_le _, rfl, fun t ht => hsub t ((zah _ zs (Nat.le_refl _)).mem_iff.1 ht), rfl⟩, A.keep _ ⟨rfl, rfl, rfl, rfl, rfl, rfl, rfl, rfl, rfl, rfl, rfl, rfl, rfl, rfl, rfl, rfl, rfl, rfl, rfl, rfl, trivial⟩, M⟩ ?_)))
   clear M A
   rintro m_ a w25 ⟨p2, x2, rfl, hinv27, A, M⟩ K26 hK26
   obtain ⟨hp2, hx2, hx2s, hX2⟩ := hinv27
   refine wsk fun K28 hK28 => wsk fun K29 hK29 => wrl ?_
   iterate 2 refine sdm A λa A↦?_
   rcases tf (decide (((p2 + 2 * q : Nat) : Int) ≤ ((n9 : Nat) : Int))) with hb30 | hb30
   ·
    have hb30' := of_decide_eq_true hb30
    refine sdc A xw hb30 λa A↦?_
    refine qa (hK29 _ _ (wp_cond_true (A.ev rfl) ?_))
    refine wp_skip (hK28 _ _ (wp_block (wsk fun K31 hK31 => wrl ?_)))
    iterate 4 refine sdm A λa A↦?_
    refine sdo (v := .int .i64 (((p2 + q : Nat) : Int))) A (qf rfl rfl (ar_add ((in_i64 (by omega) (by omega)).trans (by omega)))) λa A↦?_
    iterate 2 refine sdm A λa A↦?_
    obtain ⟨hv1, hv2, y2, hy1, hy2, hy3⟩ := zzd H hq0 hx2 (by omega) hX2
    refine sct A (ef rfl rfl) (qxb hl hF H _ (zs := (x2 ++ srt (ltC c) q (zs.drop p2))) (Nat.le_refl _) (by rw [List.length_append, qwh, List.length_drop]; omega) hx2s (by omega) (by omega) (by omega) hv1 hv2 M) ?_
    rintro _ w33 ⟨rfl, hM32⟩
    replace M : Mg w0 w33 (.row 30 11 (.slice (some ⟨g9, 0, none⟩) n9 c9) n9 (cellsOf (mg (ltC c) (x2 ++ srt (ltC c) q (zs.drop p2)) p2 (p2 + q) (p2 + 2 * q))) :: T) := hM32
    refine ⟨_, rfl, ?_⟩
    intro a A
    refine qa (hK31 _ _ (wsk fun K34 hK34 => wrl (sdm A λa A↦?_)))
    refine sda A λa A↦?_
    refine qa (hK34 _ _ (wrl ?_))
    iterate 2 refine sdm A λa A↦?_
    refine sdo (v := .int .i64 (((2 * q : Nat) : Int))) A (qf rfl rfl (qmf ((in_i64 (by omega) (by omega)).trans (by omega)))) λa A↦?_
    refine sdo (v := .int .i64 ((((p2 + 2 * q) + (2 * q) : Nat) : Int))) A (qf rfl rfl (ar_add ((in_i64 (by omega) (by omega)).trans (by omega)))) λa A↦?_
    refine sda A λa A↦?_
    refine qa ?_
    have hy2s : ∀ t ∈ y2 ++ srt (ltC c) q (zs.drop (p2 + 2 * q)), t ∈ ts := fun t ht => hx2s t (ztd (by omega) (by omega) (by rw [List.length_append, qwh, List.length_drop]; omega) (hy2 ▸ ht))
    rw [hy2] at M
    refine hK26 _ _ _ (by omega) ⟨p2 + 2 * q, y2, rfl, ⟨by omega, hy1, hy2s, hy3⟩, A.keep _ ⟨rfl, rfl, rfl, rfl, rfl, rfl, rfl, rfl, rfl, rfl, rfl, rfl, rfl, rfl, rfl, rfl, rfl, rfl, rfl, rfl, trivial⟩, M⟩
   ·
    have hb30' := of_decide_eq_false hb30
    refine sdc A xw hb30 λa A↦?_
    refine qa (hK29 _ _ (wp_cond_false (A.ev rfl) ?_))
    refine wp_exit (hK24 _ _ (wsk fun K35 hK35 => wsk fun K36 hK36 => wrl ?_))
    iterate 2 refine sdm A λa A↦?_
    refine sdo (v := .int .i64 (((p2 + q : Nat) : Int))) A (qf rfl rfl (ar_add ((in_i64 (by omega) (by omega)).trans (by omega)))) λa A↦?_
    refine sda A λa A↦?_
    refine qa (hK36 _ _ (wsk fun K37 hK37 => wrl ?_))
    iterate 2 refine sdm A λa A↦?_
    rcases tf (decide (((p2 + q : Nat) : Int) < ((n9 : Nat) : Int))) with hb38 | hb38
    ·
     have hb38' := of_decide_eq_true hb38
     refine sdc A qw hb38 λa A↦?_
     refine qa (hK37 _ _ (wp_cond_true (A.ev rfl) ?_))
     refine wrl ?_
     iterate 5 refine sdm A λa A↦?_
     have hr := ztf H hq0 hx2 (by omega) (by omega) hX2
     rw [hzl] at hr
     refine sct A (ef rfl rfl) (qxb hl hF H _ (zs := (x2 ++ srt (ltC c) q (zs.drop p2))) (Nat.le_refl _) (by rw [List.length_append, qwh, List.length_drop]; omega) hx2s (by omega) (by omega) (by omega) hr.1 hr.2.1 M) ?_
     rintro _ w40 ⟨rfl, hM39⟩
     replace M : Mg w0 w40 (.row 30 11 (.slice (some ⟨g9, 0, none⟩) n9 c9) n9 (cellsOf (mg (ltC c) (x2 ++ srt (ltC c) q (zs.drop p2)) p2 (p2 + q) n9)) :: T) := hM39
     refine ⟨_, rfl, ?_⟩
     intro a A
     refine qa (hK35 _ _ (wrl (sdm A λa A↦?_)))
     refine sdo (v := .int .i64 (((2 * q : Nat) : Int))) A (qf rfl rfl (qmf ((in_i64 (by omega) (by omega)).trans (by omega)))) λa A↦?_
     refine sda A λa A↦?_
     refine qa ?_
     rw [hr.2.2] at M
     refine hK18 _ _ _ (by omega) ⟨2 * q, rfl, ⟨by omega, by omega⟩, A.keep _ ⟨rfl, rfl, rfl, rfl, rfl, rfl, rfl, rfl, rfl, rfl, rfl, rfl, rfl, trivial⟩, M⟩
    ·
     have hb38' := of_decide_eq_false hb38
     refine sdc A qw hb38 λa A↦?_
     refine qa (hK37 _ _ (wp_cond_false (A.ev rfl) ?_))
     refine wp_skip (hK35 _ _ (wrl (sdm A λa A↦?_)))
     refine sdo (v := .int .i64 (((2 * q : Nat) : Int))) A (qf rfl rfl (qmf ((in_i64 (by omega) (by omega)).trans (by omega)))) λa A↦?_
     refine sda A λa A↦?_
     refine qa ?_
     rw [ztg (by omega) hX2] at M
     refine hK18 _ _ _ (by omega) ⟨2 * q, rfl, ⟨by omega, by omega⟩, A.keep _ ⟨rfl, rfl, rfl, rfl, rfl, rfl, rfl, rfl, rfl, rfl, rfl, rfl, rfl, trivial⟩, M⟩
  ·
   have hb22' := of_decide_eq_false hb22
   refine sdc A qw hb22 λa A↦?_
   refine qa (hK21 _ _ (wp_cond_false (A.ev rfl) ?_))
   refine wp_exit (hnorm _ _ (vw (v := .tuple #[]) A rfl .nil rfl ?_))
   rw [uu (by omega)] at M
   exact ⟨rfl, M⟩
theorem zfi {w0 w : World} {g9 c9 n9 : Nat} {zs : List Dt} {T : List Ck} (hl : n9 ≤ 1000000000) (hzl : zs.length = n9) {f : FuncId} {cs : List Value} {c : Dt → Dt → Int} {ts : List Dt} (hF : Cmps Tryz.prog f cs w0 T ts c) (hsub : ∀ t ∈ zs, t ∈ ts) (H : Swo (ltC c)) (hM0 : Mg w0 w (.row 30 11 (.slice (some ⟨g9, 0, none⟩) n9 c9) n9 (cellsOf zs) :: T)) : Calls Tryz.prog 60 #[.slice (some ⟨g9, 0, none⟩) n9 c9, .func (.func f) #[] cs.toArray] w fun e w' => e = .returned (.tuple #[]) ∧ Mg w0 w' (.row 30 11 (.slice (some ⟨g9, 0, none⟩) n9 c9) n9 (cellsOf (zr (ltC c) zs)) :: T) := by
 have M : Mg w0 w (.row 30 11 (.slice (some ⟨g9, 0, none⟩) n9 c9) n9 (cellsOf zs) :: T) := hM0
 refine qr (l := [(0, .slice (some ⟨g9, 0, none⟩) n9 c9), (1, .func (.func f) #[] cs.toArray)]) Tryz.func60 rfl Tryz.ntmps60 rfl rfl ?_
 intro Q hret hnorm hP a A
 refine wrl ?_
 iterate 2 refine sdm A λa A↦?_
 refine sdo A (qz Tryz.underlying28 rfl) λa A↦?_
 refine sdm A λa A↦?_
 refine sct A (ef rfl rfl) (zfh hl hzl hF hsub H M) ?_
 rintro _ w2 ⟨rfl, hM1⟩
 replace M : Mg w0 w2 (.row 30 11 (.slice (some ⟨g9, 0, none⟩) n9 c9) n9 (cellsOf (zr (ltC c) zs)) :: T) := hM1
 refine ⟨_, rfl, ?_⟩
 intro a A
 refine qa (hnorm _ _ (vw (v := .tuple #[]) A rfl .nil rfl ?_))
 exact ⟨rfl, M⟩
theorem zzf {w : World} {so9 : Option Addr} {c9 : Nat} {fv : Value} : Calls Tryz.prog 96 #[.slice so9 0 c9, .int .i64 0, .int .i64 0, fv] w fun e w' => e = .returned (.tuple #[]) ∧ Below w.heap.size w w' := by
 have M : Mg w w ([]) := Mg.start w
 refine qr (l := [(0, .slice so9 0 c9), (1, .int .i64 0), (2, .int .i64 0), (3, fv)]) Tryz.func96 rfl Tryz.ntmps96 rfl rfl ?_
 intro Q hret hnorm hP a A
 refine wsk fun K1 hK1 => wrl (sdm A λa A↦?_)
 refine sdo (v := .int .i64 1) A (qf rfl rfl (fun w => by kernel_rfl)) λa A↦?_
 refine sda A λa A↦?_
 refine qa (hK1 _ _ (wp_block (wp_loop_rounds 12 ?_)))
 refine xn fun K2 hK2 => ?_
 refine wsk fun K3 hK3 => wsk fun K4 hK4 => wrl ?_
 iterate 2 refine sdm A λa A↦?_
 refine sdo (v := .bool false) A (qf rfl rfl (fun w => by kernel_rfl)) λa A↦?_
 refine qa (hK4 _ _ (wp_cond_false (A.ev rfl) ?_))
 refine wp_exit (hnorm _ _ (vw (v := .tuple #[]) A rfl .nil rfl ?_))
 exact ⟨rfl, M.bel⟩
theorem zfj {w : World} {so9 : Option Addr} {c9 : Nat} {fv : Value} : Calls Tryz.prog 78 #[.slice so9 0 c9, .int .i64 0, fv] w fun e w' => e = .returned (.tuple #[]) ∧ Below w.heap.size w w' := by
 have M : Mg w w ([]) := Mg.start w
 refine qr (l := [(0, .slice so9 0 c9), (1, .int .i64 0), (2, fv)]) Tryz.func78 rfl Tryz.ntmps78 rfl rfl ?_
 intro Q hret hnorm hP a A
 refine wsk fun K1 hK1 => wrl (sda A λa A↦?_)
 refine qa (hK1 _ _ (wsk fun K2 hK2 => wrl (sdm A λa A↦?_)))
 iterate 2 refine sda A λa A↦?_
 refine qa (hK2 _ _ (wsk fun K3 hK3 => wp_block (wp_loop_rounds 12 ?_)))
 refine xn fun K4 hK4 => ?_
 refine wsk fun K5 hK5 => wsk fun K6 hK6 => wrl ?_
 iterate 2 refine sdm A λa A↦?_
 refine sdo (v := .bool false) A (qf rfl rfl (fun w => by kernel_rfl)) λa A↦?_
 refine qa (hK6 _ _ (wp_cond_false (A.ev rfl) ?_))
 refine wp_exit (hK3 _ _ (wsk fun K7 hK7 => wrl ?_))
 iterate 4 refine sdm A λa A↦?_
 refine gcl A M (ef rfl rfl) (zzf) fun w9 hb8 M a A => ?_
 refine qa (hK7 _ _ (wp_block (wp_loop_rounds 12 ?_)))
 refine xn fun K10 hK10 => ?_
 refine wsk fun K11 hK11 => wsk fun K12 hK12 => wrl ?_
 iterate 2 refine sdm A λa A↦?_
 refine sdo (v := .bool false) A (qf rfl rfl (fun w => by kernel_rfl)) λa A↦?_
 refine qa (hK12 _ _ (wp_cond_false (A.ev rfl) ?_))
 refine wp_exit (hnorm _ _ (vw (v := .tuple #[]) A rfl .nil rfl ?_))
 exact ⟨rfl, M.bel⟩
theorem zng {w : World} {so9 : Option Addr} {c9 : Nat} {fv : Value} : Calls Tryz.prog 60 #[.slice so9 0 c9, fv] w fun e w' => e = .returned (.tuple #[]) ∧ Below w.heap.size w w' := by
 have M : Mg w w ([]) := Mg.start w
 refine qr (l := [(0, .slice so9 0 c9), (1, fv)]) Tryz.func60 rfl Tryz.ntmps60 rfl rfl ?_
 intro Q hret hnorm hP a A
 refine wrl ?_
 iterate 2 refine sdm A λa A↦?_
 refine sdo A (qz Tryz.underlying28 rfl) λa A↦?_
 refine sdm A λa A↦?_
 refine gcl A M (ef rfl rfl) (zfj) fun w2 hb1 M a A => ?_
 refine qa (hnorm _ _ (vw (v := .tuple #[]) A rfl .nil rfl ?_))
 exact ⟨rfl, M.bel⟩
theorem znh {w0 w : World} {so9 : Option Addr} {c9 : Nat} {zs : List Dt} {T : List Ck} (hl : zs.length ≤ 1000000000) {f : FuncId} {cs : List Value} {c : Dt → Dt → Int} {ts : List Dt} (hF : Cmps Tryz.prog f cs w0 T ts c) (hsub : ∀ t ∈ zs, t ∈ ts) (H : Swo (ltC c)) (hM0 : Mg w0 w (.row 30 11 (.slice so9 zs.length c9) zs.length (cellsOf zs) :: T)) : Calls Tryz.prog 60 #[.slice so9 zs.length c9, .func (.func f) #[] cs.toArray] w fun e w' => e = .returned (.tuple #[]) ∧ Mg w0 w' (.row 30 11 (.slice so9 zs.length c9) zs.length (cellsOf (zr (ltC c) zs)) :: T) := by
 by_cases h : zs = []
 ·
  subst h
  exact zng.mono fun e w' h => ⟨h.1, hM0.call h.2⟩
 ·
  obtain ⟨g, c, e⟩ := qoc (hM0.has 0 rfl) (fun k => h (List.length_eq_zero_iff.1 k))
  cases e
  exact zfi hl rfl hF hsub H hM0
theorem LiD_is1_28 : Is1 Tryz.prog 28 := ⟨⟨_, Tryz.underlying28, rfl⟩, by kernel_rfl⟩
theorem LiD_is1_3 : Is1 Tryz.prog 3 := ⟨⟨_, Tryz.underlying3, rfl⟩, by kernel_rfl⟩
theorem LiD_fld_30_0 : FieldAt Tryz.prog 30 0 0 := ⟨_, _, Tryz.underlying30, rfl, rfl, by kernel_rfl⟩
theorem LiD_fld_30_5 : FieldAt Tryz.prog 30 5 10 := ⟨_, _, Tryz.underlying30, rfl, rfl, by kernel_rfl⟩
theorem LiD_isS_30 : IsS Tryz.prog 30 11 := ⟨⟨_, Tryz.underlying30⟩, by kernel_rfl⟩
theorem zni {w : World} {t t0 : Dt} (ht : t.rd w) (h0 : t.ts[0]? = some t0) : Calls Tryz.prog 33 #[.agg (t.d.cells t.ts.length).toArray] w fun e w' => e = .returned (.agg (t0.d.cells t0.ts.length).toArray) ∧ Below w.heap.size w w' := by
 have hlt : 0 < t.ts.length := (List.getElem?_eq_some_iff.1 h0).1
 have M : Mg w w ([]) := Mg.start w
 refine qr (l := [(0, .agg (t.d.cells t.ts.length).toArray)]) Tryz.func33 rfl Tryz.ntmps33 rfl rfl ?_
 intro Q hret hnorm hP a A
 refine wsk fun K1 hK1 => wrl (zx (vs := [.int .i64 t.d.k, .int .i64 t.d.n, .bool t.d.y.q.b1, .slice t.d.y.o1 t.d.y.q.t1.length t.d.y.c1, .slice t.d.y.o2 t.d.y.q.q1.length t.d.y.c2, .bool t.d.y.q.b2, .slice t.d.y.o3 t.d.y.q.t2.length t.d.y.c3, .slice t.d.y.o4 t.d.y.q.q2.length t.d.y.c4, .string t.d.s, .slice t.d.ro t.d.rl.length t.d.rc, .slice t.d.lo t.ts.length t.d.lc]) (t := 30) A M rfl rfl rfl pg (qt rfl rfl) (by decide) ?_)
 intro g2 w3 M a A
 refine zx (vs := [.int .i64 0, .int .i64 0, .bool false, .slice none 0 0, .slice none 0 0, .bool false, .slice none 0 0, .slice none 0 0, .string (⟨#[]⟩), .slice none 0 0, .slice none 0 0]) (t := 30) A M rfl rfl rfl pg (qp (z := .agg #[.int .i64 0, .int .i64 0, .bool false, .slice none 0 0, .slice none 0 0, .bool false, .slice none 0 0, .slice none 0 0, .string (⟨#[]⟩), .slice none 0 0, .slice none 0 0]) (by kernel_rfl) rfl) (by decide) ?_
 intro g4 w5 M a A
 refine qa (hK1 _ _ (wsk fun K6 hK6 => ?_))
 obtain ⟨t1, bt1, ot1, it1, mt1, rt1_, lt1, Ht1⟩ := qlc ht (i := 0) hlt
 obtain rfl : t1 = t0 := by rw [it1] at h0; exact Option.some.inj h0
 refine wrl (sdo (v := .pointer (some ⟨g2, 10, none⟩)) A (qb LiD_fld_30_5 rfl rfl) λa A↦?_)
 refine sdo A (qm M LiD_is1_28 rfl 1 rfl rfl) λa A↦?_
 refine sdo (v := .pointer (some ⟨bt1, ot1 + 0 * 11, none⟩)) A (zi (k := 0) Tryz.underlying28 (by kernel_rfl) rfl rfl rfl lt1 hlt) λa A↦?_
 refine sdo A (zn M Ht1 LiD_isS_30 rfl rfl) λa A↦?_
 refine jb (us := [.int .i64 t1.d.k, .int .i64 t1.d.n, .bool t1.d.y.q.b1, .slice t1.d.y.o1 t1.d.y.q.t1.length t1.d.y.c1, .slice t1.d.y.o2 t1.d.y.q.q1.length t1.d.y.c2, .bool t1.d.y.q.b2, .slice t1.d.y.o3 t1.d.y.q.t2.length t1.d.y.c3, .slice t1.d.y.o4 t1.d.y.q.q2.length t1.d.y.c4, .string t1.d.s, .slice t1.d.ro t1.d.rl.length t1.d.rc, .slice t1.d.lo t1.ts.length t1.d.lc]) (L' := (.obj g4 (.cells (t1.d.cells t1.ts.length).toArray 30) :: .obj g2 (.cells (t.d.cells t.ts.length).toArray 30) :: [])) A M rfl rfl (zh rfl rfl rfl (by kernel_rfl) M 0 rfl rfl rfl) 0 rfl rfl rfl ?_
 intro w7 M
 refine qa (hK6 _ _ (wp_ret (hret _ _ (en1 A rfl (jv M LiD_isS_30 rfl 0 rfl (cs := [.int .i64 t1.d.k, .int .i64 t1.d.n, .bool t1.d.y.q.b1, .slice t1.d.y.o1 t1.d.y.q.t1.length t1.d.y.c1, .slice t1.d.y.o2 t1.d.y.q.q1.length t1.d.y.c2, .bool t1.d.y.q.b2, .slice t1.d.y.o3 t1.d.y.q.t2.length t1.d.y.c3, .slice t1.d.y.o4 t1.d.y.q.q2.length t1.d.y.c4, .string t1.d.s, .slice t1.d.ro t1.d.rl.length t1.d.rc, .slice t1.d.lo t1.ts.length t1.d.lc]) rfl rfl) ?_))))
 exact ⟨rfl, M.bel⟩
theorem zkg {w : World} : Calls Tryz.prog 43 #[] w fun e w' => e = .returned (.agg (zaa.d.cells zaa.ts.length).toArray) ∧ Below w.heap.size w w' := by
 have M : Mg w w ([]) := Mg.start w
 refine qr (l := []) Tryz.func43 rfl Tryz.ntmps43 rfl rfl ?_
 intro Q hret hnorm hP a A
 refine wsk fun K1 hK1 => wrl (zx (vs := [.int .i64 0, .int .i64 0, .bool false, .slice none 0 0, .slice none 0 0, .bool false, .slice none 0 0, .slice none 0 0, .string (⟨#[]⟩), .slice none 0 0, .slice none 0 0]) (t := 30) A M rfl rfl rfl pg (qp (z := .agg #[.int .i64 0, .int .i64 0, .bool false, .slice none 0 0, .slice none 0 0, .bool false, .slice none 0 0, .slice none 0 0, .string (⟨#[]⟩), .slice none 0 0, .slice none 0 0]) (by kernel_rfl) rfl) (by decide) ?_)
 intro g2 w3 M a A
 refine qa (hK1 _ _ (wsk fun K4 hK4 => wrl (sdo (v := .agg #[.int .i64 1, .int .i64 0, .bool false, .slice none 0 0, .slice none 0 0, .bool false, .slice none 0 0, .slice none 0 0, .string (⟨#[]⟩), .slice none 0 0, .slice none 0 0]) A (zw rfl (fun w => by kernel_rfl)) λa A↦?_)))
 refine jb (us := [.int .i64 1, .int .i64 0, .bool false, .slice none 0 0, .slice none 0 0, .bool false, .slice none 0 0, .slice none 0 0, .string (⟨#[]⟩), .slice none 0 0, .slice none 0 0]) (L' := (.obj g2 (.cells #[.int .i64 1, .int .i64 0, .bool false, .slice none 0 0, .slice none 0 0, .bool false, .slice none 0 0, .slice none 0 0, .string (⟨#[]⟩), .slice none 0 0, .slice none 0 0] 30) :: [])) A M rfl rfl (zh rfl rfl rfl (by kernel_rfl) M 0 rfl rfl rfl) 0 rfl rfl rfl ?_
 intro w5 M
 refine qa (hK4 _ _ (wp_ret (hret _ _ (en1 A rfl (jv M LiD_isS_30 rfl 0 rfl (cs := [.int .i64 1, .int .i64 0, .bool false, .slice none 0 0, .slice none 0 0, .bool false, .slice none 0 0, .slice none 0 0, .string (⟨#[]⟩), .slice none 0 0, .slice none 0 0]) rfl rfl) ?_))))
 exact ⟨rfl, M.bel⟩
theorem qkg {w0 w : World} {t : Dt} (h0 : Below w0.heap.size w0 w) (ht : t.rd w0) (hs : xx qs t.tr = true) (hb : t.tr.bulk ≤ 1000000000) : Calls Tryz.prog 50 #[.agg (t.d.cells t.ts.length).toArray] w fun e w' => (∃ so' ca' xs, e = .returned (.tuple #[.slice so' (xs : List Dt).length ca', .int .i64 0]) ∧ (ju t.tr = some (xs.map Dt.tr) ∧ (∀ x ∈ xs, x.rd w0) ∧ xs.length ≤ t.tr.bulk) ∧ Mg w w' [.row 30 11 (.slice so' xs.length ca') xs.length (cellsOf xs)]) ∨ (e = .returned (.tuple #[.slice none 0 0, .int .i64 10]) ∧ ju t.tr = none ∧ Below w.heap.size w w') := by
 have M : Mg w w ([]) := Mg.start w
 refine qr (l := [(0, .agg (t.d.cells t.ts.length).toArray)]) Tryz.func50 rfl Tryz.ntmps50 rfl rfl ?_
 intro Q hret hnorm hP a A
 refine wsk fun K1 hK1 => wrl (zx (vs := [.int .i64 t.d.k, .int .i64 t.d.n, .bool t.d.y.q.b1, .slice t.d.y.o1 t.d.y.q.t1.length t.d.y.c1, .slice t.d.y.o2 t.d.y.q.q1.length t.d.y.c2, .bool t.d.y.q.b2, .slice t.d.y.o3 t.d.y.q.t2.length t.d.y.c3, .slice t.d.y.o4 t.d.y.q.q2.length t.d.y.c4, .string t.d.s, .slice t.d.ro t.d.rl.length t.d.rc, .slice t.d.lo t.ts.length t.d.lc]) (t := 30) A M rfl rfl rfl pg (qt rfl rfl) (by decide) ?_)
 intro g2 w3 M a A
 iterate 2 refine sda A λa A↦?_
 refine qa (hK1 _ _ (wsk fun K4 hK4 => wrl (sda A λa A↦?_)))
 refine qa (hK4 _ _ (wsk fun K5 hK5 => wp_block ?_))
 replace M := M.nilRow (jl (by simp) (jf jj)) 30 11
 refine zt (fun m_ a w1 => ∃ (p : Dt) (xs : List Dt) (so_ : Option Addr) (ca_ : Nat), m_ = 1 + p.tr.bulk ∧ (p.rd w0 ∧ xx qs p.tr = true ∧ (∀ x ∈ xs, x.rd w0) ∧ t.tr = zu (xs.map Dt.tr) p.tr ∧ xs.length + p.tr.bulk ≤ t.tr.bulk) ∧ Sl a 21 [(0, .agg (t.d.cells t.ts.length).toArray), (1, .pointer (some ⟨g2, 0, none⟩)), (2, .slice none 0 0), (3, .int .i64 0), (4, .slice so_ xs.length ca_)] ∧ Mg w w1 (.row 30 11 (.slice so_ xs.length ca_) xs.length (cellsOf xs) :: .obj g2 (.cells (p.d.cells p.ts.length).toArray 30) :: [])) _ ⟨t, [], none, 0, rfl, ⟨ht, hs, (fun x h => by cases h), rfl, (by show 0 + t.tr.bulk ≤ t.tr.bulk; omega)⟩, A.keep _ ⟨rfl, rfl, rfl, rfl, rfl, trivial⟩, M⟩ ?_
 clear M A
 rintro m_ a w6 ⟨p, xs, so_, ca_, rfl, hinv8, A, M⟩ K7 hK7
 obtain ⟨hp, hps, hxs, htl, hbx⟩ := hinv8
 refine wsk fun K9 hK9 => wsk fun K10 hK10 => wrl (sdo (v := .pointer (some ⟨g2, 0, none⟩)) A (qb LiD_fld_30_0 rfl rfl) λa A↦?_)
 refine sdo A (qm M LiD_is1_3 rfl 1 rfl rfl) λa A↦?_
 rcases tf ((p.d.k == 8)) with hb11 | hb11
 ·
  have hb11' := eq_of_beq hb11
  refine sdc A ql hb11 λa A↦?_
  refine qa (hK10 _ _ (wp_cond_true (A.ev rfl) ?_))
  refine wp_skip (hK9 _ _ (wp_block (wsk fun K12 hK12 => ?_)))
  have l2p := (zji hps hb11').1
  have hbp := zsh p
  obtain ⟨p0, bp0, op0, ip0, mp0, rp0_, lp0, Hp0⟩ := qlc hp (i := 0) (by omega)
  obtain ⟨p1, bp1, op1, ip1, mp1, rp1_, lp1, Hp1⟩ := qlc hp (i := 1) (by omega)
  replace Hp0 := Hp0.below h0
  replace Hp1 := Hp1.below h0
  refine wrl (sdm A λa A↦?_)
  refine sdo A (zf M LiD_isS_30 rfl 1 rfl (cs := [.int .i64 p.d.k, .int .i64 p.d.n, .bool p.d.y.q.b1, .slice p.d.y.o1 p.d.y.q.t1.length p.d.y.c1, .slice p.d.y.o2 p.d.y.q.q1.length p.d.y.c2, .bool p.d.y.q.b2, .slice p.d.y.o3 p.d.y.q.t2.length p.d.y.c3, .slice p.d.y.o4 p.d.y.q.q2.length p.d.y.c4, .string p.d.s, .slice p.d.ro p.d.rl.length p.d.rc, .slice p.d.lo p.ts.length p.d.lc]) rfl rfl) λa A↦?_
  refine gcl A M (ef rfl rfl) (zni (Dt.keep M.bel _ (Dt.keep h0 _ hp)) ip0) fun w14 hb13 M a A => ?_
  refine qfe (e := 30) (sz := 11) (m := 1) (vs := cellsOf [p0]) A M rfl rfl rfl (zy rfl (by kernel_rfl)) rfl rfl (.inl (by decide)) ?_
  intro g15 w16 M a A
  refine yw (e := 30) (sz := 11) (k := 1) (q := xs.length) (m := 1) (xs := cellsOf xs) (news := cellsOf [p0]) (L' := fun v17 => (.row 30 11 (.slice (some ⟨g15, 0, none⟩) 1 1) 1 (cellsOf [p0]) :: .row 30 11 (v17) (xs.length + 1) (cellsOf xs ++ cellsOf [p0]) :: .obj g2 (.cells (p.d.cells p.ts.length).toArray 30) :: [])) A rfl rfl rfl (qvj (z := .agg #[.int .i64 0, .int .i64 0, .bool false, .slice none 0 0, .slice none 0 0, .bool false, .slice none 0 0, .slice none 0 0, .string ⟨#[]⟩, .slice none 0 0, .slice none 0 0]) (sz := 11) (by_ := 192) Tryz.underlying28 (by kernel_rfl) rfl rfl rfl M 1 rfl rfl rfl rfl (rc_own (M.has 0 rfl)) (qhj [p0]) (by omega)) (fun _ => rfl) ?_
  intro v17 w18 M a A
  replace M : Mg w w18 (.row 30 11 (.slice (some ⟨g15, 0, none⟩) 1 1) 1 (cellsOf [p0]) :: .row 30 11 (v17) ((xs ++ [p0]).length) (cellsOf (xs ++ [p0])) :: .obj g2 (.cells (p.d.cells p.ts.length).toArray 30) :: []) := by
   rw [ue, List.length_append]; exact M
  obtain ⟨so19, ca20, rfl⟩ := qia (M.has 1 rfl)
  refine sda A λa A↦?_
  refine qa (hK12 _ _ (wrl (sdo (v := .pointer (some ⟨g2, 10, none⟩)) A (qb LiD_fld_30_5 rfl rfl) λa A↦?_)))
  refine sdo A (qm M LiD_is1_28 rfl 2 rfl rfl) λa A↦?_
  refine sdo (v := .pointer (some ⟨bp1, op1 + 1 * 11, none⟩)) A (zi (k := 1) Tryz.underlying28 (by kernel_rfl) rfl rfl rfl lp1 (by omega)) λa A↦?_
  refine sdo A (zn M Hp1 LiD_isS_30 rfl rfl) λa A↦?_
  refine jb (us := [.int .i64 p1.d.k, .int .i64 p1.d.n, .bool p1.d.y.q.b1, .slice p1.d.y.o1 p1.d.y.q.t1.length p1.d.y.c1, .slice p1.d.y.o2 p1.d.y.q.q1.length p1.d.y.c2, .bool p1.d.y.q.b2, .slice p1.d.y.o3 p1.d.y.q.t2.length p1.d.y.c3, .slice p1.d.y.o4 p1.d.y.q.q2.length p1.d.y.c4, .string p1.d.s, .slice p1.d.ro p1.d.rl.length p1.d.rc, .slice p1.d.lo p1.ts.length p1.d.lc]) (L' := (.row 30 11 (.slice (some ⟨g15, 0, none⟩) 1 1) 1 (cellsOf [p0]) :: .row 30 11 (.slice so19 ((xs ++ [p0]).length) ca20) ((xs ++ [p0]).length) (cellsOf (xs ++ [p0])) :: .obj g2 (.cells (p1.d.cells p1.ts.length).toArray 30) :: [])) A M rfl rfl (zh rfl rfl rfl (by kernel_rfl) M 2 rfl rfl rfl) 2 rfl rfl rfl ?_
  intro w21 M
  refine qa ?_
  replace M : Mg w w21 (.row 30 11 (.slice so19 ((xs ++ [p0]).length) ca20) ((xs ++ [p0]).length) (cellsOf (xs ++ [p0])) :: .obj g2 (.cells (p1.d.cells p1.ts.length).toArray 30) :: []) := by
   have h9 := M.sub (.cons _ (.cons_cons _ (.cons_cons _ (.refl _))))
   exact h9
  refine hK7 _ _ _ (by have := qkc mp1; omega) ⟨p1, xs ++ [p0], so19, ca20, rfl, ⟨rp1_, (zfc hps).2 _ mp1, zsg hxs rp0_, znc htl hps hb11' ip0 ip1, by have := qkc mp1; rw [List.length_append]; simp only [List.length_cons, List.length_nil]; omega⟩, A.keep _ ⟨rfl, rfl, rfl, rfl, rfl, trivial⟩, M⟩
 ·
  have hb11' := ne_of_beq_false hb11
  refine sdc A ql hb11 λa A↦?_
  refine qa (hK10 _ _ (wp_cond_false (A.ev rfl) ?_))
  refine wp_exit (hK5 _ _ (wsk fun K22 hK22 => wsk fun K23 hK23 => wrl (sdo (v := .pointer (some ⟨g2, 0, none⟩)) A (qb LiD_fld_30_0 rfl rfl) λa A↦?_)))
  refine sdo A (qm M LiD_is1_3 rfl 1 rfl rfl) λa A↦?_
  rcases tf ((p.d.k != 1)) with hb24 | hb24
  ·
   have hb24' := bne_iff_ne.1 hb24
   refine sdc A zg hb24 λa A↦?_
   refine qa (hK23 _ _ (wp_cond_true (A.ev rfl) ?_))
   refine wsk fun K25 hK25 => wrl ?_
   iterate 2 refine sda A λa A↦?_
   refine qa (hK25 _ _ (wp_ret (hret _ _ (en2 A rfl (qg rfl) (qg rfl) ?_))))
   exact .inr ⟨rfl, zfe htl hb11' hb24', M.bel⟩
  ·
   have hb24' := bne_eq_false_iff_eq.1 hb24
   refine sdc A zg hb24 λa A↦?_
   refine qa (hK23 _ _ (wp_cond_false (A.ev rfl) ?_))
   refine wp_skip (hK22 _ _ (wsk fun K26 hK26 => wrl (sdm A λa A↦?_)))
   iterate 2 refine sda A λa A↦?_
   refine qa (hK26 _ _ (wp_ret (hret _ _ (en2 A rfl (qg rfl) (qg rfl) ?_))))
   replace M : Mg w w6 (.row 30 11 (.slice so_ xs.length ca_) xs.length (cellsOf xs) :: []) := by
    have h9 := M.sub (.cons_cons _ (.cons _ (.refl _)))
    exact h9
   exact .inl ⟨_, _, xs, rfl, ⟨zfd htl hps hb24', hxs, by omega⟩, M⟩
theorem qrd {w0 w : World} {t : Dt} (h0 : Below w0.heap.size w0 w) (ht : t.rd w0) (hs : xx qs t.tr = true) (hb : t.tr.bulk ≤ 1000000000) (h : (ju t.tr).isSome = true) : Calls Tryz.prog 50 #[.agg (t.d.cells t.ts.length).toArray] w fun e w' => ∃ so' ca' xs, e = .returned (.tuple #[.slice so' (xs : List Dt).length ca', .int .i64 0]) ∧ (ju t.tr = some (xs.map Dt.tr) ∧ (∀ x ∈ xs, x.rd w0) ∧ xs.length ≤ t.tr.bulk) ∧ Mg w w' [.row 30 11 (.slice so' xs.length ca') xs.length (cellsOf xs)] := by
 refine (qkg h0 ht hs hb).mono ?_
 rintro e w' (h1 | ⟨_, h2, _⟩)
 ·
  exact h1
 ·
  rw [h2] at h; cases h
theorem qre {w0 w : World} {t : Dt} (h0 : Below w0.heap.size w0 w) (ht : t.rd w0) (hs : xx qs t.tr = true) (hb : t.tr.bulk ≤ 1000000000) (h : (ju t.tr).isSome = false) : Calls Tryz.prog 50 #[.agg (t.d.cells t.ts.length).toArray] w fun e w' => e = .returned (.tuple #[.slice none 0 0, .int .i64 10]) ∧ Below w.heap.size w w' := by
 refine (qkg h0 ht hs hb).mono ?_
 rintro e w' (⟨_, _, xs, _, h1, _⟩ | ⟨h1, _, h3⟩)
 ·
  rw [h1.1] at h; cases h
 ·
  exact ⟨h1, h3⟩
section
variable {F : Fence} {m : Nat} {P : Program} {w0 w w' : World} {L : List Ck} {l : List (Nat × Value)} {ops : List Oper} {Q : Exit → Act → World → Prop} {a : Act} {n : Nat} {o : Oper} {rest : List Oper} {d : Nat} {v : Value}
/-- The slots, whatever waits for the function's end. -/
def Sd (a : Act) (n : Nat) (l : List (Nat × Value)) : Prop := Sl { a with defers := [] } n l
theorem qxc (hnd : ∀ c, o.op ≠ .defer c) (r : Option Nat) (ρ : Operand → Value) : o.semAt r ρ = execOp ρ o := by
  cases r with
  | none => rfl
  | some k => exact Oper.semAt_some k _ _ hnd
theorem uj (hF : ∀ f, F.fn f) (hA : Sd a n l) (hg : zq l ops o = true) (hdst : o.dst = some d) (hd : Nat.blt d n = true) (hnd : ∀ c, o.op ≠ .defer c) (he : Does P l o w v w')
    (hk : ∀ a', Sd a' n ((d, v) :: l) → a'.defers = a.defers → wpListIn F m P ops.toArray Q rest a' w') : wpListIn F m P ops.toArray Q (o :: rest) a w := by
  unfold wpListIn
  rw [if_pos (show Region.wanted o (yielded ops.toArray a.tmps) = true from hA.wanted hg)]
  refine ⟨fun f _ => hF f, ?_⟩
  rw [qxc hnd, he a.eval (fun x u hx => hA.ev hx), Oper.uponIn_value, hdst]
  exact hk _ (hA.put hd v) rfl
theorem zti (hF : ∀ f, F.fn f) (hA : Sd a n l) (hg : zq l ops o = true) (hdst : o.dst = none) (hnd : ∀ c, o.op ≠ .defer c) (he : Sets P l o w w')
    (hk : wpListIn F m P ops.toArray Q rest a w') : wpListIn F m P ops.toArray Q (o :: rest) a w := by
  unfold wpListIn
  rw [if_pos (show Region.wanted o (yielded ops.toArray a.tmps) = true from hA.wanted hg)]
  refine ⟨fun f _ => hF f, ?_⟩
  rw [qxc hnd, he a.eval (fun x u hx => hA.ev hx), Oper.uponIn_skip, hdst]
  exact hk
theorem i_call (hF : ∀ f, F.fn f) (hd0 : F.depth = none) (hA : Sd a n l) (hg : zq l ops o = true) (hdst : o.dst = some d) (hd : Nat.blt d n = true) (hnd : ∀ c, o.op ≠ .defer c) {f : FuncId} {vs : List Value} (he : Enters P l o w f vs) {R : World → Prop} (hc : CallsIn F (m - 1) P f vs.toArray w fun e w' => e = .returned v ∧ R w')
    (hk : ∀ w', R w' → ∀ a', Sd a' n ((d, v) :: l) → a'.defers = a.defers → wpListIn F m P ops.toArray Q rest a' w') : wpListIn F m P ops.toArray Q (o :: rest) a w := by
  unfold wpListIn
  rw [if_pos (show Region.wanted o (yielded ops.toArray a.tmps) = true from hA.wanted hg)]
  refine ⟨fun f _ => hF f, ?_⟩
  rw [qxc hnd, he a.eval (fun x u hx => hA.ev hx), Oper.uponIn_enter]
  refine ⟨(fun h => by rw [hd0] at h; cases h), hc.mono ?_⟩
  rintro _ w' ⟨rfl, h⟩
  rw [hdst]
  exact hk w' h _ (hA.put hd v) rfl
/-- A loop of so many rounds. -/
theorem i_loop {c : Code} (I : Nat → Act → World → Prop) (N : Nat) (h0 : I N a w) (round : ∀ k a w, I k a w → c.wpIn F m P (Exit.then (fun a' w' => ∃ j, k = j + 1 ∧ I j a' w') Q) a w) : (Code.loop c).wpIn F m P Q a w := by
  have key : ∀ k a w, I k a w → Code.roundsIn F m P c Q (k + 1) a w := by
    intro k
    induction k with
    | zero =>
      intro a w h
      refine wpIn_mono (round 0 a w h) (fun e a' w' hq => ?_)
      cases e with
      | normal => obtain ⟨j, hj, _⟩ := hq; omega
      | _ => exact hq
    | succ k ih =>
      intro a w h
      refine wpIn_mono (round (k + 1) a w h) (fun e a' w' hq => ?_)
      cases e with
      | normal =>
        obtain ⟨j, hj, hI⟩ := hq
        obtain rfl : k = j := by omega
        exact ih a' w' hI
      | _ => exact hq
  exact wpIn_loop_rounds (N + 1) (key N a w h0)
/-- A round of a loop is called. -/
theorem zzg (hF : ∀ f, F.fn f) (hd0 : F.depth = none) (hA : Sd a n l) (hg : zq l ops o = true) (hdst : o.dst = some d) (hd : Nat.blt d n = true) (hnd : ∀ c, o.op ≠ .defer c) {k : Nat} {vs : List Value} (he : ∀ ρ : Operand → Value, (∀ x u, ev l x = some u → ρ x = u) → (execOp ρ o).run P w = (Instr.yield k vs.toArray).run P w) {R : Bool → World → Prop} (hy : YieldAt F (m - 1) P k vs.toArray w fun e w' => ∃ b, e = .returned (.bool b) ∧ R b w')
    (hk : ∀ b w', R b w' → ∀ a', Sd a' n ((d, .bool b) :: l) → a'.defers = a.defers → wpListIn F m P ops.toArray Q rest a' w') : wpListIn F m P ops.toArray Q (o :: rest) a w := by
  obtain ⟨fn, tmps, assign, body, h1, h2⟩ := hy
  unfold wpListIn
  rw [if_pos (show Region.wanted o (yielded ops.toArray a.tmps) = true from hA.wanted hg)]
  refine ⟨fun f _ => hF f, ?_⟩
  rw [qxc hnd, he a.eval (fun x u hx => hA.ev hx), h1, Oper.uponIn_round]
  refine ⟨(fun h => by rw [hd0] at h; cases h), h2.mono ?_⟩
  rintro _ w' ⟨b, rfl, h⟩
  rw [hdst]
  exact hk b w' h _ (hA.put hd (.bool b)) rfl
theorem zba {x : Operand} {k : Nat} {args : List Operand} {ts : Array TypeId} {vs : List Value} {dst : Option Tmp} {ty : TypeId} {pos : String} {after : Array Edge} {guard : Option (Nat × Bool)} (hx : ev l x = some (.func (.yield k) #[] #[])) (ha : evs l args = some vs) :
    ∀ ρ : Operand → Value, (∀ x u, ev l x = some u → ρ x = u) → (execOp ρ ⟨dst, .call ⟨.value x, args.toArray, ts⟩, ty, pos, after, guard⟩).run P w = (Instr.yield k vs.toArray).run P w := fun ρ h => by
  have e := qvb h args vs ha
  simp [execOp, resolve, invoke, h x _ hx, Deferred.ofValue, e]
theorem Sd.sl (h : Sd a n l) (hd : a.defers = []) : Sl a n l := ⟨h.size, h.holds, hd⟩
theorem Sd.ev (h : Sd a n l) {x : Operand} {v : Value} (hx : Go.Proofs.YtofbejppkldhnaaGreatDoor.G.ev l x = some v) : a.eval x = v := Sl.ev h hx
theorem Sd.keep (h : Sd a n l) (l' : List (Nat × Value)) (hs : AllIn l l') : Sd a n l' := Sl.keep h l' hs
theorem i_walk {f : FuncId} {fn : Func} {c : Code} {args : List Value} {Z : Ending → World → Prop} (hf : P.funcs[f]? = some fn) (hb : fn.body = some c) (hF : F.fn f) (hn : fn.ntmps = n) (hl : Nat.ble args.length n = true) (hs : (args.zipIdx.map fun p => (p.2, p.1)) = l) (hro : F.round = none)
    (h : ∀ Q : Exit → Act → World → Prop, (∀ a w, bodyPost P fn Z .ret a w → Q .ret a w) → (∀ a w, bodyPost P fn Z .ret a w → Q .normal a w) → ∀ a, Sd a n l → a.defers = [] → c.wpIn F m P Q a w) : CallsIn F m P f args.toArray w Z := by
  subst hs
  refine callsIn_of_wp hf hb hF (h _ (fun _ _ h => h) (fun _ _ h => h) _ ?_ rfl) hro
  rw [hn]
  exact Sl.enter (Nat.le_of_ble_eq_true hl)
theorem zzh {f : FuncId} {fn : Func} {c : Code} {args : List Value} {Z : Ending → World → Prop} (hf : P.funcs[f]? = some fn) (hb : fn.body = some c) (hF : F.fn f) (hn : fn.ntmps = n) (hl : Nat.ble args.length n = true) (hs : (args.zipIdx.map fun p => (p.2, p.1)) = l) (hro : F.round = none)
    (h : ∀ Q : Exit → Act → World → Prop, (∀ a w, bodyPostM F m P fn Z .ret a w → Q .ret a w) → ∀ a, Sd a n l → a.defers = [] → c.wpIn F m P Q a w) : CallsIn F m P f args.toArray w Z := by
  subst hs
  refine callsIn_of_wp_marks hf hb hF (h _ (fun _ _ h => h) _ ?_ rfl) hro
  rw [hn]
  exact Sl.enter (Nat.le_of_ble_eq_true hl)
theorem qie {x y : Code} (h : ∀ K : Act → World → Prop, (∀ a w, y.wpIn F m P Q a w → K a w) → x.wpIn F m P (Exit.then K Q) a w) : (Code.seq x y).wpIn F m P Q a w := wpIn_seq (h _ (fun _ _ h => h))
theorem ztj (hF : ∀ f, F.fn f) (hA : Sd a n l) (hM : Mg w0 w L) (hg : zq l ops o = true) (hdst : o.dst = some d) (hd : Nat.blt d n = true) (hnd : ∀ c, o.op ≠ .defer c) {vs : List Value} {t : TypeId} (val : Nat → Value) (he : Does P l o w (val w.heap.size) (w.alloc (.cells vs.toArray t))) (ht : t ≠ BY)
    (hk : ∀ g w', Mg w0 w' (.obj g (.cells vs.toArray t) :: L) → w.heap.size ≤ g → g < w'.heap.size → Below w.heap.size w w' → KeepsOthers w w' → ∀ a', Sd a' n ((d, val g) :: l) → a'.defers = a.defers → wpListIn F m P ops.toArray Q rest a' w') : wpListIn F m P ops.toArray Q (o :: rest) a w :=
  uj hF hA hg hdst hd hnd he (hk _ _ (hM.addObj _ (un ht)) (Nat.le_refl _) (by simp) ((Below.refl _ w).alloc (Nat.le_refl _) _) (KeepsOthers.alloc _ _))
end
theorem qbi (g : Nat) : ∀ (cs : List Value) (w : World) (o : Nat), KeepsOthers w (w.setCells g o cs)
  | [], w, o => KeepsOthers.refl w
  | c :: cs, w, o => (KeepsOthers.setCell w ⟨g, o, none⟩ c).trans (qbi g cs _ _)
theorem qfj {B : Nat} (g : Nat) (hg : B ≤ g) : ∀ (cs : List Value) (w : World) (o : Nat), Below B w (w.setCells g o cs)
  | [], w, o => Below.refl _ w
  | c :: cs, w, o => ((Below.refl B w).setCell (p := ⟨g, o, none⟩) hg c).trans (qfj g hg cs _ _)
/-- A block that holds no cells is turned: all cells are kept. -/
theorem qjd {w w' : World} {row : Option Nat} (hg : w.grownBy w' row) (hr : ∀ r, row = some r → ∃ o : Obj, w.heap[r]? = some o ∧ o.isCells = false) : Kept (fun _ => True) w w' := ⟨hg.size, fun b i v _ hc => by
  by_cases e : row = some b
  · obtain ⟨o, ho, hn⟩ := hr b e
    unfold World.cell? at hc
    simp only [ho] at hc
    cases o <;> simp_all [Obj.isCells]
  · exact hg.cell hc (fun k => e k.symm)⟩
theorem Mg.calm {w0 w w' : World} {L : List Ck} {row : Option Nat} (h : Mg w0 w L) (hg : w.grownBy w' row) (hr : ∀ r, row = some r → w0.heap.size ≤ r ∧ ∃ o : Obj, w.heap[r]? = some o ∧ o.isCells = false) (hL : ∀ c ∈ L, ∃ g vs t, c = .obj g (.cells vs t)) : Mg w0 w' L := by
  refine ⟨h.bel.grown hg h.bel.size (fun k e => (hr k e).1), fun c hc => ?_, h.dis⟩
  obtain ⟨g, vs, t, rfl⟩ := hL c hc
  have h2 := h.all _ hc
  refine ⟨h2.1, (hg.block g (Array.getElem?_eq_some_iff.1 h2.2).1 (fun e => ?_)).trans h2.2⟩
  obtain ⟨_, o, ho, hn⟩ := hr g e.symm
  rw [h2.2] at ho
  cases ho
  cases hn
theorem Dt.at_true : ∀ t : Dt, t.at_ (fun _ => True) := Dt.indT fun d ts ih => Dt.at_iff.2 ⟨⟨fun _ _ _ _ => trivial, fun _ _ _ _ => trivial, fun _ _ _ _ => trivial, fun _ _ _ _ => trivial, fun _ _ _ _ => trivial⟩, fun _ _ _ _ => trivial, ih⟩
theorem Here.kept {w w' : World} {b o : Nat} {cs : List Value} (h : Here w b o cs) (hk : Kept (fun _ => True) w w') : Here w' b o cs := ⟨Nat.lt_of_lt_of_le h.1 hk.1, fun j v hj => hk.2 _ _ _ trivial (h.2 j v hj)⟩
theorem qoi : Is1 Tryz.prog 28 := ⟨⟨_, Tryz.underlying28, rfl⟩, by kernel_rfl⟩
theorem qaj : IsS Tryz.prog 30 11 := ⟨⟨_, Tryz.underlying30⟩, by kernel_rfl⟩
/-- What is handed to a round: a place, and a datum that was there. -/
def Al (w : World) : Type := { x : Int × Dt // x.2.rd w }
def encA {w : World} (x : Al w) : Array Value := #[.int .i64 x.1.1, .agg (x.1.2.d.cells x.1.2.ts.length).toArray]
/-- What a round keeps: what lay there, and the iterator's own box. -/
def KpB (n₀ Bs : Nat) (W W' : World) : Prop := Below n₀ W W' ∧ ∀ v, W.cell? ⟨Bs, 0, none⟩ = some v → W'.cell? ⟨Bs, 0, none⟩ = some v
theorem KpB.refl (n₀ Bs : Nat) (W : World) : KpB n₀ Bs W W := ⟨Below.refl _ _, fun _ h => h⟩
theorem KpB.trans {n₀ Bs : Nat} {A B C : World} (h : KpB n₀ Bs A B) (k : KpB n₀ Bs B C) : KpB n₀ Bs A C := ⟨h.1.trans k.1, fun v hv => k.2 v (h.2 v hv)⟩
set_option maxRecDepth 100000 in
set_option maxHeartbeats 400000 in
theorem zga {wA w0 : World} {Bs : Nat} {so : Option Addr} {ca : Nat} {ts : List Dt} (hR : Rt wA so ts) (hD : ∀ t ∈ ts, t.rd wA) (hb : Below wA.heap.size wA w0) (hBs : w0.cell? ⟨Bs, 0, none⟩ = some (.slice so ts.length ca)) (hBl : Bs < w0.heap.size) (hl : ts.length ≤ 1000000000) (n : Nat) :
    SeqStopsK Fence.wide n Tryz.prog 95 #[.pointer (some ⟨Bs, 0, none⟩)] (encA (w := wA)) (KpB wA.heap.size Bs) (fun ys => ys.map (fun x => x.1.2) = ts.reverse) (fun _ => True) ts.length w0 := by
  intro l J Jx W hW hJ hJx hY h0
  have hF : ∀ f, Fence.wide.fn f := fun _ => trivial
  rw [List.append_toArray]
  refine i_walk (l := [(0, .func (.yield l) #[] #[]), (1, .pointer (some ⟨Bs, 0, none⟩))]) Tryz.func95 rfl trivial rfl rfl rfl rfl ?_
  intro Q hret hnorm a hA hdf
  have hc : W.cell? ⟨Bs, 0, none⟩ = some (.slice so ts.length ca) := (hW.cell (p := ⟨Bs, 0, none⟩) hBl).trans hBs
  refine qie fun K1 hK1 => wpIn_region_lit ?_
  refine uj (v := .slice so ts.length ca) hF hA rfl rfl rfl (by intro c h; cases h) (jr rfl (vd qoi hc)) fun a hA h2 => ?_
  refine uj (v := .int .i64 (ts.length : Nat)) hF hA rfl rfl rfl (by intro c h; cases h) (qz Tryz.underlying28 rfl) fun a hA h3 => ?_
  refine uj (v := .int .i64 ((ts.length : Int) - 1)) hF hA rfl rfl rfl (by intro c h; cases h) (qf rfl rfl (ar_sub (in_i64 (by omega) (by omega)))) fun a hA h4 => ?_
  refine uj (v := .int .i64 ((ts.length : Int) - 1)) hF hA rfl rfl rfl (by intro c h; cases h) (jq rfl) fun a hA h5 => ?_
  refine wpListIn_nil (hK1 _ _ (wpIn_block ?_))
  refine i_loop (fun k a W' => k ≤ ts.length ∧ Sd a 19 [(0, .func (.yield l) #[] #[]), (1, .pointer (some ⟨Bs, 0, none⟩)), (3, .int .i64 ((k : Int) - 1))] ∧ a.defers = [] ∧ KpB wA.heap.size Bs W W' ∧ ∃ pre, J pre W' ∧ pre.map (fun x => x.1.2) = (ts.drop k).reverse) ts.length ⟨Nat.le_refl _, hA.keep _ ⟨rfl, rfl, rfl, trivial⟩, by rw [h5, h4, h3, h2, hdf], KpB.refl _ _ _, [], h0, by rw [List.drop_length]; rfl⟩ ?_
  rintro k a W' ⟨hk, hA, hd, hKp, pre, hJp, hpre⟩
  have hc' := hKp.2 _ hc
  refine qie fun K2 hK2 => qie fun K3 hK3 => wpIn_region_lit ?_
  refine uj (v := .int .i64 ((k : Int) - 1)) hF hA rfl rfl rfl (by intro c h; cases h) (qh rfl) fun a hA h2 => ?_
  refine uj (v := .bool (decide ((0 : Int) ≤ (k : Int) - 1))) hF hA rfl rfl rfl (by intro c h; cases h) (qf rfl rfl vg) fun a hA h3 => ?_
  refine wpListIn_nil (hK3 _ _ ?_)
  refine wpIn_cond_split (t := decide ((0 : Int) ≤ (k : Int) - 1)) (hA.ev rfl) (fun hq => ?_) (fun hq => ?_)
  · have hq' := of_decide_eq_true hq
    refine wpIn_skip (hK2 _ _ (qie fun K4 hK4 => wpIn_block (qie fun K5 hK5 => wpIn_region_lit ?_)))
    obtain ⟨t1, b1, o1, it1, mt1, rt1, lt1, Ht1⟩ := zse hR hD (i := k - 1) (by omega)
    refine uj (v := .func (.yield l) #[] #[]) hF hA rfl rfl rfl (by intro c h; cases h) (qh rfl) fun a hA h4 => ?_
    refine uj (v := .int .i64 ((k : Int) - 1)) hF hA rfl rfl rfl (by intro c h; cases h) (qh rfl) fun a hA h5 => ?_
    refine uj (v := .slice so ts.length ca) hF hA rfl rfl rfl (by intro c h; cases h) (jr rfl (vd qoi hc')) fun a hA h6 => ?_
    refine uj (v := .int .i64 ((k : Int) - 1)) hF hA rfl rfl rfl (by intro c h; cases h) (qh rfl) fun a hA h7 => ?_
    refine uj (v := .pointer (some ⟨b1, o1 + (k - 1) * 11, none⟩)) hF hA rfl rfl rfl (by intro c h; cases h) (zi (k := k - 1) Tryz.underlying28 (by kernel_rfl) rfl rfl (by omega) lt1 (by omega)) fun a hA h8 => ?_
    have hbW : Below wA.heap.size wA W' := (hb.trans (hW.mono hb.size)).trans hKp.1
    refine uj (v := .agg (t1.d.cells t1.ts.length).toArray) hF hA rfl rfl rfl (by intro c h; cases h) (jr rfl (vb qaj _ rfl (fun j v hj => (hbW.cell Ht1.1).trans (Ht1.2 j v hj)))) fun a hA h9 => ?_
    have hlen : pre.length < ts.length := by
      have := congrArg List.length hpre
      simp only [List.length_map, List.length_reverse, List.length_drop] at this
      omega
    refine zzg (k := l) (vs := [.int .i64 ((k : Int) - 1), .agg (t1.d.cells t1.ts.length).toArray]) (R := fun b W2 => (b = true ∧ J (pre ++ [⟨((k : Int) - 1, t1), rt1⟩]) W2 ∧ KpB wA.heap.size Bs W' W2) ∨ (b = false ∧ Jx (pre ++ [⟨((k : Int) - 1, t1), rt1⟩]) W2)) hF rfl hA rfl rfl rfl (by intro c h; cases h) (zba rfl rfl) ?_ ?_
    · have := hY pre ⟨((k : Int) - 1, t1), rt1⟩ W' hJp hlen
      obtain ⟨fn, tmps, assign, body, e1, e2⟩ := this
      refine ⟨fn, tmps, assign, body, e1, e2.mono ?_⟩
      rintro e W2 (⟨rfl, h1, h2⟩ | ⟨rfl, h1⟩)
      · exact ⟨true, rfl, .inl ⟨rfl, h1, h2⟩⟩
      · exact ⟨false, rfl, .inr ⟨rfl, h1⟩⟩
    · rintro b W2 hR2 a hA h10
      refine uj (v := .bool (!b)) hF hA rfl rfl rfl (by intro c h; cases h) (zd rfl zj) fun a hA h11 => ?_
      refine wpListIn_nil (hK5 _ _ ?_)
      have hdd : a.defers = [] := by rw [h11, h10, h9, h8, h7, h6, h5, h4, h3, h2, hd]
      rcases hR2 with ⟨rfl, hJ2, hK2'⟩ | ⟨rfl, hJx2⟩
      · refine wpIn_cond_false (hA.ev rfl) (wpIn_skip (hK4 _ _ (wpIn_region_lit ?_)))
        refine uj (v := .int .i64 ((k : Int) - 1)) hF hA rfl rfl rfl (by intro c h; cases h) (qh rfl) fun a hA g1 => ?_
        refine uj (v := .int .i64 (((k - 1 : Nat) : Int) - 1)) hF hA rfl rfl rfl (by intro c h; cases h) (qf rfl rfl (ar_sub ((in_i64 (by omega) (by omega)).trans (by omega)))) fun a hA g2 => ?_
        refine uj (v := .int .i64 (((k - 1 : Nat) : Int) - 1)) hF hA rfl rfl rfl (by intro c h; cases h) (jq rfl) fun a hA g3 => ?_
        refine wpListIn_nil ?_
        refine ⟨k - 1, by omega, by omega, hA.keep _ ⟨rfl, rfl, rfl, trivial⟩, by rw [g3, g2, g1, hdd], hKp.trans hK2', _, hJ2, ?_⟩
        rw [List.map_append, hpre, List.drop_eq_getElem_cons (show k - 1 < ts.length by omega), List.reverse_cons, show k - 1 + 1 = k by omega]
        congr 1
        have := (List.getElem?_eq_some_iff.1 it1).2
        rw [this]
        rfl
      · refine wpIn_cond_true (hA.ev rfl) (wpIn_ret ?_)
        refine hret _ _ ?_
        exact vw (rs := []) (vs := []) (v := .tuple #[]) (hA.sl hdd) rfl .nil rfl ⟨⟨_, rfl⟩, .inr ⟨_, trivial, hJx2⟩⟩
  · have hq' := of_decide_eq_false hq
    refine wpIn_exit ?_
    obtain rfl : k = 0 := by omega
    refine hnorm _ _ ?_
    exact vw (rs := []) (vs := []) (v := .tuple #[]) (hA.sl (by rw [h3, h2, hd])) rfl .nil rfl ⟨⟨_, rfl⟩, .inl ⟨pre, hpre, hJp⟩⟩
theorem zua {w : World} {so : Option Addr} {k ca : Nat} : Calls Tryz.prog 74 #[.slice so k ca] w fun e w' => e = .returned (.func (.func 95) #[] #[.pointer (some ⟨w.heap.size, 0, none⟩)]) ∧ w' = w.alloc (.cells #[.slice so k ca] 28) := by
  refine qr (l := [(0, .slice so k ca)]) Tryz.func74 rfl Tryz.ntmps74 rfl rfl ?_
  intro Q hret hnorm hP a hA
  refine wp_seq_k (fun K1 hK1 => ?_)
  refine wp_region_lit ?_
  refine kh (v := .pointer (some ⟨w.heap.size, 0, none⟩)) (w' := w.alloc (.cells #[.slice so k ca] 28)) hA rfl rfl rfl (qt (vs := [.slice so k ca]) rfl rfl) fun a hA => ?_
  refine kh hA rfl rfl rfl (jq rfl) fun a hA => ?_
  refine qa (hK1 _ _ (wp_seq_k (fun K2 hK2 => wp_region_lit ?_)))
  refine kh hA rfl rfl rfl (qei rfl) fun a hA => ?_
  refine kh hA rfl rfl rfl (jq rfl) fun a hA => ?_
  refine qa (hK2 _ _ (wp_ret (hret _ _ ?_)))
  exact vw (rs := [.tmp 2]) hA rfl (.cons (qg rfl) .nil) rfl ⟨rfl, rfl⟩
def ZC : List Value := [.int .i64 0, .int .i64 0, .bool false, .slice none 0 0, .slice none 0 0, .bool false, .slice none 0 0, .slice none 0 0, .string ⟨#[]⟩, .slice none 0 0, .slice none 0 0]
theorem zbb {g1 g2 : Nat} {v1 v2 : Array Value} {t : TypeId} : ∀ c ∈ [Ck.obj g1 (.cells v1 t), Ck.obj g2 (.cells v2 t)], ∃ g vs t, c = Ck.obj g (.cells vs t) := by
  intro c hc
  simp only [List.mem_cons, List.not_mem_nil, or_false] at hc
  rcases hc with rfl | rfl
  · exact ⟨_, _, _, rfl⟩
  · exact ⟨_, _, _, rfl⟩
/-- The last datum so far lies in the box. -/
def LinkI (w : World) (g3 g4 : Nat) (u : Tr) (pre : List (Al w)) (W : World) : Prop := ∃ z : Dt, Mg w W [.obj g4 (.cells ZC.toArray 30), .obj g3 (.cells (z.d.cells z.ts.length).toArray 30)] ∧ z.rd W ∧ z.at_ (fun b => b ≠ g3 ∧ b ≠ g4) ∧ z.tr = zu ((pre.map (fun x => x.1.2.tr)).reverse) u
theorem znj (w : World) (g3 g4 : Nat) (u : Tr) (B : Nat) (hB : w.heap.size ≤ B) : OwnFrom B (LinkI w g3 g4 u) := by
  rintro pre W W' row ⟨z, hM, hr, ha, ht⟩ hg hrow
  exact ⟨z, hM.calm hg (fun r e => ⟨Nat.le_trans hB (hrow r e).1, (hrow r e).2⟩) zbb, Dt.kept (qjd hg (fun r e => (hrow r e).2)) _ hr (Dt.at_true _), ha, ht⟩
set_option maxRecDepth 100000 in
set_option maxHeartbeats 1000000 in
theorem qoj {w : World} {so : Option Addr} {ca : Nat} {ts : List Dt} {u : Dt} (hR : Rt w so ts) (hD : ∀ t ∈ ts, t.rd w) (hu : u.rd w) (hl : ts.length ≤ 1000000000) : Calls Tryz.prog 53 #[.slice so ts.length ca, .agg (u.d.cells u.ts.length).toArray] w fun e w' => ∃ t2 : Dt, e = .returned (.agg (t2.d.cells t2.ts.length).toArray) ∧ (t2.rd w' ∧ t2.tr = zu (ts.map Dt.tr) u.tr) ∧ Below w.heap.size w w' := by
  refine (callsIn_wide (n := 5)).1 ?_
  have hF : ∀ f, Fence.wide.fn f := fun _ => trivial
  refine zzh (l := [(0, .slice so ts.length ca), (1, .agg (u.d.cells u.ts.length).toArray)]) Tryz.func53 rfl trivial rfl rfl rfl rfl ?_
  intro Q hret a hA hdf
  have hM : Mg w w [] := Mg.start w
  refine qie fun K1 hK1 => wpIn_region_lit ?_
  refine ztj (vs := u.d.cells u.ts.length) (t := 30) hF hA hM rfl rfl rfl (by intro c h; cases h) (fun g => .pointer (some ⟨g, 0, none⟩)) (qt rfl rfl) (by decide) ?_
  intro g3 W1 hM hg3 hg3' hB1 _ a hA h2
  refine ztj (vs := ZC) (t := 30) hF hA hM rfl rfl rfl (by intro c h; cases h) (fun g => .pointer (some ⟨g, 0, none⟩)) (qp (z := .agg ZC.toArray) (by kernel_rfl) rfl) (by decide) ?_
  intro g4 W2 hM hg4 hg4' hB2 _ a hA h3
  refine wpListIn_nil (hK1 _ _ (qie fun K2 hK2 => qie fun K3 hK3 => wpIn_region_lit ?_))
  refine uj (v := .slice so ts.length ca) hF hA rfl rfl rfl (by intro c h; cases h) (qh rfl) fun a hA h4 => ?_
  refine i_call (R := fun W3 => W3 = W2.alloc (.cells #[.slice so ts.length ca] 28)) hF rfl hA rfl rfl rfl (by intro c h; cases h) (qj rfl rfl (fun w => by kernel_rfl)) (callsIn_wide.2 zua) ?_
  rintro W3 hW3 a hA h5
  refine wpListIn_nil (hK3 _ _ (wpIn_block ?_))
  have hB3 : Below W2.heap.size W2 W3 := hW3 ▸ (Below.refl _ W2).alloc (Nat.le_refl _) _
  have hs3 : W3.heap.size = W2.heap.size + 1 := by rw [hW3]; simp
  have hc3 : W3.cell? ⟨W2.heap.size, 0, none⟩ = some (.slice so ts.length ca) := by
    rw [hW3, cell_of_row _ _ _ _ _ _ (heap_alloc_new W2 _)]; rfl
  replace hM := hM.call hB3
  have hw2 : w.heap.size ≤ W2.heap.size := by omega
  have hur : u.rd W3 := Dt.keep hM.bel _ hu
  have hua : u.at_ (fun b => b ≠ g3 ∧ b ≠ g4) := Dt.at_mono (fun b hb => by constructor <;> omega) _ (Dt.at_lt _ hu)
  refine wpIn_rangeFunc_ownH (F := Fence.wide) rfl (by decide) (gf := 95) (lb := #[.pointer (some ⟨W2.heap.size, 0, none⟩)]) (hA.ev rfl) trivial (fun us w => by kernel_rfl)
    (zga hR hD hM.bel hc3 (by omega) hl _) KpB.trans ?hkb (Below.refl _ _) (fun _ => rfl)
    (LinkI w g3 g4 u.tr) (fun _ _ _ => False) (znj w g3 g4 u.tr _ (by omega)) (fun _ _ _ _ _ hs _ _ => hs)
    ⟨u, hM, hur, hua, rfl⟩
    (fun x a' W => ∃ Bx, Sd a' 16 [(3, .pointer (some ⟨g3, 0, none⟩)), (4, .pointer (some ⟨g4, 0, none⟩)), (6, .pointer (some ⟨Bx, 0, none⟩))] ∧ Here W Bx 0 (x.1.2.d.cells x.1.2.ts.length))
    (fun x a' _ X Y row hs hg hr => by obtain ⟨Bx, h1, h2⟩ := hs; exact ⟨Bx, h1, h2.kept (qjd hg (fun r e => (hr r e).2))⟩)
    ?assign ?body ?done ?stop
  case hkb =>
    intro W l o o' hl1 hl2 hl3 _
    refine ⟨⟨rfl, rfl, rfl, (grownBy_putObj' W l o').size, fun k hk => ?_⟩, fun v hv => ?_⟩
    · by_cases hk2 : k < W.heap.size
      · exact (grownBy_putObj' W l o').block k hk2 (fun e => by cases e; omega)
      · have := (Array.getElem?_eq_some_iff.1 hl2).1; omega
    · exact (grownBy_putObj' W l o').cell hv (fun e => by have e' : W2.heap.size = l := Option.some.inj e; omega)
  case assign =>
    rintro l pre x W K ⟨z, hMz, hrz, haz, htz⟩ hK
    have hA1 : Sd { tmps := (a.tmps.setIfInBounds 9 (.int .i64 x.1.1)).setIfInBounds 10 (.agg (x.1.2.d.cells x.1.2.ts.length).toArray), defers := [] } 16 _ := Sl.put (Sl.put hA (d := 9) rfl (.int .i64 x.1.1)) (d := 10) rfl (.agg (x.1.2.d.cells x.1.2.ts.length).toArray)
    have hF2 : ∀ f, (Fence.wide.inRound l).fn f := fun _ => trivial
    have hxr : x.1.2.rd W := Dt.keep hMz.bel _ x.2
    simp only [encA, List.zip_toArray, List.zip_cons_cons, List.zip_nil_left, List.zip_nil_right, List.foldl_toArray', List.foldl_toArray, List.foldl_cons, List.foldl_nil]
    refine wpIn_region_lit ?_
    refine ztj (a := { tmps := (a.tmps.setIfInBounds 9 (.int .i64 x.1.1)).setIfInBounds 10 (.agg (x.1.2.d.cells x.1.2.ts.length).toArray), defers := [] }) (vs := ZC) (t := 30) hF2 hA1 hMz rfl rfl rfl (by intro c h; cases h) (fun g => .pointer (some ⟨g, 0, none⟩)) (qp (z := .agg ZC.toArray) (by kernel_rfl) rfl) (by decide) ?_
    intro Bx W6 hM6 hBx hBx' hB6 hK6 a6 hA6 _
    refine zti (w' := W6.setCells Bx 0 (x.1.2.d.cells x.1.2.ts.length)) hF2 hA6 rfl rfl (by intro c h; cases h) (zh rfl rfl rfl (by kernel_rfl) hM6 0 rfl rfl (je x.1.2)) ?_
    have hM7 : Mg w (W6.setCells Bx 0 (x.1.2.d.cells x.1.2.ts.length)) (.obj Bx (.cells (x.1.2.d.cells x.1.2.ts.length).toArray 30) :: [.obj g4 (.cells ZC.toArray 30), .obj g3 (.cells (z.d.cells z.ts.length).toArray 30)]) := Mg.puts (x.1.2.d.cells x.1.2.ts.length) W6 _ ZC 0 hM6 0 rfl
    have hkp : Kept (· ≠ Bx) W6 (W6.setCells Bx 0 (x.1.2.d.cells x.1.2.ts.length)) := qah _ _ _ _
    have hks := hK6.trans (qbi Bx (x.1.2.d.cells x.1.2.ts.length) W6 0)
    have hsW := hMz.bel.size
    have hbs := (hB6.mono hsW).trans (qfj (B := w.heap.size) Bx (by omega) (x.1.2.d.cells x.1.2.ts.length) W6 0)
    revert hkp hM7 hks hbs
    generalize W6.setCells Bx 0 (x.1.2.d.cells x.1.2.ts.length) = W7
    intro hM7 hkp hks hbs
    refine wpListIn_nil (hK _ _ (hks.from _) ⟨hbs, fun v hv => hkp.2 _ _ _ (show W2.heap.size ≠ Bx by have := cell_lt hv; omega) ((hB6.cell (p := ⟨W2.heap.size, 0, none⟩) (cell_lt hv)).trans hv)⟩ ⟨z, hM7.sub (.cons _ (.refl _)), Dt.kept hkp _ (Dt.keep hB6 _ hrz) (Dt.at_mono (fun b hb => by intro e; omega) _ (Dt.at_lt _ hrz)), haz, htz⟩ ⟨Bx, hA6.keep _ ⟨rfl, rfl, rfl, trivial⟩, (Array.getElem?_eq_some_iff.1 (hM7.obj 0 rfl)).1, fun j v hj => by rw [Nat.zero_add]; exact hM7.cell 0 rfl j hj⟩)
  case body =>
    rintro l pre x a' W hl1 _ ⟨z, hMz, hrz, haz, htz⟩ ⟨Bx, hA, hH⟩ _
    have hF2 : ∀ f, (Fence.wide.inRound l).fn f := fun _ => trivial
    have hxr : x.1.2.rd W := Dt.keep hMz.bel _ x.2
    refine wpIn_block (wpIn_region_lit ?_)
    refine uj (v := .agg (x.1.2.d.cells x.1.2.ts.length).toArray) hF2 hA rfl rfl rfl (by intro c h; cases h) (jr rfl (vb qaj _ rfl (fun j v hj => by have := hH.2 j v hj; rwa [Nat.zero_add] at this ⊢))) fun a hA h6 => ?_
    refine uj (v := .agg (z.d.cells z.ts.length).toArray) hF2 hA rfl rfl rfl (by intro c h; cases h) (zf hMz qaj rfl 1 rfl (cs := z.d.cells z.ts.length) rfl rfl) fun a hA h7 => ?_
    refine uj (v := .slice (some ⟨W.heap.size, 0, none⟩) 2 2) (w' := W.alloc (.cells (cellsOf [x.1.2, z]).toArray 30)) hF2 hA rfl rfl rfl (by intro c h; cases h) (zy rfl (by kernel_rfl)) fun a hA h8 => ?_
    obtain ⟨z2, hz2⟩ : ∃ z2 : Dt, z2 = qic W.heap.size x.1.2 z := ⟨_, rfl⟩
    refine uj (v := .agg (z2.d.cells z2.ts.length).toArray) hF2 hA rfl rfl rfl (by intro c h; cases h) (by rw [hz2, zac]; exact zw rfl (fun w => by kernel_rfl)) fun a hA h9 => ?_
    have hB4 : Below W.heap.size W (W.alloc (.cells (cellsOf [x.1.2, z]).toArray 30)) := (Below.refl _ W).alloc (Nat.le_refl _) _
    have hM4 := hMz.call hB4
    have hnew := heap_alloc_new W (.cells (cellsOf [x.1.2, z]).toArray 30)
    have hK4 : KeepsOthers W (W.alloc (.cells (cellsOf [x.1.2, z]).toArray 30)) := KeepsOthers.alloc _ _
    have hs4 : (W.alloc (.cells (cellsOf [x.1.2, z]).toArray 30)).heap.size = W.heap.size + 1 := by simp
    have hg3W : g3 < W.heap.size := (Ck.lt (hMz.has 1 rfl) g3 rfl).2
    have hg4W : g4 < W.heap.size := (Ck.lt (hMz.has 0 rfl) g4 rfl).2
    have hsW := hMz.bel.size
    revert hB4 hM4 hnew hK4 hs4
    generalize W.alloc (.cells (cellsOf [x.1.2, z]).toArray 30) = W4
    intro hB4 hM4 hnew hK4 hs4
    refine zti (w' := W4.setCells g3 0 (z2.d.cells z2.ts.length)) hF2 hA rfl rfl (by intro c h; cases h) (zh rfl rfl rfl (by kernel_rfl) hM4 1 rfl rfl (je z2)) ?_
    refine wpListIn_nil ?_
    have hkp : Kept (· ≠ g3) W4 (W4.setCells g3 0 (z2.d.cells z2.ts.length)) := qah _ _ _ _
    have hM5 : Mg w (W4.setCells g3 0 (z2.d.cells z2.ts.length)) [.obj g4 (.cells ZC.toArray 30), .obj g3 (.cells (z2.d.cells z2.ts.length).toArray 30)] := Mg.puts (z2.d.cells z2.ts.length) W4 _ (z.d.cells z.ts.length) 0 hM4 1 rfl
    have hx5 : x.1.2.rd (W4.setCells g3 0 (z2.d.cells z2.ts.length)) := Dt.keep hM5.bel _ x.2
    have hz5 : z.rd (W4.setCells g3 0 (z2.d.cells z2.ts.length)) := Dt.kept hkp _ (Dt.keep hB4 _ hrz) (Dt.at_mono (fun b hb => hb.1) _ haz)
    have hxa : x.1.2.at_ (fun b => b ≠ g3 ∧ b ≠ g4) := Dt.at_mono (fun b hb => by constructor <;> omega) _ (Dt.at_lt _ x.2)
    have hks := hK4.trans (qbi g3 (z2.d.cells z2.ts.length) W4 0)
    have hbs := (hB4.mono hsW).trans (qfj (B := w.heap.size) g3 (by omega) (z2.d.cells z2.ts.length) W4 0)
    revert hkp hM5 hx5 hz5 hks hbs
    generalize W4.setCells g3 0 (z2.d.cells z2.ts.length) = W5
    intro hkp hM5 hx5 hz5 hks hbs
    refine ⟨hks.from _, ⟨hbs, fun v hv => hkp.2 _ _ _ (show W2.heap.size ≠ g3 by omega) ((hB4.cell (p := ⟨W2.heap.size, 0, none⟩) (cell_lt hv)).trans hv)⟩, z2, hM5, ?_, ?_, ?_⟩
    · rw [hz2]
      refine zsj (by have := hkp.1; omega) (fun p v hp => hkp.2 _ _ _ (show W.heap.size ≠ g3 by omega) ?_) hx5 hz5
      rw [cell_of_row _ _ _ _ _ _ hnew]
      simpa using hp
    · rw [hz2]
      exact zta ⟨by omega, by omega⟩ hxa haz
    · rw [hz2, zsi, List.map_append, List.reverse_append]
      show Tr.mk 8 0 Q6.zero ⟨#[]⟩ [] [x.1.2.tr, z.tr] = zu (x.1.2.tr :: _) u.tr
      rw [htz]
      rfl
  case done =>
    rintro D xs W hD1 hS ⟨z, hMz, hrz, haz, htz⟩ hDf
    have hA2 : Sd { a with defers := { target := .collected D, args := #[] } :: a.defers } 16 _ := hA
    revert hA2
    generalize hae : ({ a with defers := { target := .collected D, args := #[] } :: a.defers } : Act) = a2
    intro hA2
    have had : a2.defers = [{ target := .collected D, args := #[] }] := by rw [← hae]; show _ :: a.defers = _; rw [h5, h4, h3, h2, hdf]
    refine hK2 _ _ (qie fun K6 hK6 => wpIn_region_lit ?_)
    refine uj (v := .agg (z.d.cells z.ts.length).toArray) hF hA2 rfl rfl rfl (by intro c h; cases h) (zf hMz qaj rfl 1 rfl (cs := z.d.cells z.ts.length) rfl rfl) fun a3 hA3 h6 => ?_
    refine zti (w' := W.setCells g4 0 (z.d.cells z.ts.length)) hF hA3 rfl rfl (by intro c h; cases h) (zh rfl rfl rfl (by kernel_rfl) hMz 0 rfl rfl (je z)) ?_
    have hM5 : Mg w (W.setCells g4 0 (z.d.cells z.ts.length)) [.obj g4 (.cells (z.d.cells z.ts.length).toArray 30), .obj g3 (.cells (z.d.cells z.ts.length).toArray 30)] := Mg.puts (z.d.cells z.ts.length) W _ ZC 0 hMz 0 rfl
    have hz5 : z.rd (W.setCells g4 0 (z.d.cells z.ts.length)) := Dt.kept (qah _ _ _ _) _ hrz (Dt.at_mono (fun b hb => hb.2) _ haz)
    have hD5 := (qbi g4 (z.d.cells z.ts.length) W 0).same D _ hDf rfl
    have hgr := grownBy_putObj' (W.setCells g4 0 (z.d.cells z.ts.length)) D (.deferred none)
    have hM6 := hM5.calm hgr (fun r e => by cases e; exact ⟨by omega, _, hD5, rfl⟩) zbb
    have hz6 := Dt.kept (qjd hgr (fun r e => by cases e; exact ⟨_, hD5, rfl⟩)) _ hz5 (Dt.at_true _)
    refine wpListIn_nil (hK6 _ _ (wpIn_ret (hret _ _ ?_)))
    show LeavesInM _ _ _ _ _ _ a3.defers .returning _
    rw [h6, had]
    refine ⟨by simp, .inl ⟨D, _, rfl, run_takeDeferred hD5, ?_⟩⟩
    have hfin : (fun (e : Ending) (w' : World) => ∃ t2 : Dt, e = .returned (.agg (t2.d.cells t2.ts.length).toArray) ∧ (t2.rd w' ∧ t2.tr = zu (ts.map Dt.tr) u.tr) ∧ Below w.heap.size w w') (.returned (.agg (z.d.cells z.ts.length).toArray)) ((W.setCells g4 0 (z.d.cells z.ts.length)).putObj D (.deferred none)) := by
      refine ⟨z, rfl, ⟨hz6, ?_⟩, hM6.bel⟩
      rw [htz]
      have e1 : xs.map (fun x => x.1.2.tr) = (xs.map (fun x => x.1.2)).map Dt.tr := by rw [List.map_map]; rfl
      rw [e1, show xs.map (fun x => x.1.2) = ts.reverse from hS, List.map_reverse, List.reverse_reverse]
    exact (vw (P := Tryz.prog) (fn := Tryz.f53) (Z := (fun (e : Ending) (w' : World) => ∃ t2 : Dt, e = .returned (.agg (t2.d.cells t2.ts.length).toArray) ∧ (t2.rd w' ∧ t2.tr = zu (ts.map Dt.tr) u.tr) ∧ Below w.heap.size w w')) (v := .agg (z.d.cells z.ts.length).toArray) (rs := [.cell 4 30]) (vs := [.agg (z.d.cells z.ts.length).toArray]) hA3 rfl (.cons (jv hM6 qaj rfl 0 rfl (cs := z.d.cells z.ts.length) rfl rfl) .nil) rfl hfin).2
  case stop =>
    rintro D c pre W _ _ h _
    exact h.elim
mutual
/-- How many nodes. -/
def uk : Tr → Nat
  | .mk _ _ _ _ _ ts => 1 + xa ts
def xa : List Tr → Nat
  | [] => 0
  | t :: ts => uk t + xa ts
end
mutual
/-- Not too deep. -/
def yf (dp : Int) : Tr → Bool
  | .mk k _ _ _ _ ts => decide (dp ≤ 200) && qdd dp (decide (k = 8)) 0 ts
def qdd (dp : Int) (pr : Bool) (i : Nat) : List Tr → Bool
  | [] => true
  | t :: ts => yf (if pr = true ∧ i = 1 then dp else dp + 1) t && qdd dp pr (i + 1) ts
end
def FitC (t : Tr) : Prop := ∀ dp left : Int, ((js dp left t).1 = true ↔ yf dp t = true ∧ (uk t : Int) ≤ left) ∧ ((js dp left t).1 = true → (js dp left t).2 = left - uk t)
theorem qtf {dp : Int} {pr : Bool} : ∀ {ts : List Tr}, (∀ t ∈ ts, FitC t) → ∀ (i : Nat) (m : Int), 0 ≤ m → ((yg dp pr i m ts).1 = true ↔ qdd dp pr i ts = true ∧ (xa ts : Int) ≤ m) ∧ ((yg dp pr i m ts).1 = true → (yg dp pr i m ts).2 = m - xa ts)
  | [], _, i, m, hm => by simp [yg, qdd, xa, hm]
  | t :: ts, h, i, m, hm => by
    have h1 := h t List.mem_cons_self (if pr = true ∧ i = 1 then dp else dp + 1) m
    have hp := qbc t (if pr = true ∧ i = 1 then dp else dp + 1) m
    rw [yg, qdd, xa]
    generalize (if pr = true ∧ i = 1 then dp else dp + 1) = D at h1 hp ⊢
    by_cases hc : (js D m t).1 = true
    · rw [if_pos hc]
      have h2 := qtf (dp := dp) (pr := pr) (fun x hx => h x (List.mem_cons_of_mem _ hx)) (i + 1) _ (hp hc)
      have h3 := h1.1.1 hc
      have h4 := h1.2 hc
      rw [h4] at h2 ⊢
      rw [Bool.and_eq_true, h3.1]
      refine ⟨⟨fun k => ?_, fun k => ?_⟩, fun k => ?_⟩
      · have := h2.1.1 k; exact ⟨⟨rfl, this.1⟩, by have := this.2; push_cast; omega⟩
      · exact h2.1.2 ⟨k.1.2, by have := k.2; push_cast at this; omega⟩
      · rw [h2.2 k]; push_cast; omega
    · rw [if_neg hc]
      refine ⟨⟨(fun k => by cases k), fun k => absurd (h1.1.2 ⟨?_, ?_⟩) hc⟩, (fun k => by cases k)⟩
      · have := k.1; rw [Bool.and_eq_true] at this; exact this.1
      · have := k.2; push_cast at this; omega
theorem zub : ∀ t : Tr, FitC t := by
  refine Tr.indT fun k n q s rl ts ih dp left => ?_
  rw [js, yf, uk]
  by_cases hc : left - 1 < 0 ∨ 200 < dp
  · rw [if_pos hc]
    refine ⟨⟨(fun k => by cases k), fun k => ?_⟩, (fun k => by cases k)⟩
    have h1 := k.1
    have h2 := k.2
    rw [Bool.and_eq_true, decide_eq_true_eq] at h1
    push_cast at h2
    omega
  · rw [if_neg hc]
    have h2 := qtf (dp := dp) (pr := decide (k = 8)) ih 0 (left - 1) (by omega)
    rw [decide_eq_true (show dp ≤ 200 by omega), Bool.true_and]
    refine ⟨⟨fun k => ?_, fun k => ?_⟩, fun k => ?_⟩
    · have := h2.1.1 k; exact ⟨this.1, by have := this.2; push_cast; omega⟩
    · exact h2.1.2 ⟨k.1, by have := k.2; push_cast at this; omega⟩
    · rw [h2.2 k]; push_cast; omega
theorem qpa : ∀ (xs : List Tr) (z : Tr), uk (zu xs z) = xa xs + xs.length + uk z
  | [], z => by simp [zu, xa]
  | x :: xs, z => by rw [zu, uk, xa, xa, xa, qpa xs z, xa, List.length_cons]; omega
theorem qtg : ∀ (xs : List Tr) (z : Tr), yf 1 (zu xs z) = (xs.all (yf 2) && yf 1 z)
  | [], z => by simp [zu]
  | x :: xs, z => by
    rw [zu, yf, qdd, qdd, qdd, List.all_cons]
    have : (if decide ((8 : Int) = 8) = true ∧ 0 = 1 then (1 : Int) else 1 + 1) = 2 := by decide
    rw [this]
    have : (if decide ((8 : Int) = 8) = true ∧ 0 + 1 = 1 then (1 : Int) else 1 + 1) = 1 := by decide
    rw [this, qtg xs z]
    simp [Bool.and_assoc]
theorem zbc : ∀ (xs : List Tr) (z : Tr), xx qs (zu xs z) = (xs.all (xx qs) && xx qs z)
  | [], z => by simp [zu]
  | x :: xs, z => by
    rw [zu, xx, qae, qae, qae, List.all_cons, zbc xs z]
    have : qs (.mk 8 0 Q6.zero ⟨#[]⟩ [] [x, zu xs z]) = true := by rfl
    rw [this]
    simp [Bool.and_assoc]
theorem qpb (t : Tr) : ze qs t = true ↔ yf 1 t = true ∧ uk t ≤ 20000 ∧ xx qs t = true := by
  unfold ze
  rw [Bool.and_eq_true, (zub t 1 20000).1]
  constructor
  · rintro ⟨⟨h1, h2⟩, h3⟩; exact ⟨h1, by omega, h3⟩
  · rintro ⟨h1, h2, h3⟩; exact ⟨⟨h1, by omega⟩, h3⟩
theorem qga (xs : List Tr) (z : Tr) : ze qs (zu xs z) = true ↔ (xs.all (yf 2) = true ∧ yf 1 z = true) ∧ xa xs + xs.length + uk z ≤ 20000 ∧ xs.all (xx qs) = true ∧ xx qs z = true := by
  rw [qpb, qtg, qpa, zbc, Bool.and_eq_true, Bool.and_eq_true]
theorem qxd {xs : List Tr} {z : Tr} (h : 20000 < xs.length) : ze qs (zu xs z) = false := by
  apply Bool.eq_false_iff.2
  intro k
  have := ((qga xs z).1 k).2.1
  omega
/-! ### What the calls answer -/
def fitS (xs : List Tr) (z : Tr) : Tr × Int := if ze qs (zu xs z) = true then (zu xs z, 0) else (uf, 4)
def ofS (xs : List Tr) : Tr := (fitS xs nilT).1
noncomputable def qxe (t : Tr) : Tr × Int :=
  if ze qs t = false then (uf, 2) else match ju t with
    | none => (uf, 10)
    | some xs => (zu xs.reverse nilT, 0)
theorem zoa {xs : List Tr} {z : Tr} (h : 20000 < xs.length) : fitS xs z = (uf, 4) := by unfold fitS; rw [if_neg (by rw [qxd h]; decide)]
theorem zbd {xs : List Tr} {z : Tr} (h : ze qs (zu xs z) = true) : fitS xs z = (zu xs z, 0) := by unfold fitS; rw [if_pos h]
theorem zkh {xs : List Tr} {z : Tr} (h : ze qs (zu xs z) = false) : fitS xs z = (uf, 4) := by unfold fitS; rw [if_neg (by rw [h]; decide)]
theorem Rt.take {w : World} {so : Option Addr} {ts : List Dt} (h : Rt w so ts) (n : Nat) : Rt w so (ts.take n) := fun hne => by
  obtain ⟨b, o, e, h2⟩ := h (fun k => hne (by rw [k]; simp))
  refine ⟨b, o, e, fun i t hi => h2 i t ?_⟩
  rw [List.getElem?_take] at hi
  split at hi
  · exact hi
  · cases hi
theorem Rt.drop {w : World} {so : Option Addr} {ts : List Dt} (h : Rt w so ts) (cap n : Nat) (hc : ts.length ≤ cap) : Rt w (if cap = n then so else so.map (·.add (n * 11))) (ts.drop n) := fun hne => by
  have hlt : n < ts.length := by
    apply Classical.byContradiction
    intro k
    exact hne (List.drop_of_length_le (by omega))
  obtain ⟨b, o, e, h2⟩ := h (fun k => by rw [k] at hlt; simp at hlt)
  rw [if_neg (by omega), e]
  refine ⟨b, o + n * 11, by simp [xl], fun i t hi => ?_⟩
  rw [List.getElem?_drop] at hi
  have := h2 _ _ hi
  rwa [Nat.add_mul, ← Nat.add_assoc] at this
theorem uw {t : Tr} {xs : List Tr} (h : ju t = some xs) : Tr.bulks xs + xs.length + 1 = t.bulk := by
  rw [qkf h, kq]
  rfl
/-! ### The other way round -/
/-- So many from both vw are exchanged. -/
def RevI (ys zs : List Dt) (i : Nat) : Prop := zs.length = ys.length ∧ ∀ k, k < ys.length → zs[k]? = if k < i ∨ ys.length < k + 1 + i then ys[ys.length - 1 - k]? else ys[k]?
theorem zob (ys : List Dt) : RevI ys ys 0 := ⟨rfl, fun k hk => by rw [if_neg (by omega)]⟩
theorem zuc {ys zs : List Dt} {i : Nat} (h : RevI ys zs i) (hi : ys.length ≤ i + i + 1) : zs = ys.reverse := by
  apply List.ext_getElem?
  intro k
  by_cases hk : k < ys.length
  · rw [h.2 k hk, List.getElem?_reverse hk]
    by_cases hc : k < i ∨ ys.length < k + 1 + i
    · rw [if_pos hc]
    · rw [if_neg hc, show ys.length - 1 - k = k by omega]
  · rw [List.getElem?_eq_none (by rw [h.1]; omega), List.getElem?_eq_none (by rw [List.length_reverse]; omega)]
theorem qth {ys zs : List Dt} {i : Nat} {a b : Dt} (h : RevI ys zs i) (hi : i + i + 1 < ys.length) (ha : zs[i]? = some a) (hb : zs[ys.length - 1 - i]? = some b) : RevI ys ((zs.set i b).set (ys.length - 1 - i) a) (i + 1) := by
  refine ⟨by rw [List.length_set, List.length_set, h.1], fun k hk => ?_⟩
  have h1 := h.1
  rw [List.getElem?_set, List.getElem?_set, List.length_set]
  have ha2 := h.2 i (by omega)
  have hb2 := h.2 (ys.length - 1 - i) (by omega)
  rw [if_neg (by omega), ha] at ha2
  rw [if_neg (by omega), hb] at hb2
  by_cases e1 : ys.length - 1 - i = k
  · subst e1
    rw [if_pos rfl, if_pos (by omega), if_pos (by omega), ha2, show ys.length - 1 - (ys.length - 1 - i) = i by omega]
  · rw [if_neg e1]
    by_cases e2 : i = k
    · subst e2
      rw [if_pos rfl, if_pos (by omega), if_pos (by omega), hb2]
    · rw [if_neg e2, h.2 k hk]
      by_cases hc : k < i ∨ ys.length < k + 1 + i
      · rw [if_pos hc, if_pos (by omega)]
      · rw [if_neg hc, if_neg (by omega)]
theorem LiE_isS_30 : IsS Tryz.prog 30 11 := ⟨⟨_, Tryz.underlying30⟩, by kernel_rfl⟩
theorem qgb {w : World} {so : Option Addr} {ca : Nat} {ts : List Dt} (hR : Rt w so ts) (hD : ∀ t ∈ ts, t.rd w) (hl : ts.length ≤ 1000000000) (hT : Tabs8 w) {b : Bool} (h : (ts.all fun t => ze qs t.tr) = b) : Calls Tryz.prog 49 #[.slice so ts.length ca] w fun e w' => e = .returned (.bool b) ∧ Below w.heap.size w w' := h ▸ qwd hR hD hl hT
theorem qif {w : World} {so : Option Addr} {ca : Nat} {t : Dt} (hR : Rt w so [t]) (ht : t.rd w) (hT : Tabs8 w) {b : Bool} (h : ze qs t.tr = b) : Calls Tryz.prog 49 #[.slice so 1 ca] w fun e w' => e = .returned (.bool b) ∧ Below w.heap.size w w' :=
 qgb (ts := [t]) hR (fun u hu => by rw [List.mem_singleton.1 hu]; exact ht) (by simp) hT (by rw [List.all_cons, List.all_nil, Bool.and_true]; exact h)
theorem qgc {w0 w : World} {t : Dt} (h0 : Below w0.heap.size w0 w) (ht0 : t.rd w0) {so : Option Addr} {ca : Nat} {ts : List Dt} (hR : Rt w so ts) (hD : ∀ t ∈ ts, t.rd w) (hl : ts.length ≤ 1000000000) (hb : t.tr.bulk ≤ 1000000000) (hT : Tabs8 w) : Calls Tryz.prog 24 #[.agg (t.d.cells t.ts.length).toArray, .slice so ts.length ca] w fun e w' => (∃ so' ca' ys, e = .returned (.tuple #[.slice so' (ys : List Dt).length ca', .int .i64 0]) ∧ ((ze qs t.tr && (ts.all fun t => ze qs t.tr)) = true ∧ ju t.tr = some (ys.map Dt.tr) ∧ (∀ x ∈ ys, x.rd w0) ∧ ys.length ≤ t.tr.bulk) ∧ Mg w w' [.row 30 11 (.slice so' ys.length ca') ys.length (cellsOf ys)]) ∨ (e = .returned (.tuple #[.slice none 0 0, .int .i64 10]) ∧ ((ze qs t.tr && (ts.all fun t => ze qs t.tr)) = true ∧ ju t.tr = none) ∧ Below w.heap.size w w') ∨ (e = .returned (.tuple #[.slice none 0 0, .int .i64 2]) ∧ (ze qs t.tr && (ts.all fun t => ze qs t.tr)) = false ∧ Below w.heap.size w w') := by
 have ht := Dt.keep h0 _ ht0
 have M : Mg w w ([]) := Mg.start w
 refine qr (l := [(0, .agg (t.d.cells t.ts.length).toArray), (1, .slice so ts.length ca)]) Tryz.func24 rfl Tryz.ntmps24 rfl rfl ?_
 intro Q hret hnorm hP a A
 refine wsk fun K1 hK1 => wrl (zx (vs := [.int .i64 t.d.k, .int .i64 t.d.n, .bool t.d.y.q.b1, .slice t.d.y.o1 t.d.y.q.t1.length t.d.y.c1, .slice t.d.y.o2 t.d.y.q.q1.length t.d.y.c2, .bool t.d.y.q.b2, .slice t.d.y.o3 t.d.y.q.t2.length t.d.y.c3, .slice t.d.y.o4 t.d.y.q.q2.length t.d.y.c4, .string t.d.s, .slice t.d.ro t.d.rl.length t.d.rc, .slice t.d.lo t.ts.length t.d.lc]) (t := 30) A M rfl rfl rfl pg (qt rfl rfl) (by decide) ?_)
 intro g2 w3 M a A
 iterate 2 refine sda A λa A↦?_
 refine qa (hK1 _ _ (wsk fun K4 hK4 => wsk fun K5 hK5 => wrl (sdo A (zf M LiE_isS_30 rfl 0 rfl (cs := [.int .i64 t.d.k, .int .i64 t.d.n, .bool t.d.y.q.b1, .slice t.d.y.o1 t.d.y.q.t1.length t.d.y.c1, .slice t.d.y.o2 t.d.y.q.q1.length t.d.y.c2, .bool t.d.y.q.b2, .slice t.d.y.o3 t.d.y.q.t2.length t.d.y.c3, .slice t.d.y.o4 t.d.y.q.q2.length t.d.y.c4, .string t.d.s, .slice t.d.ro t.d.rl.length t.d.rc, .slice t.d.lo t.ts.length t.d.lc]) rfl rfl) λa A↦?_)))
 refine qfe (e := 30) (sz := 11) (m := 1) (vs := cellsOf [t]) A M rfl rfl rfl (zy rfl (by kernel_rfl)) rfl rfl (.inl (by decide)) ?_
 intro g6 w7 M a A
 rcases tf (ze qs t.tr) with hb8 | hb8
 ·
  refine gcl A M (ef rfl rfl) (qif (qci (M.has 0 rfl)).1 (Dt.keep M.bel _ ht) (hT.below M.bel) hb8) fun w10 hb9 M a A => ?_
  refine sdo (v := .bool false) A (zd rfl zj) λa A↦?_
  iterate 2 refine sdm A λa A↦?_
  rcases tf ((ts.all fun t => ze qs t.tr)) with hb11 | hb11
  ·
   refine gcl A M (ef rfl rfl) (qgb (hR.below M.bel) (fun t ht => Dt.keep M.bel _ (hD t ht)) hl (hT.below M.bel) hb11) fun w13 hb12 M a A => ?_
   refine sdo (v := .bool false) A (zd rfl zj) λa A↦?_
   refine sdk (v := .bool false) A λa A↦?_
   refine qa (hK5 _ _ (wp_cond_false (A.ev rfl) ?_))
   refine wp_skip (hK4 _ _ (wsk fun K14 hK14 => wrl (sdo A (zf M LiE_isS_30 rfl 1 rfl (cs := [.int .i64 t.d.k, .int .i64 t.d.n, .bool t.d.y.q.b1, .slice t.d.y.o1 t.d.y.q.t1.length t.d.y.c1, .slice t.d.y.o2 t.d.y.q.q1.length t.d.y.c2, .bool t.d.y.q.b2, .slice t.d.y.o3 t.d.y.q.t2.length t.d.y.c3, .slice t.d.y.o4 t.d.y.q.q2.length t.d.y.c4, .string t.d.s, .slice t.d.ro t.d.rl.length t.d.rc, .slice t.d.lo t.ts.length t.d.lc]) rfl rfl) λa A↦?_)))
   rcases tf ((ju t.tr).isSome) with hb15 | hb15
   ·
    refine sct A (ef rfl rfl) (qrd (h0.trans (M.bel.mono h0.size)) ht0 (qtd hb8) hb hb15) ?_
    rintro _ w17 ⟨so7, ca7, ys, rfl, ⟨hy1, hy2, hy3⟩, hM7⟩
    replace M : Mg w w17 (.row 30 11 (.slice so7 ys.length ca7) ys.length (cellsOf ys) :: .row 30 11 (.slice (some ⟨g6, 0, none⟩) 1 1) 1 (cellsOf [t]) :: .obj g2 (.cells (t.d.cells t.ts.length).toArray 30) :: []) := (M.both hM7 (jl (by simp) (jl (by simp) (jf jj))) (jl (by simp) (jf jj)))
    refine ⟨_, rfl, ?_⟩
    intro a A
    iterate 2 refine sdo A (zm (vs := [.slice so7 ys.length ca7, .int .i64 0]) rfl rfl) λa A↦?_
    iterate 2 refine sda A λa A↦?_
    refine qa (hK14 _ _ (wp_ret (hret _ _ (en2 A rfl (qg rfl) (qg rfl) ?_))))
    replace M : Mg w w17 (.row 30 11 (.slice so7 ys.length ca7) ys.length (cellsOf ys) :: []) := by
     have h9 := M.sub (.cons_cons _ (.cons _ (.cons _ (.refl _))))
     exact h9
    exact .inl ⟨_, _, ys, rfl, ⟨(by rw [hb8, hb11]; rfl), hy1, hy2, hy3⟩, M⟩
   ·
    refine gcl A M (ef rfl rfl) (qre (h0.trans (M.bel.mono h0.size)) ht0 (qtd hb8) hb hb15) fun w19 hb18 M a A => ?_
    iterate 2 refine sdo A (zm (vs := [.slice none 0 0, .int .i64 10]) rfl rfl) λa A↦?_
    iterate 2 refine sda A λa A↦?_
    refine qa (hK14 _ _ (wp_ret (hret _ _ (en2 A rfl (qg rfl) (qg rfl) ?_))))
    exact .inr (.inl ⟨rfl, ⟨(by rw [hb8, hb11]; rfl), Option.isSome_eq_false_iff.1 hb15 |> Option.isNone_iff_eq_none.1⟩, M.bel⟩)
  ·
   refine gcl A M (ef rfl rfl) (qgb (hR.below M.bel) (fun t ht => Dt.keep M.bel _ (hD t ht)) hl (hT.below M.bel) hb11) fun w21 hb20 M a A => ?_
   refine sdo (v := .bool true) A (zd rfl zj) λa A↦?_
   refine sdk (v := .bool true) A λa A↦?_
   refine qa (hK5 _ _ (wp_cond_true (A.ev rfl) ?_))
   refine wsk fun K22 hK22 => wrl ?_
   iterate 2 refine sda A λa A↦?_
   refine qa (hK22 _ _ (wp_ret (hret _ _ (en2 A rfl (qg rfl) (qg rfl) ?_))))
   exact .inr (.inr ⟨rfl, by rw [hb8, hb11]; rfl, M.bel⟩)
 ·
  refine gcl A M (ef rfl rfl) (qif (qci (M.has 0 rfl)).1 (Dt.keep M.bel _ ht) (hT.below M.bel) hb8) fun w24 hb23 M a A => ?_
  refine sdo (v := .bool true) A (zd rfl zj) λa A↦?_
  refine sdm A λa A↦?_
  iterate 3 refine qk A rfl rfl rfl λa A↦?_
  refine sdk (v := .bool true) A λa A↦?_
  refine qa (hK5 _ _ (wp_cond_true (A.ev rfl) ?_))
  refine wsk fun K25 hK25 => wrl ?_
  iterate 2 refine sda A λa A↦?_
  refine qa (hK25 _ _ (wp_ret (hret _ _ (en2 A rfl (qg rfl) (qg rfl) ?_))))
  exact .inr (.inr ⟨rfl, by rw [hb8]; rfl, M.bel⟩)
theorem qgd {w0 w : World} {t : Dt} (h0 : Below w0.heap.size w0 w) (ht : t.rd w0) (hb : t.tr.bulk ≤ 1000000000) (hT : Tabs8 w) (hs : ze qs t.tr = true) (h : (ju t.tr).isSome = true) : Calls Tryz.prog 24 #[.agg (t.d.cells t.ts.length).toArray, .slice none 0 0] w fun e w' => ∃ so' ca' ys, e = .returned (.tuple #[.slice so' (ys : List Dt).length ca', .int .i64 0]) ∧ (ju t.tr = some (ys.map Dt.tr) ∧ (∀ x ∈ ys, x.rd w0) ∧ ys.length ≤ t.tr.bulk) ∧ Mg w w' [.row 30 11 (.slice so' ys.length ca') ys.length (cellsOf ys)] := by
 refine (qgc (ts := []) h0 ht (so := none) (ca := 0) (fun k => absurd rfl k) (fun t h => by cases h) (by decide) hb hT).mono ?_
 rintro e w' (⟨so', ca', ys, h1, h2, h3⟩ | ⟨_, h2, _⟩ | ⟨_, h2, _⟩)
 ·
  exact ⟨so', ca', ys, h1, h2.2, h3⟩
 ·
  rw [h2.2] at h; cases h
 ·
  rw [hs] at h2; cases h2
theorem qpc {w0 w : World} {t : Dt} (h0 : Below w0.heap.size w0 w) (ht : t.rd w0) (hb : t.tr.bulk ≤ 1000000000) (hT : Tabs8 w) (hs : ze qs t.tr = true) (h : (ju t.tr).isSome = false) : Calls Tryz.prog 24 #[.agg (t.d.cells t.ts.length).toArray, .slice none 0 0] w fun e w' => e = .returned (.tuple #[.slice none 0 0, .int .i64 10]) ∧ Below w.heap.size w w' := by
 refine (qgc (ts := []) h0 ht (so := none) (ca := 0) (fun k => absurd rfl k) (fun t h => by cases h) (by decide) hb hT).mono ?_
 rintro e w' (⟨so', ca', ys, h1, h2, h3⟩ | ⟨h1, h2, h3⟩ | ⟨_, h2, _⟩)
 ·
  rw [h2.2.1] at h; cases h
 ·
  exact ⟨h1, h3⟩
 ·
  rw [hs] at h2; cases h2
theorem qje {w0 w : World} {t : Dt} (h0 : Below w0.heap.size w0 w) (ht : t.rd w0) (hb : t.tr.bulk ≤ 1000000000) (hT : Tabs8 w) (hs : ze qs t.tr = false) : Calls Tryz.prog 24 #[.agg (t.d.cells t.ts.length).toArray, .slice none 0 0] w fun e w' => e = .returned (.tuple #[.slice none 0 0, .int .i64 2]) ∧ Below w.heap.size w w' := by
 refine (qgc (ts := []) h0 ht (so := none) (ca := 0) (fun k => absurd rfl k) (fun t h => by cases h) (by decide) hb hT).mono ?_
 rintro e w' (⟨so', ca', ys, h1, h2, h3⟩ | ⟨h1, h2, h3⟩ | ⟨h1, h2, h3⟩)
 ·
  rw [hs] at h2; cases h2.1
 ·
  rw [hs] at h2; cases h2.1
 ·
  exact ⟨h1, h3⟩
theorem LiF_isS_30 : IsS Tryz.prog 30 11 := ⟨⟨_, Tryz.underlying30⟩, by kernel_rfl⟩
theorem qpd {w : World} {so : Option Addr} {ca : Nat} {ts : List Dt} (hR : Rt w so ts) (hD : ∀ t ∈ ts, t.rd w) (hb : Tr.bulks (ts.map Dt.tr) ≤ 400000000) : Calls Tryz.prog 27 #[.slice so ts.length ca] w fun e w' => ∃ t2 : Dt, e = .returned (.agg (t2.d.cells t2.ts.length).toArray) ∧ (t2.rd w' ∧ t2.at_ (w.heap.size ≤ ·) ∧ t2.tr = zu (ts.map Dt.tr) nilT) ∧ Below w.heap.size w w' := by
 have hbl := kp ts
 have hnb : zaa.tr.bulk = 1 := by rw [qmb]; rfl
 have M : Mg w w ([]) := Mg.start w
 refine qr (l := [(0, .slice so ts.length ca)]) Tryz.func27 rfl Tryz.ntmps27 rfl rfl ?_
 intro Q hret hnorm hP a A
 refine wsk fun K1 hK1 => wrl (zx (vs := [.int .i64 0, .int .i64 0, .bool false, .slice none 0 0, .slice none 0 0, .bool false, .slice none 0 0, .slice none 0 0, .string (⟨#[]⟩), .slice none 0 0, .slice none 0 0]) (t := 30) A M rfl rfl rfl pg (qp (z := .agg #[.int .i64 0, .int .i64 0, .bool false, .slice none 0 0, .slice none 0 0, .bool false, .slice none 0 0, .slice none 0 0, .string (⟨#[]⟩), .slice none 0 0, .slice none 0 0]) (by kernel_rfl) rfl) (by decide) ?_)
 intro g2 w3 M a A
 refine qa (hK1 _ _ (wsk fun K4 hK4 => wrl (sdm A λa A↦?_)))
 refine gcl A M (ef rfl rfl) (zkg) fun w6 hb5 M a A => ?_
 have hlt7 := (Ck.lt (M.has 0 rfl) g2 rfl).2
 have hzt3 := M.bel.size
 refine sct A (ef rfl rfl) (qoj (hR.below M.bel) (fun t ht => Dt.keep M.bel _ (hD t ht)) (zjh _) (by omega)) ?_
 rintro _ w9 ⟨t3, rfl, ⟨hrt3, htt3⟩, hb8⟩
 replace M := M.call hb8
 refine ⟨_, rfl, ?_⟩
 intro a A
 have hlt10 := (Ck.lt (M.has 0 rfl) g2 rfl).2
 have hzt2 := M.bel.size
 refine sct A (ef rfl rfl) (qfh t3 hrt3 (by rw [htt3, kq, List.length_map]; omega)) ?_
 rintro _ w12 ⟨t2, rfl, ⟨hrt2, hat2, htt2⟩, hb11⟩
 replace M := M.call hb11
 refine ⟨_, rfl, ?_⟩
 intro a A
 refine kj (us := [.int .i64 t2.d.k, .int .i64 t2.d.n, .bool t2.d.y.q.b1, .slice t2.d.y.o1 t2.d.y.q.t1.length t2.d.y.c1, .slice t2.d.y.o2 t2.d.y.q.q1.length t2.d.y.c2, .bool t2.d.y.q.b2, .slice t2.d.y.o3 t2.d.y.q.t2.length t2.d.y.c3, .slice t2.d.y.o4 t2.d.y.q.q2.length t2.d.y.c4, .string t2.d.s, .slice t2.d.ro t2.d.rl.length t2.d.rc, .slice t2.d.lo t2.ts.length t2.d.lc]) (L' := (.obj g2 (.cells (t2.d.cells t2.ts.length).toArray 30) :: [])) A M rfl rfl (zh rfl rfl rfl (by kernel_rfl) M 0 rfl rfl rfl) 0 rfl rfl rfl ?_
 intro w13 M hK14
 replace hrt2 := Dt.kept hK14 _ hrt2 (Dt.at_mono (fun b hb => by rintro rfl; omega) _ hat2)
 refine qa (hK4 _ _ (wp_ret (hret _ _ (en1 A rfl (jv M LiF_isS_30 rfl 0 rfl (cs := [.int .i64 t2.d.k, .int .i64 t2.d.n, .bool t2.d.y.q.b1, .slice t2.d.y.o1 t2.d.y.q.t1.length t2.d.y.c1, .slice t2.d.y.o2 t2.d.y.q.q1.length t2.d.y.c2, .bool t2.d.y.q.b2, .slice t2.d.y.o3 t2.d.y.q.t2.length t2.d.y.c3, .slice t2.d.y.o4 t2.d.y.q.q2.length t2.d.y.c4, .string t2.d.s, .slice t2.d.ro t2.d.rl.length t2.d.rc, .slice t2.d.lo t2.ts.length t2.d.lc]) rfl rfl) ?_))))
 exact ⟨t2, rfl, ⟨hrt2, Dt.at_mono (fun b hb => Nat.le_trans hzt2 hb) _ hat2, by rw [htt2, htt3, qmb]⟩, M.bel⟩
theorem zbe {w : World} {so : Option Addr} {ca : Nat} {ts : List Dt} (hR : Rt w so ts) (hD : ∀ t ∈ ts, t.rd w) {u : Dt} (hu : u.rd w) (hb : Tr.bulks (ts.map Dt.tr) + u.tr.bulk ≤ 400000000) (hT : Tabs8 w) : Calls Tryz.prog 42 #[.slice so ts.length ca, .agg (u.d.cells u.ts.length).toArray] w fun e w' => ∃ (t2 : Dt) (k : Int), e = .returned (.tuple #[.agg (t2.d.cells t2.ts.length).toArray, .int .i64 k]) ∧ (t2.rd w' ∧ t2.at_ (w.heap.size ≤ ·) ∧ (t2.tr, k) = fitS (ts.map Dt.tr) u.tr) ∧ Below w.heap.size w w' := by
 have hbl := kp ts
 have M : Mg w w ([]) := Mg.start w
 refine qr (l := [(0, .slice so ts.length ca), (1, .agg (u.d.cells u.ts.length).toArray)]) Tryz.func42 rfl Tryz.ntmps42 rfl rfl ?_
 intro Q hret hnorm hP a A
 refine wsk fun K1 hK1 => wrl (zx (vs := [.int .i64 u.d.k, .int .i64 u.d.n, .bool u.d.y.q.b1, .slice u.d.y.o1 u.d.y.q.t1.length u.d.y.c1, .slice u.d.y.o2 u.d.y.q.q1.length u.d.y.c2, .bool u.d.y.q.b2, .slice u.d.y.o3 u.d.y.q.t2.length u.d.y.c3, .slice u.d.y.o4 u.d.y.q.q2.length u.d.y.c4, .string u.d.s, .slice u.d.ro u.d.rl.length u.d.rc, .slice u.d.lo u.ts.length u.d.lc]) (t := 30) A M rfl rfl rfl pg (qt rfl rfl) (by decide) ?_)
 intro g2 w3 M a A
 refine zx (vs := [.int .i64 0, .int .i64 0, .bool false, .slice none 0 0, .slice none 0 0, .bool false, .slice none 0 0, .slice none 0 0, .string (⟨#[]⟩), .slice none 0 0, .slice none 0 0]) (t := 30) A M rfl rfl rfl pg (qp (z := .agg #[.int .i64 0, .int .i64 0, .bool false, .slice none 0 0, .slice none 0 0, .bool false, .slice none 0 0, .slice none 0 0, .string (⟨#[]⟩), .slice none 0 0, .slice none 0 0]) (by kernel_rfl) rfl) (by decide) ?_
 intro g4 w5 M a A
 refine sda A λa A↦?_
 refine qa (hK1 _ _ (wsk fun K6 hK6 => wsk fun K7 hK7 => wrl (sdm A λa A↦?_)))
 refine sdo A (qz Tryz.underlying28 rfl) λa A↦?_
 rcases tf (decide (20000 < ((ts.length : Nat) : Int))) with hb8 | hb8
 ·
  have hb8' := of_decide_eq_true hb8
  refine sdc A ja hb8 λa A↦?_
  refine qa (hK7 _ _ (wp_cond_true (A.ev rfl) ?_))
  refine wsk fun K9 hK9 => wrl (sdo (v := .agg #[.int .i64 0, .int .i64 0, .bool false, .slice none 0 0, .slice none 0 0, .bool false, .slice none 0 0, .slice none 0 0, .string (⟨#[]⟩), .slice none 0 0, .slice none 0 0]) A (zw rfl (fun w => by kernel_rfl)) λa A↦?_)
  refine jb (us := [.int .i64 0, .int .i64 0, .bool false, .slice none 0 0, .slice none 0 0, .bool false, .slice none 0 0, .slice none 0 0, .string (⟨#[]⟩), .slice none 0 0, .slice none 0 0]) (L' := (.obj g4 (.cells #[.int .i64 0, .int .i64 0, .bool false, .slice none 0 0, .slice none 0 0, .bool false, .slice none 0 0, .slice none 0 0, .string (⟨#[]⟩), .slice none 0 0, .slice none 0 0] 30) :: .obj g2 (.cells (u.d.cells u.ts.length).toArray 30) :: [])) A M rfl rfl (zh rfl rfl rfl (by kernel_rfl) M 0 rfl rfl rfl) 0 rfl rfl rfl ?_
  intro w10 M
  refine sda A λa A↦?_
  refine qa (hK9 _ _ (wp_ret (hret _ _ (en2 A rfl (jv M LiF_isS_30 rfl 0 rfl (cs := [.int .i64 0, .int .i64 0, .bool false, .slice none 0 0, .slice none 0 0, .bool false, .slice none 0 0, .slice none 0 0, .string (⟨#[]⟩), .slice none 0 0, .slice none 0 0]) rfl rfl) (qg rfl) ?_))))
  exact ⟨qib, 4, rfl, ⟨qda _, qdb _, by rw [zoa (by rw [List.length_map]; omega), qcj]⟩, M.bel⟩
 ·
  have hb8' := of_decide_eq_false hb8
  refine sdc A ja hb8 λa A↦?_
  refine qa (hK7 _ _ (wp_cond_false (A.ev rfl) ?_))
  refine wp_skip (hK6 _ _ (wsk fun K11 hK11 => wrl (sdm A λa A↦?_)))
  refine sdo A (zf M LiF_isS_30 rfl 1 rfl (cs := [.int .i64 u.d.k, .int .i64 u.d.n, .bool u.d.y.q.b1, .slice u.d.y.o1 u.d.y.q.t1.length u.d.y.c1, .slice u.d.y.o2 u.d.y.q.q1.length u.d.y.c2, .bool u.d.y.q.b2, .slice u.d.y.o3 u.d.y.q.t2.length u.d.y.c3, .slice u.d.y.o4 u.d.y.q.q2.length u.d.y.c4, .string u.d.s, .slice u.d.ro u.d.rl.length u.d.rc, .slice u.d.lo u.ts.length u.d.lc]) rfl rfl) λa A↦?_
  have hlt12 := (Ck.lt (M.has 0 rfl) g4 rfl).2
  have hlt13 := (Ck.lt (M.has 1 rfl) g2 rfl).2
  have hzt3 := M.bel.size
  refine sct A (ef rfl rfl) (qoj (hR.below M.bel) (fun t ht => Dt.keep M.bel _ (hD t ht)) (Dt.keep M.bel _ hu) (by omega)) ?_
  rintro _ w15 ⟨t3, rfl, ⟨hrt3, htt3⟩, hb14⟩
  replace M := M.call hb14
  refine ⟨_, rfl, ?_⟩
  intro a A
  refine zeh (vs := [.int .i64 0, .int .i64 0, .bool false, .slice none 0 0, .slice none 0 0, .bool false, .slice none 0 0, .slice none 0 0, .string (⟨#[]⟩), .slice none 0 0, .slice none 0 0]) (t := 30) A M rfl rfl rfl pg (qp (z := .agg #[.int .i64 0, .int .i64 0, .bool false, .slice none 0 0, .slice none 0 0, .bool false, .slice none 0 0, .slice none 0 0, .string (⟨#[]⟩), .slice none 0 0, .slice none 0 0]) (by kernel_rfl) rfl) (by decide) ?_
  intro g16 w17 M hg18 hb19 a A
  have hnt3g16 := Dt.at_mono (q := (· ≠ g16)) (fun b hb => by intro e; omega) _ (Dt.at_lt _ hrt3)
  replace hrt3 := Dt.keep hb19 _ hrt3
  refine kj (us := [.int .i64 t3.d.k, .int .i64 t3.d.n, .bool t3.d.y.q.b1, .slice t3.d.y.o1 t3.d.y.q.t1.length t3.d.y.c1, .slice t3.d.y.o2 t3.d.y.q.q1.length t3.d.y.c2, .bool t3.d.y.q.b2, .slice t3.d.y.o3 t3.d.y.q.t2.length t3.d.y.c3, .slice t3.d.y.o4 t3.d.y.q.q2.length t3.d.y.c4, .string t3.d.s, .slice t3.d.ro t3.d.rl.length t3.d.rc, .slice t3.d.lo t3.ts.length t3.d.lc]) (L' := (.obj g16 (.cells (t3.d.cells t3.ts.length).toArray 30) :: .obj g4 (.cells #[.int .i64 0, .int .i64 0, .bool false, .slice none 0 0, .slice none 0 0, .bool false, .slice none 0 0, .slice none 0 0, .string (⟨#[]⟩), .slice none 0 0, .slice none 0 0] 30) :: .obj g2 (.cells (u.d.cells u.ts.length).toArray 30) :: [])) A M rfl rfl (zh rfl rfl rfl (by kernel_rfl) M 0 rfl rfl rfl) 0 rfl rfl rfl ?_
  intro w20 M hK21
  replace hrt3 := Dt.kept hK21 _ hrt3 hnt3g16
  refine qa (hK11 _ _ (wsk fun K22 hK22 => wsk fun K23 hK23 => wrl (sdo A (zf M LiF_isS_30 rfl 0 rfl (cs := [.int .i64 t3.d.k, .int .i64 t3.d.n, .bool t3.d.y.q.b1, .slice t3.d.y.o1 t3.d.y.q.t1.length t3.d.y.c1, .slice t3.d.y.o2 t3.d.y.q.q1.length t3.d.y.c2, .bool t3.d.y.q.b2, .slice t3.d.y.o3 t3.d.y.q.t2.length t3.d.y.c3, .slice t3.d.y.o4 t3.d.y.q.q2.length t3.d.y.c4, .string t3.d.s, .slice t3.d.ro t3.d.rl.length t3.d.rc, .slice t3.d.lo t3.ts.length t3.d.lc]) rfl rfl) λa A↦?_)))
  rcases tf (ze qs t3.tr) with hb24 | hb24
  ·
   refine sct A (ef rfl rfl) ((hb24 ▸ sound_any (t := t3) hrt3 (hT.below M.bel))) ?_
   rintro _ w26 ⟨rfl, hb25⟩
   replace hrt3 := Dt.keep hb25 _ hrt3
   replace M := M.call hb25
   refine ⟨_, rfl, ?_⟩
   intro a A
   refine sdo (v := .bool false) A (zd rfl zj) λa A↦?_
   refine qa (hK23 _ _ (wp_cond_false (A.ev rfl) ?_))
   refine wp_skip (hK22 _ _ (wsk fun K27 hK27 => wrl (sdo A (zf M LiF_isS_30 rfl 0 rfl (cs := [.int .i64 t3.d.k, .int .i64 t3.d.n, .bool t3.d.y.q.b1, .slice t3.d.y.o1 t3.d.y.q.t1.length t3.d.y.c1, .slice t3.d.y.o2 t3.d.y.q.q1.length t3.d.y.c2, .bool t3.d.y.q.b2, .slice t3.d.y.o3 t3.d.y.q.t2.length t3.d.y.c3, .slice t3.d.y.o4 t3.d.y.q.q2.length t3.d.y.c4, .string t3.d.s, .slice t3.d.ro t3.d.rl.length t3.d.rc, .slice t3.d.lo t3.ts.length t3.d.lc]) rfl rfl) λa A↦?_)))
   have hlt28 := (Ck.lt (M.has 0 rfl) g16 rfl).2
   have hlt29 := (Ck.lt (M.has 1 rfl) g4 rfl).2
   have hlt30 := (Ck.lt (M.has 2 rfl) g2 rfl).2
   have hzt2 := M.bel.size
   refine sct A (ef rfl rfl) (qfh t3 hrt3 (by rw [htt3, kq, List.length_map]; omega)) ?_
   rintro _ w32 ⟨t2, rfl, ⟨hrt2, hat2, htt2⟩, hb31⟩
   replace M := M.call hb31
   refine ⟨_, rfl, ?_⟩
   intro a A
   refine kj (us := [.int .i64 t2.d.k, .int .i64 t2.d.n, .bool t2.d.y.q.b1, .slice t2.d.y.o1 t2.d.y.q.t1.length t2.d.y.c1, .slice t2.d.y.o2 t2.d.y.q.q1.length t2.d.y.c2, .bool t2.d.y.q.b2, .slice t2.d.y.o3 t2.d.y.q.t2.length t2.d.y.c3, .slice t2.d.y.o4 t2.d.y.q.q2.length t2.d.y.c4, .string t2.d.s, .slice t2.d.ro t2.d.rl.length t2.d.rc, .slice t2.d.lo t2.ts.length t2.d.lc]) (L' := (.obj g16 (.cells (t3.d.cells t3.ts.length).toArray 30) :: .obj g4 (.cells (t2.d.cells t2.ts.length).toArray 30) :: .obj g2 (.cells (u.d.cells u.ts.length).toArray 30) :: [])) A M rfl rfl (zh rfl rfl rfl (by kernel_rfl) M 1 rfl rfl rfl) 1 rfl rfl rfl ?_
   intro w33 M hK34
   replace hrt2 := Dt.kept hK34 _ hrt2 (Dt.at_mono (fun b hb => by rintro rfl; omega) _ hat2)
   refine sda A λa A↦?_
   refine qa (hK27 _ _ (wp_ret (hret _ _ (en2 A rfl (jv M LiF_isS_30 rfl 1 rfl (cs := [.int .i64 t2.d.k, .int .i64 t2.d.n, .bool t2.d.y.q.b1, .slice t2.d.y.o1 t2.d.y.q.t1.length t2.d.y.c1, .slice t2.d.y.o2 t2.d.y.q.q1.length t2.d.y.c2, .bool t2.d.y.q.b2, .slice t2.d.y.o3 t2.d.y.q.t2.length t2.d.y.c3, .slice t2.d.y.o4 t2.d.y.q.q2.length t2.d.y.c4, .string t2.d.s, .slice t2.d.ro t2.d.rl.length t2.d.rc, .slice t2.d.lo t2.ts.length t2.d.lc]) rfl rfl) (qg rfl) ?_))))
   exact ⟨t2, 0, rfl, ⟨hrt2, Dt.at_mono (fun b hb => Nat.le_trans hzt2 hb) _ hat2, by rw [htt3] at hb24; rw [zbd hb24, htt2, htt3]⟩, M.bel⟩
  ·
   refine sct A (ef rfl rfl) ((hb24 ▸ sound_any (t := t3) hrt3 (hT.below M.bel))) ?_
   rintro _ w36 ⟨rfl, hb35⟩
   replace hrt3 := Dt.keep hb35 _ hrt3
   replace M := M.call hb35
   refine ⟨_, rfl, ?_⟩
   intro a A
   refine sdo (v := .bool true) A (zd rfl zj) λa A↦?_
   refine qa (hK23 _ _ (wp_cond_true (A.ev rfl) ?_))
   refine wsk fun K37 hK37 => wrl (sdo (v := .agg #[.int .i64 0, .int .i64 0, .bool false, .slice none 0 0, .slice none 0 0, .bool false, .slice none 0 0, .slice none 0 0, .string (⟨#[]⟩), .slice none 0 0, .slice none 0 0]) A (zw rfl (fun w => by kernel_rfl)) λa A↦?_)
   refine kj (us := [.int .i64 0, .int .i64 0, .bool false, .slice none 0 0, .slice none 0 0, .bool false, .slice none 0 0, .slice none 0 0, .string (⟨#[]⟩), .slice none 0 0, .slice none 0 0]) (L' := (.obj g16 (.cells (t3.d.cells t3.ts.length).toArray 30) :: .obj g4 (.cells #[.int .i64 0, .int .i64 0, .bool false, .slice none 0 0, .slice none 0 0, .bool false, .slice none 0 0, .slice none 0 0, .string (⟨#[]⟩), .slice none 0 0, .slice none 0 0] 30) :: .obj g2 (.cells (u.d.cells u.ts.length).toArray 30) :: [])) A M rfl rfl (zh rfl rfl rfl (by kernel_rfl) M 1 rfl rfl rfl) 1 rfl rfl rfl ?_
   intro w38 M hK39
   refine sda A λa A↦?_
   refine qa (hK37 _ _ (wp_ret (hret _ _ (en2 A rfl (jv M LiF_isS_30 rfl 1 rfl (cs := [.int .i64 0, .int .i64 0, .bool false, .slice none 0 0, .slice none 0 0, .bool false, .slice none 0 0, .slice none 0 0, .string (⟨#[]⟩), .slice none 0 0, .slice none 0 0]) rfl rfl) (qg rfl) ?_))))
   exact ⟨qib, 4, rfl, ⟨qda _, qdb _, by rw [htt3] at hb24; rw [zkh hb24, qcj]⟩, M.bel⟩
theorem LiG_isS_30 : IsS Tryz.prog 30 11 := ⟨⟨_, Tryz.underlying30⟩, by kernel_rfl⟩
theorem zud {w0 w : World} {g9 c9 : Nat} {ys : List Dt} {T : List Ck} (hl : ys.length ≤ 1000000000) (hne : ys ≠ []) (hM0 : Mg w0 w (.row 30 11 (.slice (some ⟨g9, 0, none⟩) ys.length c9) ys.length (cellsOf ys) :: T)) : Calls Tryz.prog 46 #[.slice (some ⟨g9, 0, none⟩) ys.length c9] w fun e w' => e = .returned (.tuple #[]) ∧ Mg w0 w' (.row 30 11 (.slice (some ⟨g9, 0, none⟩) ys.length c9) ys.length (cellsOf ys.reverse) :: T) := by
 have hpos : 0 < ys.length := List.length_pos_iff.2 hne
 have M : Mg w0 w (.row 30 11 (.slice (some ⟨g9, 0, none⟩) ys.length c9) ys.length (cellsOf ys) :: T) := hM0
 refine qr (l := [(0, .slice (some ⟨g9, 0, none⟩) ys.length c9)]) Tryz.func46 rfl Tryz.ntmps46 rfl rfl ?_
 intro Q hret hnorm hP a A
 refine wsk fun K1 hK1 => wrl (sdm A λa A↦?_)
 refine sdo A (qz Tryz.underlying28 rfl) λa A↦?_
 refine sdo (v := .int .i64 (((ys.length : Nat) : Int) - 1 - ((0 : Nat) : Int))) A (qf rfl rfl (ar_sub ((in_i64 (by omega) (by omega)).trans (by omega)))) λa A↦?_
 iterate 2 refine sda A λa A↦?_
 refine qa (hK1 _ _ (wp_block (zt (fun m_ a w1 => ∃ (i : Nat) (zs : List Dt), m_ = 1 + (ys.length - i) ∧ (i ≤ ys.length ∧ RevI ys zs i) ∧ Sl a 28 [(0, .slice (some ⟨g9, 0, none⟩) ys.length c9), (2, .int .i64 (((i : Nat) : Int))), (3, .int .i64 (((ys.length : Nat) : Int) - 1 - ((i : Nat) : Int))), (4, .slice (some ⟨g9, 0, none⟩) ys.length c9), (5, .int .i64 (((ys.length : Nat) : Int))), (6, .int .i64 (((ys.length : Nat) : Int) - 1 - ((0 : Nat) : Int)))] ∧ Mg w0 w1 (.row 30 11 (.slice (some ⟨g9, 0, none⟩) ys.length c9) ys.length (cellsOf zs) :: T)) _ ⟨0, ys, rfl, ⟨Nat.zero_le _, zob ys⟩, A.keep _ ⟨rfl, rfl, rfl, rfl, rfl, rfl, trivial⟩, M⟩ ?_)))
 clear M A
 rintro m_ a w2 ⟨i, zs, rfl, hinv4, A, M⟩ K3 hK3
 obtain ⟨hi0, hrv⟩ := hinv4
 refine wsk fun K5 hK5 => wsk fun K6 hK6 => wrl ?_
 iterate 2 refine sdm A λa A↦?_
 rcases tf (decide (((i : Nat) : Int) < ((ys.length : Nat) : Int) - 1 - ((i : Nat) : Int))) with hb7 | hb7
 ·
  have hb7' := of_decide_eq_true hb7
  refine sdc A qw hb7 λa A↦?_
  refine qa (hK6 _ _ (wp_cond_true (A.ev rfl) ?_))
  refine wp_skip (hK5 _ _ (wsk fun K8 hK8 => wp_block ?_))
  have hzl := hrv.1
  obtain ⟨a1, hza⟩ : ∃ a, zs[i]? = some a := ⟨_, List.getElem?_eq_getElem (by omega)⟩
  obtain ⟨b1, hzb⟩ : ∃ b, zs[ys.length - 1 - i]? = some b := ⟨_, List.getElem?_eq_getElem (by omega)⟩
  refine jc (S := fun w1 => Mg w0 w1 ([])) (by kernel_rfl) ?_
  replace M := M.drew
  refine qe A 0 rfl rfl rfl rfl hP (M.sub (.cons _ (List.nil_sublist _))) (fun w1 M => qh rfl) λa A↦?_
  refine qe A 1 rfl rfl rfl rfl hP (M.sub (.cons _ (List.nil_sublist _))) (fun w1 M => qh rfl) λa A↦?_
  refine qe A 2 rfl rfl rfl rfl hP (M.sub (.cons _ (List.nil_sublist _))) (fun w1 M => qh rfl) λa A↦?_
  refine qe A 3 rfl rfl rfl rfl hP (M.sub (.cons _ (List.nil_sublist _))) (fun w1 M => qh rfl) λa A↦?_
  refine qe A 4 rfl rfl rfl rfl hP (M.sub (.cons _ (List.nil_sublist _))) (fun w1 M => qh rfl) λa A↦?_
  refine qe A 5 rfl rfl rfl rfl hP (M.sub (.cons _ (List.nil_sublist _))) (fun w1 M => qh rfl) λa A↦?_
  refine qe (v := .pointer (some ⟨g9, (ys.length - 1 - i) * 11, none⟩)) A 6 rfl rfl rfl rfl hP (M.sub (.cons _ (List.nil_sublist _))) (fun w1 M => qx (k := (ys.length - 1 - i)) Tryz.underlying28 (by kernel_rfl) rfl rfl (by omega) (by omega)) λa A↦?_
  refine qe A 8 rfl rfl rfl rfl hP (M.sub (.cons _ (List.nil_sublist _))) (fun w1 M => qh rfl) λa A↦?_
  refine qe A 9 rfl rfl rfl rfl hP (M.sub (.cons _ (List.nil_sublist _))) (fun w1 M => qh rfl) λa A↦?_
  refine qe (v := .pointer (some ⟨g9, i * 11, none⟩)) A 10 rfl rfl rfl rfl hP (M.sub (.cons _ (List.nil_sublist _))) (fun w1 M => qx (k := i) Tryz.underlying28 (by kernel_rfl) rfl rfl (by omega) (by omega)) λa A↦?_
  refine jt (rs := [7, 11]) (by kernel_rfl) (by simp) ⟨?_, ?_, trivial⟩
  ·
   refine xk A 7 rfl rfl rfl rfl (jd (o := (ys.length - 1 - i) * 11) (cs := b1.d.cells b1.ts.length) M 0 rfl LiG_isS_30 (zl hzb) rfl rfl) (M.sub (.cons _ (List.nil_sublist _))) λa A↦?_
   refine qi (by kernel_rfl) (xk A 11 rfl rfl rfl rfl (jd (o := i * 11) (cs := a1.d.cells a1.ts.length) M 0 rfl LiG_isS_30 (zl hza) rfl rfl) (M.sub (.cons _ (List.nil_sublist _))) ?_)
   intro a A
   refine qe (v := .pointer (some ⟨g9, i * 11, none⟩)) A 12 rfl rfl rfl rfl hP (M.sub (.cons _ (List.nil_sublist _))) (fun w1 M => qx (k := i) Tryz.underlying28 (by kernel_rfl) rfl rfl (by omega) (by omega)) λa A↦?_
   refine qi (by kernel_rfl) (jk (us := cellsOf (zs.set i b1)) (L' := (.row 30 11 (.slice (some ⟨g9, 0, none⟩) ys.length c9) ys.length (cellsOf (zs.set i b1)) :: T)) A M 13 rfl rfl rfl (jo (cs := b1.d.cells b1.ts.length) rfl rfl rfl (by kernel_rfl) M 0 rfl (by show _ + 11 ≤ _; omega) (je b1)) 0 rfl (jp (by rw [hzl]; omega) rfl) rfl ?_)
   intro w9 M
   refine ⟨(M.sub (.cons _ (List.nil_sublist _))), ?_⟩
   refine qe (v := .pointer (some ⟨g9, (ys.length - 1 - i) * 11, none⟩)) A 14 rfl rfl rfl rfl hP (M.sub (.cons _ (List.nil_sublist _))) (fun w1 M => qx (k := (ys.length - 1 - i)) Tryz.underlying28 (by kernel_rfl) rfl rfl (by omega) (by omega)) λa A↦?_
   refine qi (by kernel_rfl) (jk (us := cellsOf ((zs.set i b1).set (ys.length - 1 - i) a1)) (L' := (.row 30 11 (.slice (some ⟨g9, 0, none⟩) ys.length c9) ys.length (cellsOf ((zs.set i b1).set (ys.length - 1 - i) a1)) :: T)) A M 15 rfl rfl rfl (jo (cs := a1.d.cells a1.ts.length) rfl rfl rfl (by kernel_rfl) M 0 rfl (by show _ + 11 ≤ _; omega) (je a1)) 0 rfl (jp (by rw [List.length_set, hzl]; omega) rfl) rfl ?_)
   intro w10 M
   refine ⟨(M.sub (.cons _ (List.nil_sublist _))), ?_⟩
   refine zb (by kernel_rfl) ?_
   refine hK8 _ _ (wrl (sdm A λa A↦?_))
   refine sdo (v := .int .i64 (((i + 1 : Nat) : Int))) A (qf rfl rfl (ar_add ((in_i64 (by omega) (by omega)).trans (by omega)))) λa A↦?_
   refine sdm A λa A↦?_
   refine sdo (v := .int .i64 (((ys.length : Nat) : Int) - 1 - ((i + 1 : Nat) : Int))) A (qf rfl rfl (ar_sub ((in_i64 (by omega) (by omega)).trans (by omega)))) λa A↦?_
   iterate 2 refine sda A λa A↦?_
   refine qa ?_
   refine hK3 _ _ _ (by omega) ⟨i + 1, ((zs.set i b1).set (ys.length - 1 - i) a1), rfl, ⟨by omega, qth hrv (by omega) hza hzb⟩, A.keep _ ⟨rfl, rfl, rfl, rfl, rfl, rfl, trivial⟩, M⟩
  ·
   refine xk A 11 rfl rfl rfl rfl (jd (o := i * 11) (cs := a1.d.cells a1.ts.length) M 0 rfl LiG_isS_30 (zl hza) rfl rfl) (M.sub (.cons _ (List.nil_sublist _))) λa A↦?_
   refine qi (by kernel_rfl) (xk A 7 rfl rfl rfl rfl (jd (o := (ys.length - 1 - i) * 11) (cs := b1.d.cells b1.ts.length) M 0 rfl LiG_isS_30 (zl hzb) rfl rfl) (M.sub (.cons _ (List.nil_sublist _))) ?_)
   intro a A
   refine qe (v := .pointer (some ⟨g9, i * 11, none⟩)) A 12 rfl rfl rfl rfl hP (M.sub (.cons _ (List.nil_sublist _))) (fun w1 M => qx (k := i) Tryz.underlying28 (by kernel_rfl) rfl rfl (by omega) (by omega)) λa A↦?_
   refine qi (by kernel_rfl) (jk (us := cellsOf (zs.set i b1)) (L' := (.row 30 11 (.slice (some ⟨g9, 0, none⟩) ys.length c9) ys.length (cellsOf (zs.set i b1)) :: T)) A M 13 rfl rfl rfl (jo (cs := b1.d.cells b1.ts.length) rfl rfl rfl (by kernel_rfl) M 0 rfl (by show _ + 11 ≤ _; omega) (je b1)) 0 rfl (jp (by rw [hzl]; omega) rfl) rfl ?_)
   intro w11 M
   refine ⟨(M.sub (.cons _ (List.nil_sublist _))), ?_⟩
   refine qe (v := .pointer (some ⟨g9, (ys.length - 1 - i) * 11, none⟩)) A 14 rfl rfl rfl rfl hP (M.sub (.cons _ (List.nil_sublist _))) (fun w1 M => qx (k := (ys.length - 1 - i)) Tryz.underlying28 (by kernel_rfl) rfl rfl (by omega) (by omega)) λa A↦?_
   refine qi (by kernel_rfl) (jk (us := cellsOf ((zs.set i b1).set (ys.length - 1 - i) a1)) (L' := (.row 30 11 (.slice (some ⟨g9, 0, none⟩) ys.length c9) ys.length (cellsOf ((zs.set i b1).set (ys.length - 1 - i) a1)) :: T)) A M 15 rfl rfl rfl (jo (cs := a1.d.cells a1.ts.length) rfl rfl rfl (by kernel_rfl) M 0 rfl (by show _ + 11 ≤ _; omega) (je a1)) 0 rfl (jp (by rw [List.length_set, hzl]; omega) rfl) rfl ?_)
   intro w12 M
   refine ⟨(M.sub (.cons _ (List.nil_sublist _))), ?_⟩
   refine zb (by kernel_rfl) ?_
   refine hK8 _ _ (wrl (sdm A λa A↦?_))
   refine sdo (v := .int .i64 (((i + 1 : Nat) : Int))) A (qf rfl rfl (ar_add ((in_i64 (by omega) (by omega)).trans (by omega)))) λa A↦?_
   refine sdm A λa A↦?_
   refine sdo (v := .int .i64 (((ys.length : Nat) : Int) - 1 - ((i + 1 : Nat) : Int))) A (qf rfl rfl (ar_sub ((in_i64 (by omega) (by omega)).trans (by omega)))) λa A↦?_
   iterate 2 refine sda A λa A↦?_
   refine qa ?_
   refine hK3 _ _ _ (by omega) ⟨i + 1, ((zs.set i b1).set (ys.length - 1 - i) a1), rfl, ⟨by omega, qth hrv (by omega) hza hzb⟩, A.keep _ ⟨rfl, rfl, rfl, rfl, rfl, rfl, trivial⟩, M⟩
 ·
  have hb7' := of_decide_eq_false hb7
  refine sdc A qw hb7 λa A↦?_
  refine qa (hK6 _ _ (wp_cond_false (A.ev rfl) ?_))
  refine wp_exit (hnorm _ _ (vw (v := .tuple #[]) A rfl .nil rfl ?_))
  rw [zuc hrv (by omega)] at M
  exact ⟨rfl, M⟩
theorem zzi {w0 w : World} {so9 : Option Addr} {c9 : Nat} {T : List Ck} (hM0 : Mg w0 w (.row 30 11 (.slice so9 ([] : List Dt).length c9) ([] : List Dt).length (cellsOf []) :: T)) : Calls Tryz.prog 46 #[.slice so9 (([] : List Dt).length) c9] w fun e w' => e = .returned (.tuple #[]) ∧ Mg w0 w' (.row 30 11 (.slice so9 ([] : List Dt).length c9) ([] : List Dt).length (cellsOf ([] : List Dt).reverse) :: T) := by
 have M : Mg w0 w (.row 30 11 (.slice so9 (([] : List Dt).length) c9) (([] : List Dt).length) (cellsOf []) :: T) := hM0
 refine qr (l := [(0, .slice so9 (([] : List Dt).length) c9)]) Tryz.func46 rfl Tryz.ntmps46 rfl rfl ?_
 intro Q hret hnorm hP a A
 refine wsk fun K1 hK1 => wrl (sdm A λa A↦?_)
 refine sdo A (qz Tryz.underlying28 rfl) λa A↦?_
 refine sdo (v := .int .i64 (-1)) A (qf rfl rfl (ar_sub (by rfl))) λa A↦?_
 iterate 2 refine sda A λa A↦?_
 refine qa (hK1 _ _ (wp_block (wp_loop_rounds 12 ?_)))
 refine xn fun K2 hK2 => ?_
 refine wsk fun K3 hK3 => wsk fun K4 hK4 => wrl ?_
 iterate 2 refine sdm A λa A↦?_
 refine sdo (v := .bool false) A (qf rfl rfl (fun w => by kernel_rfl)) λa A↦?_
 refine qa (hK4 _ _ (wp_cond_false (A.ev rfl) ?_))
 refine wp_exit (hnorm _ _ (vw (v := .tuple #[]) A rfl .nil rfl ?_))
 exact ⟨rfl, M⟩
theorem zzj {w0 w : World} {so9 : Option Addr} {c9 : Nat} {ys : List Dt} {T : List Ck} (hl : ys.length ≤ 1000000000) (hM0 : Mg w0 w (.row 30 11 (.slice so9 ys.length c9) ys.length (cellsOf ys) :: T)) : Calls Tryz.prog 46 #[.slice so9 ys.length c9] w fun e w' => e = .returned (.tuple #[]) ∧ Mg w0 w' (.row 30 11 (.slice so9 ys.length c9) ys.length (cellsOf ys.reverse) :: T) := by
 by_cases h : ys = []
 ·
  subst h; exact zzi hM0
 ·
  obtain ⟨g, c, e⟩ := qoc (hM0.has 0 rfl) (fun k => h (List.length_eq_zero_iff.1 k))
  cases e
  exact zud hl h hM0
theorem zki {α : Type} {x : Option α} (h : x.isSome = false) : x = none := Option.isNone_iff_eq_none.1 (Option.isSome_eq_false_iff.1 h)
theorem of_any {w : World} {so : Option Addr} {ca : Nat} {ts : List Dt} (hR : Rt w so ts) (hD : ∀ t ∈ ts, t.rd w) (hb : Tr.bulks (ts.map Dt.tr) ≤ 300000000) (hT : Tabs8 w) : Calls Tryz.prog 18 #[.slice so ts.length ca] w fun e w' => ∃ t2 : Dt, e = .returned (.agg (t2.d.cells t2.ts.length).toArray) ∧ (t2.rd w' ∧ t2.at_ (w.heap.size ≤ ·) ∧ t2.tr = ofS (ts.map Dt.tr)) ∧ Below w.heap.size w w' := by
 have hnb : zaa.tr.bulk = 1 := by rw [qmb]; rfl
 have M : Mg w w ([]) := Mg.start w
 refine qr (l := [(0, .slice so ts.length ca)]) Tryz.func18 rfl Tryz.ntmps18 rfl rfl ?_
 intro Q hret hnorm hP a A
 refine wsk fun K1 hK1 => wrl (zx (vs := [.int .i64 0, .int .i64 0, .bool false, .slice none 0 0, .slice none 0 0, .bool false, .slice none 0 0, .slice none 0 0, .string (⟨#[]⟩), .slice none 0 0, .slice none 0 0]) (t := 30) A M rfl rfl rfl pg (qp (z := .agg #[.int .i64 0, .int .i64 0, .bool false, .slice none 0 0, .slice none 0 0, .bool false, .slice none 0 0, .slice none 0 0, .string (⟨#[]⟩), .slice none 0 0, .slice none 0 0]) (by kernel_rfl) rfl) (by decide) ?_)
 intro g2 w3 M a A
 refine qa (hK1 _ _ (wsk fun K4 hK4 => wrl (sdm A λa A↦?_)))
 refine gcl A M (ef rfl rfl) (zkg) fun w6 hb5 M a A => ?_
 have hlt7 := (Ck.lt (M.has 0 rfl) g2 rfl).2
 have hzt2 := M.bel.size
 refine sct A (ef rfl rfl) (zbe (u := zaa) (hR.below M.bel) (fun t ht => Dt.keep M.bel _ (hD t ht)) (zjh _) (by omega) (hT.below M.bel)) ?_
 rintro _ w9 ⟨t2, k2, rfl, ⟨hrt2, hat2, htt2⟩, hb8⟩
 replace M := M.call hb8
 refine ⟨_, rfl, ?_⟩
 intro a A
 refine sdm A λa A↦?_
 iterate 2 refine sdo A (zm (vs := [.agg (t2.d.cells t2.ts.length).toArray, .int .i64 k2]) rfl rfl) λa A↦?_
 refine zeh (vs := [.int .i64 0, .int .i64 0, .bool false, .slice none 0 0, .slice none 0 0, .bool false, .slice none 0 0, .slice none 0 0, .string (⟨#[]⟩), .slice none 0 0, .slice none 0 0]) (t := 30) A M rfl rfl rfl pg (qp (z := .agg #[.int .i64 0, .int .i64 0, .bool false, .slice none 0 0, .slice none 0 0, .bool false, .slice none 0 0, .slice none 0 0, .string (⟨#[]⟩), .slice none 0 0, .slice none 0 0]) (by kernel_rfl) rfl) (by decide) ?_
 intro g10 w11 M hg12 hb13 a A
 have hnt2g10 := Dt.at_mono (q := (· ≠ g10)) (fun b hb => by intro e; omega) _ (Dt.at_lt _ hrt2)
 replace hrt2 := Dt.keep hb13 _ hrt2
 refine kj (us := [.int .i64 t2.d.k, .int .i64 t2.d.n, .bool t2.d.y.q.b1, .slice t2.d.y.o1 t2.d.y.q.t1.length t2.d.y.c1, .slice t2.d.y.o2 t2.d.y.q.q1.length t2.d.y.c2, .bool t2.d.y.q.b2, .slice t2.d.y.o3 t2.d.y.q.t2.length t2.d.y.c3, .slice t2.d.y.o4 t2.d.y.q.q2.length t2.d.y.c4, .string t2.d.s, .slice t2.d.ro t2.d.rl.length t2.d.rc, .slice t2.d.lo t2.ts.length t2.d.lc]) (L' := (.obj g10 (.cells (t2.d.cells t2.ts.length).toArray 30) :: .obj g2 (.cells #[.int .i64 0, .int .i64 0, .bool false, .slice none 0 0, .slice none 0 0, .bool false, .slice none 0 0, .slice none 0 0, .string (⟨#[]⟩), .slice none 0 0, .slice none 0 0] 30) :: [])) A M rfl rfl (zh rfl rfl rfl (by kernel_rfl) M 0 rfl rfl rfl) 0 rfl rfl rfl ?_
 intro w14 M hK15
 replace hrt2 := Dt.kept hK15 _ hrt2 hnt2g10
 refine sda A λa A↦?_
 refine qa (hK4 _ _ (wsk fun K16 hK16 => wrl (sdo A (zf M LiG_isS_30 rfl 0 rfl (cs := [.int .i64 t2.d.k, .int .i64 t2.d.n, .bool t2.d.y.q.b1, .slice t2.d.y.o1 t2.d.y.q.t1.length t2.d.y.c1, .slice t2.d.y.o2 t2.d.y.q.q1.length t2.d.y.c2, .bool t2.d.y.q.b2, .slice t2.d.y.o3 t2.d.y.q.t2.length t2.d.y.c3, .slice t2.d.y.o4 t2.d.y.q.q2.length t2.d.y.c4, .string t2.d.s, .slice t2.d.ro t2.d.rl.length t2.d.rc, .slice t2.d.lo t2.ts.length t2.d.lc]) rfl rfl) λa A↦?_)))
 refine kj (us := [.int .i64 t2.d.k, .int .i64 t2.d.n, .bool t2.d.y.q.b1, .slice t2.d.y.o1 t2.d.y.q.t1.length t2.d.y.c1, .slice t2.d.y.o2 t2.d.y.q.q1.length t2.d.y.c2, .bool t2.d.y.q.b2, .slice t2.d.y.o3 t2.d.y.q.t2.length t2.d.y.c3, .slice t2.d.y.o4 t2.d.y.q.q2.length t2.d.y.c4, .string t2.d.s, .slice t2.d.ro t2.d.rl.length t2.d.rc, .slice t2.d.lo t2.ts.length t2.d.lc]) (L' := (.obj g10 (.cells (t2.d.cells t2.ts.length).toArray 30) :: .obj g2 (.cells (t2.d.cells t2.ts.length).toArray 30) :: [])) A M rfl rfl (zh rfl rfl rfl (by kernel_rfl) M 1 rfl rfl rfl) 1 rfl rfl rfl ?_
 intro w17 M hK18
 replace hrt2 := Dt.kept hK18 _ hrt2 (Dt.at_mono (fun b hb => by rintro rfl; omega) _ hat2)
 refine qa (hK16 _ _ (wp_ret (hret _ _ (en1 A rfl (jv M LiG_isS_30 rfl 1 rfl (cs := [.int .i64 t2.d.k, .int .i64 t2.d.n, .bool t2.d.y.q.b1, .slice t2.d.y.o1 t2.d.y.q.t1.length t2.d.y.c1, .slice t2.d.y.o2 t2.d.y.q.q1.length t2.d.y.c2, .bool t2.d.y.q.b2, .slice t2.d.y.o3 t2.d.y.q.t2.length t2.d.y.c3, .slice t2.d.y.o4 t2.d.y.q.q2.length t2.d.y.c4, .string t2.d.s, .slice t2.d.ro t2.d.rl.length t2.d.rc, .slice t2.d.lo t2.ts.length t2.d.lc]) rfl rfl) ?_))))
 exact ⟨t2, rfl, ⟨hrt2, Dt.at_mono (fun b hb => Nat.le_trans hzt2 hb) _ hat2, by unfold ofS; rw [← qmb, ← htt2]⟩, M.bel⟩
theorem qti : ∀ ts : List Tr, Tr.bulks ts.reverse = Tr.bulks ts
 | [] => rfl
 | t :: ts => by rw [List.reverse_cons, yp, qti ts, Tr.bulks, Tr.bulks, Tr.bulks]; omega
theorem zgb {w : World} {so : Option Addr} {ca : Nat} {ys : List Dt} (hR : Rt w so ys.reverse) (hD : ∀ t ∈ ys.reverse, t.rd w) (hb : Tr.bulks (ys.reverse.map Dt.tr) ≤ 400000000) : Calls Tryz.prog 27 #[.slice so ys.length ca] w fun e w' => ∃ t2 : Dt, e = .returned (.agg (t2.d.cells t2.ts.length).toArray) ∧ (t2.rd w' ∧ t2.at_ (w.heap.size ≤ ·) ∧ t2.tr = zu (ys.reverse.map Dt.tr) nilT) ∧ Below w.heap.size w w' := by
 have := qpd (ca := ca) hR hD hb
 rwa [List.length_reverse] at this
theorem qde {w : World} {t : Dt} (ht : t.rd w) (hb : t.tr.bulk ≤ 300000000) (hT : Tabs8 w) : Calls Tryz.prog 21 #[.agg (t.d.cells t.ts.length).toArray] w fun e w' => ∃ (t2 : Dt) (k : Int), e = .returned (.tuple #[.agg (t2.d.cells t2.ts.length).toArray, .int .i64 k]) ∧ (t2.rd w' ∧ t2.at_ (w.heap.size ≤ ·) ∧ (t2.tr, k) = qxe t.tr) ∧ Below w.heap.size w w' := by
 have M : Mg w w ([]) := Mg.start w
 refine qr (l := [(0, .agg (t.d.cells t.ts.length).toArray)]) Tryz.func21 rfl Tryz.ntmps21 rfl rfl ?_
 intro Q hret hnorm hP a A
 refine wsk fun K1 hK1 => wrl (zx (vs := [.int .i64 t.d.k, .int .i64 t.d.n, .bool t.d.y.q.b1, .slice t.d.y.o1 t.d.y.q.t1.length t.d.y.c1, .slice t.d.y.o2 t.d.y.q.q1.length t.d.y.c2, .bool t.d.y.q.b2, .slice t.d.y.o3 t.d.y.q.t2.length t.d.y.c3, .slice t.d.y.o4 t.d.y.q.q2.length t.d.y.c4, .string t.d.s, .slice t.d.ro t.d.rl.length t.d.rc, .slice t.d.lo t.ts.length t.d.lc]) (t := 30) A M rfl rfl rfl pg (qt rfl rfl) (by decide) ?_)
 intro g2 w3 M a A
 refine zx (vs := [.int .i64 0, .int .i64 0, .bool false, .slice none 0 0, .slice none 0 0, .bool false, .slice none 0 0, .slice none 0 0, .string (⟨#[]⟩), .slice none 0 0, .slice none 0 0]) (t := 30) A M rfl rfl rfl pg (qp (z := .agg #[.int .i64 0, .int .i64 0, .bool false, .slice none 0 0, .slice none 0 0, .bool false, .slice none 0 0, .slice none 0 0, .string (⟨#[]⟩), .slice none 0 0, .slice none 0 0]) (by kernel_rfl) rfl) (by decide) ?_
 intro g4 w5 M a A
 refine sda A λa A↦?_
 refine qa (hK1 _ _ (wsk fun K6 hK6 => wrl (sdo A (zf M LiG_isS_30 rfl 1 rfl (cs := [.int .i64 t.d.k, .int .i64 t.d.n, .bool t.d.y.q.b1, .slice t.d.y.o1 t.d.y.q.t1.length t.d.y.c1, .slice t.d.y.o2 t.d.y.q.q1.length t.d.y.c2, .bool t.d.y.q.b2, .slice t.d.y.o3 t.d.y.q.t2.length t.d.y.c3, .slice t.d.y.o4 t.d.y.q.q2.length t.d.y.c4, .string t.d.s, .slice t.d.ro t.d.rl.length t.d.rc, .slice t.d.lo t.ts.length t.d.lc]) rfl rfl) λa A↦?_)))
 rcases tf (ze qs t.tr) with hb7 | hb7
 ·
  rcases tf ((ju t.tr).isSome) with hb9 | hb9
  ·
   refine sct A (ef rfl rfl) (qgd M.bel ht (by omega) (hT.below M.bel) hb7 hb9) ?_
   rintro _ w11 ⟨so7, ca7, ys, rfl, ⟨hy1, hy2, hy3⟩, hM7⟩
   have hyb := uw hy1
   replace M : Mg w w11 (.row 30 11 (.slice so7 ys.length ca7) ys.length (cellsOf ys) :: .obj g4 (.cells #[.int .i64 0, .int .i64 0, .bool false, .slice none 0 0, .slice none 0 0, .bool false, .slice none 0 0, .slice none 0 0, .string (⟨#[]⟩), .slice none 0 0, .slice none 0 0] 30) :: .obj g2 (.cells (t.d.cells t.ts.length).toArray 30) :: []) := (M.both hM7 (jl (by simp) (jl (by simp) (jf jj))) (jl (by simp) (jf jj)))
   refine ⟨_, rfl, ?_⟩
   intro a A
   refine sdm A λa A↦?_
   iterate 2 refine sdo A (zm (vs := [.slice so7 ys.length ca7, .int .i64 0]) rfl rfl) λa A↦?_
   iterate 2 refine sda A λa A↦?_
   refine qa (hK6 _ _ (wsk fun K12 hK12 => wsk fun K13 hK13 => wrl (sdm A λa A↦?_)))
   refine sdo (v := .bool false) A (qf rfl rfl (fun w => by kernel_rfl)) λa A↦?_
   refine qa (hK13 _ _ (wp_cond_false (A.ev rfl) ?_))
   refine wp_skip (hK12 _ _ (wsk fun K14 hK14 => wrl (sdm A λa A↦?_)))
   refine sct A (ef rfl rfl) (zzj (by omega) M) ?_
   rintro _ w15 ⟨rfl, hM8⟩
   replace M : Mg w w15 (.row 30 11 (.slice so7 ys.length ca7) ys.length (cellsOf ys.reverse) :: .obj g4 (.cells #[.int .i64 0, .int .i64 0, .bool false, .slice none 0 0, .slice none 0 0, .bool false, .slice none 0 0, .slice none 0 0, .string (⟨#[]⟩), .slice none 0 0, .slice none 0 0] 30) :: .obj g2 (.cells (t.d.cells t.ts.length).toArray 30) :: []) := hM8
   refine ⟨_, rfl, ?_⟩
   intro a A
   refine qa (hK14 _ _ (wsk fun K16 hK16 => wrl (sdm A λa A↦?_)))
   have hlt17 := (Ck.lt (M.has 1 rfl) g4 rfl).2
   have hlt18 := (Ck.lt (M.has 2 rfl) g2 rfl).2
   have hzt2 := M.bel.size
   refine sct A (ef rfl rfl) (zgb (qci (M.has 0 rfl)).1 (fun t ht => Dt.keep M.bel _ (hy2 t (List.mem_reverse.1 ht))) (by rw [List.map_reverse, qti]; omega)) ?_
   rintro _ w20 ⟨t2, rfl, ⟨hrt2, hat2, htt2⟩, hb19⟩
   replace M := M.call hb19
   refine ⟨_, rfl, ?_⟩
   intro a A
   refine kj (us := [.int .i64 t2.d.k, .int .i64 t2.d.n, .bool t2.d.y.q.b1, .slice t2.d.y.o1 t2.d.y.q.t1.length t2.d.y.c1, .slice t2.d.y.o2 t2.d.y.q.q1.length t2.d.y.c2, .bool t2.d.y.q.b2, .slice t2.d.y.o3 t2.d.y.q.t2.length t2.d.y.c3, .slice t2.d.y.o4 t2.d.y.q.q2.length t2.d.y.c4, .string t2.d.s, .slice t2.d.ro t2.d.rl.length t2.d.rc, .slice t2.d.lo t2.ts.length t2.d.lc]) (L' := (.row 30 11 (.slice so7 ys.length ca7) ys.length (cellsOf ys.reverse) :: .obj g4 (.cells (t2.d.cells t2.ts.length).toArray 30) :: .obj g2 (.cells (t.d.cells t.ts.length).toArray 30) :: [])) A M rfl rfl (zh rfl rfl rfl (by kernel_rfl) M 1 rfl rfl rfl) 1 rfl rfl rfl ?_
   intro w21 M hK22
   replace hrt2 := Dt.kept hK22 _ hrt2 (Dt.at_mono (fun b hb => by rintro rfl; omega) _ hat2)
   refine sda A λa A↦?_
   refine qa (hK16 _ _ (wp_ret (hret _ _ (en2 A rfl (jv M LiG_isS_30 rfl 1 rfl (cs := [.int .i64 t2.d.k, .int .i64 t2.d.n, .bool t2.d.y.q.b1, .slice t2.d.y.o1 t2.d.y.q.t1.length t2.d.y.c1, .slice t2.d.y.o2 t2.d.y.q.q1.length t2.d.y.c2, .bool t2.d.y.q.b2, .slice t2.d.y.o3 t2.d.y.q.t2.length t2.d.y.c3, .slice t2.d.y.o4 t2.d.y.q.q2.length t2.d.y.c4, .string t2.d.s, .slice t2.d.ro t2.d.rl.length t2.d.rc, .slice t2.d.lo t2.ts.length t2.d.lc]) rfl rfl) (qg rfl) ?_))))
   exact ⟨t2, 0, rfl, ⟨hrt2, Dt.at_mono (fun b hb => Nat.le_trans hzt2 hb) _ hat2, by unfold qxe; rw [if_neg (by rw [hb7]; decide), hy1]; rw [htt2, List.map_reverse]⟩, M.bel⟩
  ·
   refine gcl A M (ef rfl rfl) (qpc M.bel ht (by omega) (hT.below M.bel) hb7 hb9) fun w24 hb23 M a A => ?_
   refine sdm A λa A↦?_
   iterate 2 refine sdo A (zm (vs := [.slice none 0 0, .int .i64 10]) rfl rfl) λa A↦?_
   iterate 2 refine sda A λa A↦?_
   refine qa (hK6 _ _ (wsk fun K25 hK25 => wsk fun K26 hK26 => wrl (sdm A λa A↦?_)))
   refine sdo (v := .bool true) A (qf rfl rfl (fun w => by kernel_rfl)) λa A↦?_
   refine qa (hK26 _ _ (wp_cond_true (A.ev rfl) ?_))
   refine wsk fun K27 hK27 => wrl (sdo (v := .agg #[.int .i64 0, .int .i64 0, .bool false, .slice none 0 0, .slice none 0 0, .bool false, .slice none 0 0, .slice none 0 0, .string (⟨#[]⟩), .slice none 0 0, .slice none 0 0]) A (zw rfl (fun w => by kernel_rfl)) λa A↦?_)
   refine sdm A λa A↦?_
   refine jb (us := [.int .i64 0, .int .i64 0, .bool false, .slice none 0 0, .slice none 0 0, .bool false, .slice none 0 0, .slice none 0 0, .string (⟨#[]⟩), .slice none 0 0, .slice none 0 0]) (L' := (.obj g4 (.cells #[.int .i64 0, .int .i64 0, .bool false, .slice none 0 0, .slice none 0 0, .bool false, .slice none 0 0, .slice none 0 0, .string (⟨#[]⟩), .slice none 0 0, .slice none 0 0] 30) :: .obj g2 (.cells (t.d.cells t.ts.length).toArray 30) :: [])) A M rfl rfl (zh rfl rfl rfl (by kernel_rfl) M 0 rfl rfl rfl) 0 rfl rfl rfl ?_
   intro w28 M
   refine sda A λa A↦?_
   refine qa (hK27 _ _ (wp_ret (hret _ _ (en2 A rfl (jv M LiG_isS_30 rfl 0 rfl (cs := [.int .i64 0, .int .i64 0, .bool false, .slice none 0 0, .slice none 0 0, .bool false, .slice none 0 0, .slice none 0 0, .string (⟨#[]⟩), .slice none 0 0, .slice none 0 0]) rfl rfl) (qg rfl) ?_))))
   exact ⟨qib, 10, rfl, ⟨qda _, qdb _, by unfold qxe; rw [if_neg (by rw [hb7]; decide), zki hb9, qcj]⟩, M.bel⟩
 ·
  refine gcl A M (ef rfl rfl) (qje M.bel ht (by omega) (hT.below M.bel) hb7) fun w30 hb29 M a A => ?_
  refine sdm A λa A↦?_
  iterate 2 refine sdo A (zm (vs := [.slice none 0 0, .int .i64 2]) rfl rfl) λa A↦?_
  iterate 2 refine sda A λa A↦?_
  refine qa (hK6 _ _ (wsk fun K31 hK31 => wsk fun K32 hK32 => wrl (sdm A λa A↦?_)))
  refine sdo (v := .bool true) A (qf rfl rfl (fun w => by kernel_rfl)) λa A↦?_
  refine qa (hK32 _ _ (wp_cond_true (A.ev rfl) ?_))
  refine wsk fun K33 hK33 => wrl (sdo (v := .agg #[.int .i64 0, .int .i64 0, .bool false, .slice none 0 0, .slice none 0 0, .bool false, .slice none 0 0, .slice none 0 0, .string (⟨#[]⟩), .slice none 0 0, .slice none 0 0]) A (zw rfl (fun w => by kernel_rfl)) λa A↦?_)
  refine sdm A λa A↦?_
  refine jb (us := [.int .i64 0, .int .i64 0, .bool false, .slice none 0 0, .slice none 0 0, .bool false, .slice none 0 0, .slice none 0 0, .string (⟨#[]⟩), .slice none 0 0, .slice none 0 0]) (L' := (.obj g4 (.cells #[.int .i64 0, .int .i64 0, .bool false, .slice none 0 0, .slice none 0 0, .bool false, .slice none 0 0, .slice none 0 0, .string (⟨#[]⟩), .slice none 0 0, .slice none 0 0] 30) :: .obj g2 (.cells (t.d.cells t.ts.length).toArray 30) :: [])) A M rfl rfl (zh rfl rfl rfl (by kernel_rfl) M 0 rfl rfl rfl) 0 rfl rfl rfl ?_
  intro w34 M
  refine sda A λa A↦?_
  refine qa (hK33 _ _ (wp_ret (hret _ _ (en2 A rfl (jv M LiG_isS_30 rfl 0 rfl (cs := [.int .i64 0, .int .i64 0, .bool false, .slice none 0 0, .slice none 0 0, .bool false, .slice none 0 0, .slice none 0 0, .string (⟨#[]⟩), .slice none 0 0, .slice none 0 0]) rfl rfl) (qg rfl) ?_))))
  exact ⟨qib, 2, rfl, ⟨qda _, qdb _, by unfold qxe; rw [if_pos hb7, qcj]⟩, M.bel⟩
theorem LiW_is1_3 : Is1 Tryz.prog 3 := ⟨⟨_, Tryz.underlying3, rfl⟩, by kernel_rfl⟩
theorem LiW_fld_30_0 : FieldAt Tryz.prog 30 0 0 := ⟨_, _, Tryz.underlying30, rfl, rfl, by kernel_rfl⟩
theorem LiW_fld_30_1 : FieldAt Tryz.prog 30 1 1 := ⟨_, _, Tryz.underlying30, rfl, rfl, by kernel_rfl⟩
theorem LiW_isS_30 : IsS Tryz.prog 30 11 := ⟨⟨_, Tryz.underlying30⟩, by kernel_rfl⟩
theorem zbf {w : World} {n : Int} : Calls Tryz.prog 86 #[.int .i64 n] w fun e w' => e = .returned (.bool false) ∧ Below w.heap.size w w' := by
 have M : Mg w w ([]) := Mg.start w
 refine qr (l := [(0, .int .i64 n)]) Tryz.func86 rfl Tryz.ntmps86 rfl rfl ?_
 intro Q hret hnorm hP a A
 refine wsk fun K1 hK1 => wrl (sda A λa A↦?_)
 refine qa (hK1 _ _ (wsk fun K2 hK2 => wrl ?_))
 iterate 2 refine sdm A λa A↦?_
 refine sdo (v := .bool false) A (qf rfl rfl (fun w => (zg w).trans (by rw [show ((n != n)) = false from (bne_self_eq_false n)]))) λa A↦?_
 refine sda A λa A↦?_
 refine qa (hK2 _ _ (wp_ret (hret _ _ (en1 A rfl (qg rfl) ?_))))
 exact ⟨rfl, M.bel⟩
theorem zoc {w : World} {m n : Int} : Calls Tryz.prog 67 #[.int .i64 m, .int .i64 n] w fun e w' => e = .returned (.int .i64 (xt m n)) ∧ Below w.heap.size w w' := by
 have M : Mg w w ([]) := Mg.start w
 refine qr (l := [(0, .int .i64 m), (1, .int .i64 n)]) Tryz.func67 rfl Tryz.ntmps67 rfl rfl ?_
 intro Q hret hnorm hP a A
 refine wsk fun K1 hK1 => wrl (sda A λa A↦?_)
 refine qa (hK1 _ _ (wsk fun K2 hK2 => wrl (sdm A λa A↦?_)))
 refine gcl A M (ef rfl rfl) (zbf) fun w4 hb3 M a A => ?_
 refine sda A λa A↦?_
 refine qa (hK2 _ _ (wsk fun K5 hK5 => wrl (sdm A λa A↦?_)))
 refine gcl A M (ef rfl rfl) (zbf) fun w7 hb6 M a A => ?_
 refine sda A λa A↦?_
 refine qa (hK5 _ _ (wsk fun K8 hK8 => wsk fun K9 hK9 => wrl (sdm A λa A↦?_)))
 refine qa (hK9 _ _ (wp_cond_false (A.ev rfl) ?_))
 refine wp_skip (hK8 _ _ (wsk fun K10 hK10 => wsk fun K11 hK11 => wrl (sdm A λa A↦?_)))
 refine qa (hK11 _ _ (wp_cond_false (A.ev rfl) ?_))
 refine wp_skip (hK10 _ _ (wsk fun K12 hK12 => wsk fun K13 hK13 => wrl ?_))
 iterate 2 refine sdm A λa A↦?_
 rcases tf (decide (m < n)) with hb14 | hb14
 ·
  have hb14' := of_decide_eq_true hb14
  refine sdc A qw hb14 λa A↦?_
  refine qa (hK13 _ _ (wp_cond_true (A.ev rfl) ?_))
  refine wsk fun K15 hK15 => wrl (sda A λa A↦?_)
  refine qa (hK15 _ _ (wp_ret (hret _ _ (en1 A rfl (qg rfl) ?_))))
  exact ⟨by rw [show xt m n = -1 from by unfold xt; (repeat' split) <;> omega], M.bel⟩
 ·
  have hb14' := of_decide_eq_false hb14
  refine sdc A qw hb14 λa A↦?_
  refine qa (hK13 _ _ (wp_cond_false (A.ev rfl) ?_))
  refine wp_skip (hK12 _ _ (wsk fun K16 hK16 => wsk fun K17 hK17 => wrl ?_))
  iterate 2 refine sdm A λa A↦?_
  rcases tf (decide (n < m)) with hb18 | hb18
  ·
   have hb18' := of_decide_eq_true hb18
   refine sdc A ja hb18 λa A↦?_
   refine qa (hK17 _ _ (wp_cond_true (A.ev rfl) ?_))
   refine wsk fun K19 hK19 => wrl (sda A λa A↦?_)
   refine qa (hK19 _ _ (wp_ret (hret _ _ (en1 A rfl (qg rfl) ?_))))
   exact ⟨by rw [show xt m n = 1 from by unfold xt; (repeat' split) <;> omega], M.bel⟩
  ·
   have hb18' := of_decide_eq_false hb18
   refine sdc A ja hb18 λa A↦?_
   refine qa (hK17 _ _ (wp_cond_false (A.ev rfl) ?_))
   refine wp_skip (hK16 _ _ (wsk fun K20 hK20 => wrl (sda A λa A↦?_)))
   refine qa (hK20 _ _ (wp_ret (hret _ _ (en1 A rfl (qg rfl) ?_))))
   exact ⟨by rw [show xt m n = 0 from by unfold xt; (repeat' split) <;> omega], M.bel⟩
theorem zgc {w : World} {t u : Dt} (h4 : t.d.k = 4) (h5 : u.d.k = 4) : Calls Tryz.prog 48 #[.agg (t.d.cells t.ts.length).toArray, .agg (u.d.cells u.ts.length).toArray] w fun e w' => e = .returned (.int .i64 (xt t.d.n u.d.n)) ∧ Below w.heap.size w w' := by
 have M : Mg w w ([]) := Mg.start w
 refine qr (l := [(0, .agg (t.d.cells t.ts.length).toArray), (1, .agg (u.d.cells u.ts.length).toArray)]) Tryz.func48 rfl Tryz.ntmps48 rfl rfl ?_
 intro Q hret hnorm hP a A
 refine wsk fun K1 hK1 => wrl (zx (vs := [.int .i64 t.d.k, .int .i64 t.d.n, .bool t.d.y.q.b1, .slice t.d.y.o1 t.d.y.q.t1.length t.d.y.c1, .slice t.d.y.o2 t.d.y.q.q1.length t.d.y.c2, .bool t.d.y.q.b2, .slice t.d.y.o3 t.d.y.q.t2.length t.d.y.c3, .slice t.d.y.o4 t.d.y.q.q2.length t.d.y.c4, .string t.d.s, .slice t.d.ro t.d.rl.length t.d.rc, .slice t.d.lo t.ts.length t.d.lc]) (t := 30) A M rfl rfl rfl pg (qt rfl rfl) (by decide) ?_)
 intro g2 w3 M a A
 refine zx (vs := [.int .i64 u.d.k, .int .i64 u.d.n, .bool u.d.y.q.b1, .slice u.d.y.o1 u.d.y.q.t1.length u.d.y.c1, .slice u.d.y.o2 u.d.y.q.q1.length u.d.y.c2, .bool u.d.y.q.b2, .slice u.d.y.o3 u.d.y.q.t2.length u.d.y.c3, .slice u.d.y.o4 u.d.y.q.q2.length u.d.y.c4, .string u.d.s, .slice u.d.ro u.d.rl.length u.d.rc, .slice u.d.lo u.ts.length u.d.lc]) (t := 30) A M rfl rfl rfl pg (qt rfl rfl) (by decide) ?_
 intro g4 w5 M a A
 refine sda A λa A↦?_
 refine qa (hK1 _ _ (wsk fun K6 hK6 => wp_block (wp_loop_rounds 12 ?_)))
 refine xn fun K7 hK7 => ?_
 refine wsk fun K8 hK8 => wsk fun K9 hK9 => wrl (sdo (v := .pointer (some ⟨g2, 0, none⟩)) A (qb LiW_fld_30_0 rfl rfl) λa A↦?_)
 refine sdo A (qm M LiW_is1_3 rfl 1 rfl rfl) λa A↦?_
 refine sdo (v := .bool false) A (qf rfl rfl (fun w => (ql w).trans (by rw [show ((t.d.k == 8)) = false from (beq_eq_false_iff_ne.2 (by omega))]))) λa A↦?_
 refine sdm A λa A↦?_
 iterate 3 refine qk A rfl rfl rfl λa A↦?_
 refine sdk (v := .bool false) A λa A↦?_
 refine qa (hK9 _ _ (wp_cond_false (A.ev rfl) ?_))
 refine wp_exit (hK6 _ _ (wsk fun K10 hK10 => wsk fun K11 hK11 => wrl (sdo (v := .pointer (some ⟨g2, 0, none⟩)) A (qb LiW_fld_30_0 rfl rfl) λa A↦?_)))
 refine sdo A (qm M LiW_is1_3 rfl 1 rfl rfl) λa A↦?_
 refine sdo (v := .pointer (some ⟨g4, 0, none⟩)) A (qb LiW_fld_30_0 rfl rfl) λa A↦?_
 refine sdo A (qm M LiW_is1_3 rfl 0 rfl rfl) λa A↦?_
 refine sdo (v := .bool false) A (qf rfl rfl (fun w => (zg w).trans (by rw [show ((t.d.k != u.d.k)) = false from (bne_eq_false_iff_eq.2 (by omega))]))) λa A↦?_
 refine qa (hK11 _ _ (wp_cond_false (A.ev rfl) ?_))
 refine wp_skip (hK10 _ _ (wsk fun K12 hK12 => wsk fun K13 hK13 => wrl (sdo (v := .pointer (some ⟨g2, 0, none⟩)) A (qb LiW_fld_30_0 rfl rfl) λa A↦?_)))
 refine sdo A (qm M LiW_is1_3 rfl 1 rfl rfl) λa A↦?_
 refine qa (hK13 _ _ (wp_block (wsk fun K14 hK14 => wsk fun K15 hK15 => wrl (sdo (v := .bool false) A (qf rfl rfl (fun w => (ql w).trans (by rw [show ((t.d.k == 2)) = false from (beq_eq_false_iff_ne.2 (by omega))]))) λa A↦?_))))
 refine sda A λa A↦?_
 refine qa (hK15 _ _ (wp_cond_false (A.ev rfl) ?_))
 refine wrl (sdo (v := .bool true) A (qf rfl rfl (fun w => (ql w).trans (by rw [show ((t.d.k == 4)) = true from (beq_iff_eq.2 h4)]))) λa A↦?_)
 refine sda A λa A↦?_
 refine qa (hK14 _ _ (wp_cond_true (A.ev rfl) ?_))
 refine wsk fun K16 hK16 => wrl (sdo (v := .pointer (some ⟨g2, 1, none⟩)) A (qb LiW_fld_30_1 rfl rfl) λa A↦?_)
 refine sdo A (qm M LiW_is1_3 rfl 1 rfl rfl) λa A↦?_
 refine sdo (v := .pointer (some ⟨g4, 1, none⟩)) A (qb LiW_fld_30_1 rfl rfl) λa A↦?_
 refine sdo A (qm M LiW_is1_3 rfl 0 rfl rfl) λa A↦?_
 refine gcl A M (ef rfl rfl) (zoc) fun w18 hb17 M a A => ?_
 refine sda A λa A↦?_
 refine qa (hK16 _ _ (wp_ret (hret _ _ (en1 A rfl (qg rfl) ?_))))
 exact ⟨rfl, M.bel⟩
theorem zod {w : World} {t u : Dt} (ht : t.rd w) (hu : u.rd w) (s1 : ze qs t.tr = true) (s2 : ze qs u.tr = true) (hT : Tabs8 w) : Calls Tryz.prog 47 #[.agg (t.d.cells t.ts.length).toArray, .agg (u.d.cells u.ts.length).toArray] w fun e w' => e = .returned (.bool true) ∧ Below w.heap.size w w' := by
 have M : Mg w w ([]) := Mg.start w
 refine qr (l := [(0, .agg (t.d.cells t.ts.length).toArray), (1, .agg (u.d.cells u.ts.length).toArray)]) Tryz.func47 rfl Tryz.ntmps47 rfl rfl ?_
 intro Q hret hnorm hP a A
 refine wsk fun K1 hK1 => wrl (zx (vs := [.int .i64 t.d.k, .int .i64 t.d.n, .bool t.d.y.q.b1, .slice t.d.y.o1 t.d.y.q.t1.length t.d.y.c1, .slice t.d.y.o2 t.d.y.q.q1.length t.d.y.c2, .bool t.d.y.q.b2, .slice t.d.y.o3 t.d.y.q.t2.length t.d.y.c3, .slice t.d.y.o4 t.d.y.q.q2.length t.d.y.c4, .string t.d.s, .slice t.d.ro t.d.rl.length t.d.rc, .slice t.d.lo t.ts.length t.d.lc]) (t := 30) A M rfl rfl rfl pg (qt rfl rfl) (by decide) ?_)
 intro g2 w3 M a A
 refine zx (vs := [.int .i64 u.d.k, .int .i64 u.d.n, .bool u.d.y.q.b1, .slice u.d.y.o1 u.d.y.q.t1.length u.d.y.c1, .slice u.d.y.o2 u.d.y.q.q1.length u.d.y.c2, .bool u.d.y.q.b2, .slice u.d.y.o3 u.d.y.q.t2.length u.d.y.c3, .slice u.d.y.o4 u.d.y.q.q2.length u.d.y.c4, .string u.d.s, .slice u.d.ro u.d.rl.length u.d.rc, .slice u.d.lo u.ts.length u.d.lc]) (t := 30) A M rfl rfl rfl pg (qt rfl rfl) (by decide) ?_
 intro g4 w5 M a A
 refine sda A λa A↦?_
 refine qa (hK1 _ _ (wsk fun K6 hK6 => wrl (sdo A (zf M LiW_isS_30 rfl 1 rfl (cs := [.int .i64 t.d.k, .int .i64 t.d.n, .bool t.d.y.q.b1, .slice t.d.y.o1 t.d.y.q.t1.length t.d.y.c1, .slice t.d.y.o2 t.d.y.q.q1.length t.d.y.c2, .bool t.d.y.q.b2, .slice t.d.y.o3 t.d.y.q.t2.length t.d.y.c3, .slice t.d.y.o4 t.d.y.q.q2.length t.d.y.c4, .string t.d.s, .slice t.d.ro t.d.rl.length t.d.rc, .slice t.d.lo t.ts.length t.d.lc]) rfl rfl) λa A↦?_)))
 refine gcl A M (ef rfl rfl) ((s1 ▸ sound_any (t := t) (Dt.keep M.bel _ ht) (hT.below M.bel))) fun w8 hb7 M a A => ?_
 refine sdm A λa A↦?_
 refine sdo A (zf M LiW_isS_30 rfl 0 rfl (cs := [.int .i64 u.d.k, .int .i64 u.d.n, .bool u.d.y.q.b1, .slice u.d.y.o1 u.d.y.q.t1.length u.d.y.c1, .slice u.d.y.o2 u.d.y.q.q1.length u.d.y.c2, .bool u.d.y.q.b2, .slice u.d.y.o3 u.d.y.q.t2.length u.d.y.c3, .slice u.d.y.o4 u.d.y.q.q2.length u.d.y.c4, .string u.d.s, .slice u.d.ro u.d.rl.length u.d.rc, .slice u.d.lo u.ts.length u.d.lc]) rfl rfl) λa A↦?_
 refine gcl A M (ef rfl rfl) ((s2 ▸ sound_any (t := u) (Dt.keep M.bel _ hu) (hT.below M.bel))) fun w10 hb9 M a A => ?_
 refine sdk (v := .bool true) A λa A↦?_
 refine sda A λa A↦?_
 refine qa (hK6 _ _ (wp_ret (hret _ _ (en1 A rfl (qg rfl) ?_))))
 exact ⟨rfl, M.bel⟩
theorem zbg {w : World} {t u : Dt} (h4 : t.d.k = 4) (h5 : u.d.k = 4) (ht : t.rd w) (hu : u.rd w) (s1 : ze qs t.tr = true) (s2 : ze qs u.tr = true) (hT : Tabs8 w) : Calls Tryz.prog 22 #[.agg (t.d.cells t.ts.length).toArray, .agg (u.d.cells u.ts.length).toArray] w fun e w' => e = .returned (.int .i64 (xt t.d.n u.d.n)) ∧ Below w.heap.size w w' := by
 have M : Mg w w ([]) := Mg.start w
 refine qr (l := [(0, .agg (t.d.cells t.ts.length).toArray), (1, .agg (u.d.cells u.ts.length).toArray)]) Tryz.func22 rfl Tryz.ntmps22 rfl rfl ?_
 intro Q hret hnorm hP a A
 refine wsk fun K1 hK1 => wrl (zx (vs := [.int .i64 t.d.k, .int .i64 t.d.n, .bool t.d.y.q.b1, .slice t.d.y.o1 t.d.y.q.t1.length t.d.y.c1, .slice t.d.y.o2 t.d.y.q.q1.length t.d.y.c2, .bool t.d.y.q.b2, .slice t.d.y.o3 t.d.y.q.t2.length t.d.y.c3, .slice t.d.y.o4 t.d.y.q.q2.length t.d.y.c4, .string t.d.s, .slice t.d.ro t.d.rl.length t.d.rc, .slice t.d.lo t.ts.length t.d.lc]) (t := 30) A M rfl rfl rfl pg (qt rfl rfl) (by decide) ?_)
 intro g2 w3 M a A
 refine zx (vs := [.int .i64 u.d.k, .int .i64 u.d.n, .bool u.d.y.q.b1, .slice u.d.y.o1 u.d.y.q.t1.length u.d.y.c1, .slice u.d.y.o2 u.d.y.q.q1.length u.d.y.c2, .bool u.d.y.q.b2, .slice u.d.y.o3 u.d.y.q.t2.length u.d.y.c3, .slice u.d.y.o4 u.d.y.q.q2.length u.d.y.c4, .string u.d.s, .slice u.d.ro u.d.rl.length u.d.rc, .slice u.d.lo u.ts.length u.d.lc]) (t := 30) A M rfl rfl rfl pg (qt rfl rfl) (by decide) ?_
 intro g4 w5 M a A
 refine sda A λa A↦?_
 refine qa (hK1 _ _ (wsk fun K6 hK6 => wsk fun K7 hK7 => wrl (sdo A (zf M LiW_isS_30 rfl 1 rfl (cs := [.int .i64 t.d.k, .int .i64 t.d.n, .bool t.d.y.q.b1, .slice t.d.y.o1 t.d.y.q.t1.length t.d.y.c1, .slice t.d.y.o2 t.d.y.q.q1.length t.d.y.c2, .bool t.d.y.q.b2, .slice t.d.y.o3 t.d.y.q.t2.length t.d.y.c3, .slice t.d.y.o4 t.d.y.q.q2.length t.d.y.c4, .string t.d.s, .slice t.d.ro t.d.rl.length t.d.rc, .slice t.d.lo t.ts.length t.d.lc]) rfl rfl) λa A↦?_)))
 refine sdo A (zf M LiW_isS_30 rfl 0 rfl (cs := [.int .i64 u.d.k, .int .i64 u.d.n, .bool u.d.y.q.b1, .slice u.d.y.o1 u.d.y.q.t1.length u.d.y.c1, .slice u.d.y.o2 u.d.y.q.q1.length u.d.y.c2, .bool u.d.y.q.b2, .slice u.d.y.o3 u.d.y.q.t2.length u.d.y.c3, .slice u.d.y.o4 u.d.y.q.q2.length u.d.y.c4, .string u.d.s, .slice u.d.ro u.d.rl.length u.d.rc, .slice u.d.lo u.ts.length u.d.lc]) rfl rfl) λa A↦?_
 refine gcl A M (ef rfl rfl) (zod (Dt.keep M.bel _ ht) (Dt.keep M.bel _ hu) s1 s2 (hT.below M.bel)) fun w9 hb8 M a A => ?_
 refine sdo (v := .bool false) A (zd rfl zj) λa A↦?_
 refine qa (hK7 _ _ (wp_cond_false (A.ev rfl) ?_))
 refine wp_skip (hK6 _ _ (wsk fun K10 hK10 => wrl (sdo A (zf M LiW_isS_30 rfl 1 rfl (cs := [.int .i64 t.d.k, .int .i64 t.d.n, .bool t.d.y.q.b1, .slice t.d.y.o1 t.d.y.q.t1.length t.d.y.c1, .slice t.d.y.o2 t.d.y.q.q1.length t.d.y.c2, .bool t.d.y.q.b2, .slice t.d.y.o3 t.d.y.q.t2.length t.d.y.c3, .slice t.d.y.o4 t.d.y.q.q2.length t.d.y.c4, .string t.d.s, .slice t.d.ro t.d.rl.length t.d.rc, .slice t.d.lo t.ts.length t.d.lc]) rfl rfl) λa A↦?_)))
 refine sdo A (zf M LiW_isS_30 rfl 0 rfl (cs := [.int .i64 u.d.k, .int .i64 u.d.n, .bool u.d.y.q.b1, .slice u.d.y.o1 u.d.y.q.t1.length u.d.y.c1, .slice u.d.y.o2 u.d.y.q.q1.length u.d.y.c2, .bool u.d.y.q.b2, .slice u.d.y.o3 u.d.y.q.t2.length u.d.y.c3, .slice u.d.y.o4 u.d.y.q.q2.length u.d.y.c4, .string u.d.s, .slice u.d.ro u.d.rl.length u.d.rc, .slice u.d.lo u.ts.length u.d.lc]) rfl rfl) λa A↦?_
 refine gcl A M (ef rfl rfl) (zgc h4 h5) fun w12 hb11 M a A => ?_
 refine sda A λa A↦?_
 refine qa (hK10 _ _ (wp_ret (hret _ _ (en1 A rfl (qg rfl) ?_))))
 exact ⟨rfl, M.bel⟩
/-- A list is sound. -/
def OkL (L : List Tr) : Prop := L.all (yf 2) = true ∧ xa L + L.length + 1 ≤ 20000 ∧ L.all (xx qs) = true
theorem qee (L : List Tr) : ze qs (zu L nilT) = true ↔ OkL L := by
  rw [qga]
  have h1 : yf 1 nilT = true := by rfl
  have h2 : xx qs nilT = true := by rfl
  have h3 : uk nilT = 1 := by rfl
  rw [h3]
  unfold OkL
  constructor
  · rintro ⟨⟨a, _⟩, b, c, _⟩; exact ⟨a, b, c⟩
  · rintro ⟨a, b, c⟩; exact ⟨⟨a, h1⟩, b, c, h2⟩
theorem OkL.of {L M : List Tr} (h : OkL L) (hm : ∀ x ∈ M, x ∈ L) (hn : xa M + M.length ≤ xa L + L.length) : OkL M := ⟨List.all_eq_true.2 fun x hx => List.all_eq_true.1 h.1 x (hm x hx), by have := h.2.1; omega, List.all_eq_true.2 fun x hx => List.all_eq_true.1 h.2.2 x (hm x hx)⟩
theorem qxf : ze qs uf = false := by rfl
theorem zkj {A : List Tr} (h : OkL A) : ofS A = zu A nilT := by unfold ofS; rw [zbd ((qee A).2 h)]
theorem zoe {A : List Tr} (h : ze qs (ofS A) = true) : OkL A ∧ ofS A = zu A nilT := by
  by_cases hc : ze qs (zu A nilT) = true
  · exact ⟨(qee A).1 hc, zkj ((qee A).1 hc)⟩
  · unfold ofS at h
    rw [zkh (Bool.eq_false_iff.2 hc), qxf] at h
    cases h
theorem zgd {A : List Tr} (h : OkL A) : qxe (zu A nilT) = (zu A.reverse nilT, 0) := by
  unfold qxe
  rw [if_neg (by rw [(qee A).2 h]; decide), ke]
/-! ### How much the answers hold -/
theorem zue (xs : List Tr) (z : Tr) : (fitS xs z).1.bulk ≤ Tr.bulks xs + xs.length + z.bulk + 1 := by
  unfold fitS
  split
  · show (zu xs z).bulk ≤ _; rw [kq]; omega
  · show uf.bulk ≤ _; rw [show uf.bulk = 1 from rfl]; omega
theorem blen : ∀ xs : List Tr, xs.length ≤ Tr.bulks xs
  | [] => Nat.le_refl _
  | t :: xs => by
    have := blen xs
    have h2 : 1 ≤ t.bulk := by cases t; rw [ka]; omega
    rw [Tr.bulks, List.length_cons]; omega
theorem zla (xs : List Tr) : (ofS xs).bulk ≤ Tr.bulks xs + Tr.bulks xs + 2 := by
  have h1 := zue xs nilT
  have h2 := blen xs
  rw [show nilT.bulk = 1 from rfl] at h1
  unfold ofS
  omega
theorem zuf (t : Tr) : (qxe t).1.bulk ≤ t.bulk + 1 := by
  unfold qxe
  split
  · show uf.bulk ≤ _; rw [show uf.bulk = 1 from rfl]; omega
  · cases h : ju t with
    | none => show uf.bulk ≤ _; rw [show uf.bulk = 1 from rfl]; omega
    | some xs =>
      have h1 := uw h
      have h2 : Tr.bulks xs.reverse = Tr.bulks xs := by
        have key : ∀ ts : List Tr, Tr.bulks ts.reverse = Tr.bulks ts := by
          intro ts
          induction ts with
          | nil => rfl
          | cons t ts ih => rw [List.reverse_cons, yp, ih, Tr.bulks, Tr.bulks, Tr.bulks]; omega
        exact key xs
      show (zu _ _).bulk ≤ _
      rw [kq, h2, List.length_reverse, show nilT.bulk = 1 from rfl]
      omega
/-- The items of a datum, and the error. -/
noncomputable def qpe (t : Tr) : List Tr × Int :=
  if ze qs t = false then ([], 2) else match ju t with
    | none => ([], 10)
    | some xs => (xs, 0)
theorem zof {t : Tr} (h : ze qs t = false) : qpe t = ([], 2) := by unfold qpe; rw [if_pos h]
theorem zge {t : Tr} (h : ze qs t = true) (ha : ju t = none) : qpe t = ([], 10) := by unfold qpe; rw [if_neg (by rw [h]; decide), ha]
theorem qpf {t : Tr} {xs : List Tr} (h : ze qs t = true) (ha : ju t = some xs) : qpe t = (xs, 0) := by unfold qpe; rw [if_neg (by rw [h]; decide), ha]
/-! ### A fixed fact -/
def vt (k : Int) : Dt := .mk ⟨k, 0, ⟨Q6.zero, none, 0, none, 0, none, 0, none, 0⟩, ⟨#[]⟩, none, 0, [], none, 0⟩ []
theorem zug : qxe (ofS [(vt 2).tr, (vt 10).tr]) = (zu [(vt 10).tr, (vt 2).tr] nilT, 0) := by
  have h : OkL [(vt 2).tr, (vt 10).tr] := by
    unfold vt
    rw [Dt.tr_mk, Dt.tr_mk]
    exact ⟨by rfl, by decide, by rfl⟩
  rw [zkj h, zgd h]
  rfl
theorem zuh (w : World) : ∀ t ∈ [vt 2, vt 10], t.rd w := fun t ht => by
  rcases List.mem_cons.1 ht with h | h
  · rw [h]; exact qmc w 2 (by decide) (by decide)
  · rw [List.mem_singleton.1 h]; exact qmc w 10 (by decide) (by decide)
theorem zog {t : Dt} {a b : Tr} (h : t.tr = .mk 8 0 Q6.zero ⟨#[]⟩ [] [a, b]) : t.d.k = 8 ∧ t.ts.length = 2 ∧ ∀ u, t.ts[0]? = some u → u.tr = a := by
  cases t with
  | mk d ts =>
    rw [Dt.tr_mk] at h
    injection h with h1 _ _ _ _ h2
    refine ⟨h1, ?_, fun u hu => ?_⟩
    · have := congrArg List.length h2; rw [List.length_map] at this; exact this
    · have := congrArg (fun l => l[0]?) h2
      simp only [List.getElem?_map] at this
      simp only [Dt.ts] at hu
      rw [hu] at this
      simpa using this
theorem qxg {α β : Type} {lt : α → α → Bool} {lt' : β → β → Bool} {f : α → β} (h : ∀ x y, lt x y = lt' (f x) (f y)) : ∀ xs ys : List α, (mrg lt xs ys).map f = mrg lt' (xs.map f) (ys.map f)
 | [], ys => by rw [vq, List.map_nil, vq]
 | x :: xs, [] => by rw [kf, List.map_nil, kf]
 | x :: xs, y :: ys => by
  rw [List.map_cons, List.map_cons]
  cases h9 : lt y x with
  | true => rw [yd h9, yd (by rw [← h]; exact h9), List.map_cons, qxg h (x :: xs) ys, List.map_cons]
  | false => rw [ug h9, ug (by rw [← h]; exact h9), List.map_cons, qxg h xs (y :: ys), List.map_cons]
termination_by xs ys => xs.length + ys.length
theorem qtj {α β : Type} {lt : α → α → Bool} {lt' : β → β → Bool} {f : α → β} (h : ∀ x y, lt x y = lt' (f x) (f y)) : ∀ xs : List α, (zr lt xs).map f = zr lt' (xs.map f)
 | [] => rfl
 | x :: xs => by
  show (mrg lt [x] (zr lt xs)).map f = mrg lt' [f x] (zr lt' (xs.map f))
  rw [qxg h, qtj h xs]; rfl
theorem qpg {xs ys : List Tr} (h : xs.Perm ys) : Tr.bulks xs = Tr.bulks ys := by
 induction h with
 | nil => rfl
 | cons x _ ih => show x.bulk + _ = x.bulk + _; rw [ih]
 | swap x y l => show y.bulk + (x.bulk + _) = x.bulk + (y.bulk + _); omega
 | trans _ _ h1 h2 => rw [h1, h2]
open Go.RowKit Go.Lib
theorem qua {P : Program} {w : World} {b : Nat} : ∀ (l : List UInt8) (off : Nat) (acc : ByteArray), (∀ j, j < l.length → w.cell? ⟨b, off + j, none⟩ = some (.int .u8 (((l.getD j 0).toNat : Nat) : Int))) → (Extern.Bytes.loadBytes ⟨b, off, none⟩ l.length acc).run P w = .ok ⟨acc.data ++ l.toArray⟩ w
  | [], off, acc, _ => by
    simp [Extern.Bytes.loadBytes]
  | x :: l, off, acc, h => by
    have h0 := h 0 (by simp)
    have hl : (load ⟨b, off, none⟩).run P w = .ok (.int .u8 ((x.toNat : Nat) : Int)) w := by
      rw [Nat.add_zero] at h0
      have h1 : w.cell? ⟨b, off, none⟩ = some (.int .u8 ((x.toNat : Nat) : Int)) := by simpa using h0
      simp [go_sem, h1]
    have hn : ∀ j, j < l.length → w.cell? ⟨b, off + 1 + j, none⟩ = some (.int .u8 (((l.getD j 0).toNat : Nat) : Int)) := by
      intro j hj
      have h3 := h (j + 1) (by simpa using hj)
      rw [show off + (j + 1) = off + 1 + j by omega] at h3
      simpa using h3
    have ih := qua (P := P) l (off + 1) (acc.push x) hn
    rw [List.length_cons, Extern.Bytes.loadBytes, Sem.run_bind, hl]
    simp only [Result.andThen_ok, xl, Int.toNat_natCast, UInt8.ofNat_toNat]
    rw [ih]
    congr 2
    simp
theorem qph {P : Program} {w : World} {so : Option Addr} {l : List UInt8} {ca : Nat} (h : Rb w so l) : (Extern.Bytes.bytesOf (.slice so l.length ca)).run P w = .ok ⟨l.toArray⟩ w := by
  by_cases hl : l = []
  · subst hl
    cases so with
    | none => simp [Extern.Bytes.bytesOf]; rfl
    | some a => simp [Extern.Bytes.bytesOf, Extern.Bytes.loadBytes]; rfl
  · obtain ⟨b, off, rfl, _, h2⟩ := h.pos hl
    have := qua (P := P) l off .empty h2
    simp only [Extern.Bytes.bytesOf]
    rw [this]
    simp
theorem qxh {P : Program} {w : World} {so sp : Option Addr} {a b : List UInt8} {ca cb : Nat} (ha : Rb w so a) (hb : Rb w sp b) : (Extern.BytealgCompare.compare #[.slice so a.length ca, .slice sp b.length cb]).run P w = .ok (.int .i64 (compareBytes a b)) w := by
  change Sem.run P (do pure (goInt (Extern.BytealgCompare.cmp (← Extern.Bytes.bytesOf (.slice so a.length ca)) (← Extern.Bytes.bytesOf (.slice sp b.length cb))))) w = _
  simp only [Sem.run_bind, Sem.run_pure, Result.andThen, qph ha, qph hb]
  rw [Go.Lib.cmp_eq]
  rfl
set_option maxHeartbeats 1000000 in
set_option maxRecDepth 100000 in
theorem zui {w : World} {so sp : Option Addr} {a b : List UInt8} {ca cb : Nat} (ha : Rb w so a) (hb : Rb w sp b) : Calls Tryz.prog 70 #[.slice so a.length ca, .slice sp b.length cb] w fun e w' => e = .returned (.int .i64 (compareBytes a b)) ∧ Below w.heap.size w w' := by
  go_enter Tryz.func70, Tryz.ntmps70
  go_wp2
  rw [run_callFunc_extern Tryz.func89 (by kernel_rfl) (by kernel_rfl) (by kernel_rfl) (e := Extern.BytealgCompare.compare) (by kernel_rfl), qxh ha hb]
  simp only [Result.andThen]
  rw [Oper.upon_value]
  go_wp2
  go_ret
  exact ⟨rfl, Below.refl _ _⟩
theorem qpi {w : World} {s t : ByteArray} : Calls Tryz.prog 69 #[.string s, .string t] w fun e w' => e = .returned (.int .i64 (compareBytes s.data.toList t.data.toList)) ∧ Below w.heap.size w w' := (Tryz.strings_Compare s t w).mono fun e w' ⟨h, e2⟩ => ⟨h, e2 ▸ Below.refl _ _⟩
theorem TrU_is1_21 : Is1 Tryz.prog 21 := ⟨⟨_, Tryz.underlying21, rfl⟩, by kernel_rfl⟩
theorem TrU_is1_5 : Is1 Tryz.prog 5 := ⟨⟨_, Tryz.underlying5, rfl⟩, by kernel_rfl⟩
open Go.Lib
theorem qkh {f p : Nat} {l : List UInt8} (hl : l ≠ []) : vx (f + 1) p l = ((p : Int), uR (decodeL l).1 (decodeL l).2) :: vx f (p + (decodeL l).2) (l.drop (decodeL l).2) := by
 conv => lhs; unfold vx
 rw [if_neg hl]
theorem qmg {w : World} {so : Option Addr} {l : List UInt8} {i : Nat} (h : Rb w so l) (hi : i < l.length) : ∃ b off, so = some ⟨b, off, none⟩ ∧ b < w.heap.size ∧ ∀ j, j < l.length → w.cell? ⟨b, off + j, none⟩ = some (.int .u8 (((l.getD j 0).toNat : Nat) : Int)) :=
 h.pos (fun k => by rw [k] at hi; exact absurd hi (Nat.not_lt_zero _))
/-- Units as the document keeps them: a character, whether there is none, its place. -/
def xe (us : List (Int × Int)) : List Value := us.flatMap fun u => if u.2 = -1 then [.int .i32 0, .bool true, .int .i64 u.1] else [.int .i32 u.2, .bool false, .int .i64 u.1]
theorem qxi {x : Int} (i : Nat) (m : Int) (hm : m = ((2 ^ i - 1 : Nat) : Int)) (hs : m ≤ 255) (h0 : 0 ≤ x) (h1 : x ≤ 255) : bits .and .u8 x m = x % ((2 ^ i : Nat) : Int) := by
 obtain ⟨n, rfl⟩ : ∃ n : Nat, x = (n : Int) := ⟨x.toNat, by omega⟩
 subst hm
 have h2 : n &&& (2 ^ i - 1) = n % 2 ^ i := Nat.and_two_pow_sub_one_eq_mod n i
 have e : (BitVec.ofInt IntKind.u8.bits (n : Int) &&& BitVec.ofInt IntKind.u8.bits (((2 ^ i - 1 : Nat)) : Int)).toNat = n % 2 ^ i := by
  rw [← h2, BitVec.ofInt_natCast, BitVec.ofInt_natCast, BitVec.toNat_and, BitVec.toNat_ofNat, BitVec.toNat_ofNat]
  show n % 256 &&& (2 ^ i - 1) % 256 = _
  rw [Nat.mod_eq_of_lt (by omega), Nat.mod_eq_of_lt (by omega)]
 show IntKind.u8.wrap ((BitVec.ofInt IntKind.u8.bits (n : Int) &&& BitVec.ofInt IntKind.u8.bits (((2 ^ i - 1 : Nat)) : Int)).toNat : Int) = _
 rw [e]
 have := Nat.mod_le n (2 ^ i)
 exact (in_u8 (by omega) (by omega)).trans (Int.natCast_emod n (2 ^ i))
theorem or_six {c x : Int} (h0 : 0 ≤ c) (h1 : c ≤ 33554431) (h2 : 0 ≤ x) (h3 : x ≤ 63) : bits .or .i32 (c * 64) x = c * 64 + x := by
 obtain ⟨a, rfl⟩ : ∃ a : Nat, c = (a : Int) := ⟨c.toNat, by omega⟩
 obtain ⟨n, rfl⟩ : ∃ n : Nat, x = (n : Int) := ⟨x.toNat, by omega⟩
 have := Nat.two_pow_add_eq_or_of_lt (i := 6) (b := n) (by omega) a
 rw [show (2 : Nat) ^ 6 = 64 from rfl] at this
 have e := or_i32 (64 * a) n (by omega) (by omega)
 rw [show (((64 * a : Nat)) : Int) = (a : Int) * 64 from by omega] at e
 rw [e, ← this]
 omega
/-- The units from a place on. -/
def qki (l : List UInt8) (i : Nat) : List (Int × Int) := vx (l.length - i) i (l.drop i)
theorem zgf (l : List UInt8) : qki l 0 = jx l := by unfold qki jx; rw [List.drop_zero, Nat.sub_zero]
theorem zgg {l : List UInt8} {i : Nat} (h : ¬ i < l.length) : qki l i = [] := by unfold qki; rw [show l.length - i = 0 from by omega]; rfl
theorem qpj {l : List UInt8} {i r q : Nat} (h : i < l.length) (e : decodeN (l.length - i) (l.getD i 0).toNat (l.getD (i + 1) 0).toNat (l.getD (i + 2) 0).toNat (l.getD (i + 3) 0).toNat = (r, q)) : qki l i = ((i : Int), uR r q) :: qki l (i + q) := by
 have hne : l.drop i ≠ [] := fun k => by
  have := congrArg List.length k
  rw [List.length_drop, List.length_nil] at this
  omega
 have hd : decodeL (l.drop i) = (r, q) := by
  rw [decodeL_N, qbb, qbb, qbb, qbb, List.length_drop]
  exact e
 have hw := uq _ hne
 rw [hd, List.length_drop] at hw
 simp only at hw
 unfold qki
 obtain ⟨m, hm⟩ : ∃ m, l.length - i = m + 1 := ⟨l.length - i - 1, by omega⟩
 rw [hm, qkh hne, hd, List.drop_drop]
 simp only
 rw [qkb m (l.length - (i + q)) _ _ (by rw [List.length_drop]; omega) (by rw [List.length_drop]; omega)]
/-- What the first byte of a character says. -/
def LeadU (x n : Nat) (r : Int) : Prop := (x < 128 ∧ n = 1 ∧ r = x) ∨ (192 ≤ x ∧ x < 224 ∧ n = 2 ∧ r = x % 32) ∨ (224 ≤ x ∧ x < 240 ∧ n = 3 ∧ r = x % 16) ∨ (240 ≤ x ∧ x < 248 ∧ n = 4 ∧ r = x % 8) ∨ ((128 ≤ x ∧ x < 192 ∨ 248 ≤ x) ∧ n = 0 ∧ r = 0)
/-- The bytes behind it, so far. -/
def ContU (len i n : Nat) (b1 b2 b3 : Nat) (r : Int) (k : Nat) (rk : Int) (ok : Bool) : Prop := (ok = true ∧ 0 < n ∧ i + n ≤ len ∧ k ≤ n ∧ ((k = 1 ∧ rk = r) ∨ (k = 2 ∧ b1 / 64 = 2 ∧ rk = r * 64 + ((b1 % 64 : Nat) : Int)) ∨ (k = 3 ∧ b1 / 64 = 2 ∧ b2 / 64 = 2 ∧ rk = (r * 64 + ((b1 % 64 : Nat) : Int)) * 64 + ((b2 % 64 : Nat) : Int)) ∨ (k = 4 ∧ b1 / 64 = 2 ∧ b2 / 64 = 2 ∧ b3 / 64 = 2 ∧ rk = ((r * 64 + ((b1 % 64 : Nat) : Int)) * 64 + ((b2 % 64 : Nat) : Int)) * 64 + ((b3 % 64 : Nat) : Int)))) ∨
 (ok = false ∧ (¬ (0 < n ∧ i + n ≤ len) ∨ (1 < n ∧ b1 / 64 ≠ 2) ∨ (2 < n ∧ b2 / 64 ≠ 2) ∨ (3 < n ∧ b3 / 64 ≠ 2)))
def qge (n : Nat) : Int := if n = 2 then 128 else if n = 3 then 2048 else 65536
theorem zuj {n : Nat} (h0 : 2 ≤ n) (h1 : n ≤ 4) : ([.int .i32 0, .int .i32 0, .int .i32 128, .int .i32 2048, .int .i32 65536] : List Value)[n * 1]? = some (.int .i32 (qge n)) := by
 have h : n = 2 ∨ n = 3 ∨ n = 4 := by omega
 rcases h with rfl | rfl | rfl <;> rfl
theorem lead_4 {x n : Nat} {r : Int} (h : LeadU x n r) : n ≤ 4 ∧ 0 ≤ r ∧ r ≤ 127 ∧ (1 < n → r ≤ 31) := by unfold LeadU at h; omega
theorem zgh {len i n b1 b2 b3 : Nat} {r : Int} {ok : Bool} (h : ok = decide (0 < n ∧ i + n ≤ len)) : ContU len i n b1 b2 b3 r 1 r ok := by
 unfold ContU
 by_cases k : 0 < n ∧ i + n ≤ len
 ·
  exact .inl ⟨by rw [h, decide_eq_true k], k.1, k.2, by omega, .inl ⟨rfl, rfl⟩⟩
 ·
  exact .inr ⟨by rw [h, decide_eq_false k], .inl k⟩
theorem zoh {l : List UInt8} {i n k : Nat} {r rk : Int} (hn : n ≤ 4) (h : ContU l.length i n (l.getD (i + 1) 0).toNat (l.getD (i + 2) 0).toNat (l.getD (i + 3) 0).toNat r k rk true) (hk : k < n) : ContU l.length i n (l.getD (i + 1) 0).toNat (l.getD (i + 2) 0).toNat (l.getD (i + 3) 0).toNat r (k + 1) (rk * 64 + (((l.getD (i + k) 0).toNat : Nat) : Int) % 64) ((((l.getD (i + k) 0).toNat : Nat) : Int) / 64 == 2) := by
 rcases h with ⟨_, h1, h2, h3, h4⟩ | ⟨h, _⟩
 ·
  unfold ContU
  have e : k = 1 ∨ k = 2 ∨ k = 3 := by omega
  rcases e with rfl | rfl | rfl
  ·
   by_cases hb : (((l.getD (i + 1) 0).toNat : Nat) : Int) / 64 = 2
   ·
    exact .inl ⟨beq_iff_eq.2 hb, h1, h2, by omega, by omega⟩
   ·
    exact .inr ⟨beq_eq_false_iff_ne.2 hb, by omega⟩
  ·
   by_cases hb : (((l.getD (i + 2) 0).toNat : Nat) : Int) / 64 = 2
   ·
    exact .inl ⟨beq_iff_eq.2 hb, h1, h2, by omega, by omega⟩
   ·
    exact .inr ⟨beq_eq_false_iff_ne.2 hb, by omega⟩
  ·
   by_cases hb : (((l.getD (i + 3) 0).toNat : Nat) : Int) / 64 = 2
   ·
    exact .inl ⟨beq_iff_eq.2 hb, h1, h2, by omega, by omega⟩
   ·
    exact .inr ⟨beq_eq_false_iff_ne.2 hb, by omega⟩
 ·
  cases h
theorem yt {len i n b1 b2 b3 k : Nat} {r rk : Int} (h : ContU len i n b1 b2 b3 r k rk true) : 0 < n ∧ i + n ≤ len ∧ k ≤ n ∧ 1 ≤ k ∧ (0 ≤ r → r ≤ 31 → k ≤ 3 → 0 ≤ rk ∧ rk ≤ 200000) ∧ (0 ≤ r → r ≤ 31 → 0 ≤ rk ∧ rk ≤ 40000000) ∧ (k = 1 → rk = r) := by
 rcases h with ⟨_, h1, h2, h3, h4⟩ | ⟨h, _⟩
 ·
  omega
 ·
  cases h
def EndU (len i n : Nat) (b0 b1 b2 b3 : Nat) (rk : Int) (ok : Bool) : Prop := (ok = true ∧ decodeN (len - i) b0 b1 b2 b3 = (rk.toNat, n) ∧ uR rk.toNat n = rk ∧ 0 ≤ rk ∧ 1 ≤ n ∧ i + n ≤ len) ∨ (ok = false ∧ decodeN (len - i) b0 b1 b2 b3 = (65533, 1))
set_option maxHeartbeats 1000000 in
theorem zgi {len i n b0 b1 b2 b3 : Nat} {r rk : Int} (hi : i < len) (h0 : b0 < 256) (hL : LeadU b0 n r) (hC : ContU len i n b1 b2 b3 r n rk true) (h : n = 1 ∨ (qge n ≤ rk ∧ rk ≤ 1114111 ∧ (rk < 55296 ∨ 57343 < rk))) : EndU len i n b0 b1 b2 b3 rk true := by
 rcases hC with ⟨_, h1, h2, h3, h4⟩ | ⟨h, _⟩
 ·
  unfold LeadU at hL
  unfold qge at h
  have hn : n = 1 ∨ n = 2 ∨ n = 3 ∨ n = 4 := by omega
  refine .inl ⟨rfl, ?_, ?_, by rcases hn with rfl | rfl | rfl | rfl <;> omega, h1, h2⟩
  ·
   unfold decodeN
   rcases hn with rfl | rfl | rfl | rfl
   ·
    rw [if_pos (by omega)]
    exact Prod.ext (by show b0 = rk.toNat; omega) rfl
   ·
    simp only [if_true] at h
    rw [if_neg (by omega), if_pos (by omega), if_pos (by omega)]
    exact Prod.ext (by show (_ : Nat) = rk.toNat; omega) rfl
   ·
    rw [if_neg (show ¬ 3 = 2 by decide), if_pos rfl] at h
    rw [if_neg (by omega), if_neg (by omega), if_pos (by omega), if_pos (by omega)]
    exact Prod.ext (by show (_ : Nat) = rk.toNat; omega) rfl
   ·
    rw [if_neg (show ¬ 4 = 2 by decide), if_neg (show ¬ 4 = 3 by decide)] at h
    rw [if_neg (by omega), if_neg (by omega), if_neg (by omega), if_pos (by omega), if_pos (by omega)]
    exact Prod.ext (by show (_ : Nat) = rk.toNat; omega) rfl
  ·
   unfold uR
   rw [if_neg (by rcases hn with rfl | rfl | rfl | rfl <;> omega)]
   rcases hn with rfl | rfl | rfl | rfl <;> omega
 ·
  cases h
set_option maxHeartbeats 1000000 in
theorem qxj {len i n b0 b1 b2 b3 k : Nat} {r rk : Int} {ok : Bool} (hi : i < len) (h0 : b0 < 256) (hL : LeadU b0 n r) (hC : ContU len i n b1 b2 b3 r k rk ok) (hk : ok = true → k = n) (h : ok = false ∨ (n ≠ 1 ∧ ¬ (qge n ≤ rk ∧ rk ≤ 1114111 ∧ (rk < 55296 ∨ 57343 < rk)))) : EndU len i n b0 b1 b2 b3 rk false := by
 refine .inr ⟨rfl, ?_⟩
 unfold LeadU at hL
 unfold decodeN
 rcases hC with ⟨hb, h1, h2, h3, h4⟩ | ⟨hb, h4⟩
 ·
  have hkn := hk hb
  subst hkn
  rcases h with h | ⟨h5, h6⟩
  ·
   rw [hb] at h; cases h
  ·
   have hn : k = 2 ∨ k = 3 ∨ k = 4 := by omega
   unfold qge at h6
   rcases hn with rfl | rfl | rfl
   ·
    simp only [if_true] at h6
    rw [if_neg (by omega), if_pos (by omega), if_neg (by omega)]
   ·
    rw [if_neg (show ¬ 3 = 2 by decide), if_pos rfl] at h6
    rw [if_neg (by omega), if_neg (by omega), if_pos (by omega), if_neg (by omega)]
   ·
    rw [if_neg (show ¬ 4 = 2 by decide), if_neg (show ¬ 4 = 3 by decide)] at h6
    rw [if_neg (by omega), if_neg (by omega), if_neg (by omega), if_pos (by omega), if_neg (by omega)]
 ·
  rw [if_neg (by omega), if_neg (by omega), if_neg (by omega), if_neg (by omega)]
set_option maxHeartbeats 4000000 in
theorem zoi {w : World} {so : Option Addr} {cap : Nat} {l : List UInt8} (hb : Rb w so l) (hlen : l.length ≤ 4000000) : Calls Tryz.prog 118 #[.slice so l.length cap] w fun e w' => ∃ v, e = .returned v ∧ Mg w w' [.row 105 3 v (jx l).length (xe (jx l))] := by
 have M : Mg w w ([]) := Mg.start w
 refine qr (l := [(0, .slice so l.length cap)]) Tryz.func118 rfl Tryz.ntmps118 rfl rfl ?_
 intro Q hret hnorm hP a A
 refine wsk fun K1 hK1 => wrl (sda A λa A↦?_)
 refine qa (hK1 _ _ (wsk fun K2 hK2 => wrl (qfe (e := 105) (sz := 3) (m := 0) (vs := []) A M rfl rfl rfl (zy rfl (by kernel_rfl)) rfl rfl (.inl (by decide)) ?_)))
 intro g3 w4 M a A
 refine sda A λa A↦?_
 refine qa (hK2 _ _ (wsk fun K5 hK5 => wsk fun K6 hK6 => wrl (sda A λa A↦?_)))
 refine qa (hK6 _ _ (wp_block (zt (fun m_ a w1 => ∃ (i : Nat) (acc : List (Int × Int)) (vo : Value), m_ = l.length - i ∧ (acc ++ qki l i = jx l ∧ i ≤ l.length ∧ acc.length ≤ i) ∧ Sl a 122 [(0, .slice so l.length cap), (2, .slice none 0 0), (3, vo), (4, .int .i64 (((i : Nat) : Int))), (12, .slice (some ⟨g3, 0, none⟩) 0 0)] ∧ Mg w w1 (.row 105 3 (vo) acc.length ((xe acc)) :: [])) _ ⟨0, [], .slice (some ⟨g3, 0, none⟩) 0 0, rfl, ⟨by rw [zgf]; rfl, Nat.zero_le _, Nat.le_refl _⟩, A.keep _ ⟨rfl, rfl, rfl, rfl, rfl, trivial⟩, M⟩ ?_)))
 clear M A
 rintro m_ a w7 ⟨i, acc, vo, rfl, hinv9, A, M⟩ K8 hK8
 obtain ⟨hrun, hi9, hacc⟩ := hinv9
 refine wsk fun K10 hK10 => wsk fun K11 hK11 => wrl ?_
 iterate 2 refine sdm A λa A↦?_
 refine sdo A (qz Tryz.underlying27 rfl) λa A↦?_
 rcases tf (decide (((i : Nat) : Int) < ((l.length : Nat) : Int))) with hb12 | hb12
 ·
  have hb12' := of_decide_eq_true hb12
  refine sdc A qw hb12 λa A↦?_
  refine qa (hK11 _ _ (wp_cond_true (A.ev rfl) ?_))
  refine wp_skip (hK10 _ _ (wp_block (wsk fun K13 hK13 => wrl ?_)))
  iterate 2 refine sda A λa A↦?_
  refine qa (hK13 _ _ (wsk fun K14 hK14 => ?_))
  have hi8 : i < l.length := by omega
  refine wrl ?_
  iterate 2 refine sdm A λa A↦?_
  obtain ⟨bx, ox, hx1, hx2, hx3⟩ := qmg (i := i) hb (by omega)
  have hu9 := (l.getD (i) 0).toNat_lt
  refine sdo (v := .pointer (some ⟨bx, ox + (i), none⟩)) A (jy (k := i) Tryz.underlying27 (by kernel_rfl) rfl rfl rfl hx1 (by omega)) λa A↦?_
  refine sdo (v := .int .u8 ((((l.getD i 0).toNat : Nat) : Int))) A (qle M hx2 (hx3 (i) (by omega)) TrU_is1_5 rfl) λa A↦?_
  refine sda A λa A↦?_
  refine qa (hK14 _ _ (wsk fun K15 hK15 => ?_))
  have hJ16 : ∀ a w1, (∃ (n : Nat) (r : Int), (LeadU (l.getD i 0).toNat n r) ∧ Sl a 122 [(0, .slice so l.length cap), (2, .slice none 0 0), (3, vo), (4, .int .i64 (((i : Nat) : Int))), (5, .int .i64 (((n : Nat) : Int))), (6, .int .i32 r), (12, .slice (some ⟨g3, 0, none⟩) 0 0), (13, .int .i64 (((i : Nat) : Int))), (14, .slice so l.length cap), (15, .int .i64 (((l.length : Nat) : Int))), (16, .bool true), (17, .slice so l.length cap), (18, .int .i64 (((i : Nat) : Int))), (19, .pointer (some ⟨bx, ox + (i), none⟩)), (20, .int .u8 ((((l.getD i 0).toNat : Nat) : Int)))] ∧ Mg w w1 (.row 105 3 (vo) acc.length ((xe acc)) :: [])) → K15 a w1 := by
   clear A M
   rintro a w17 ⟨n, r, hf18, A, M⟩
   have hL := hf18
   have hn4 := lead_4 hL
   refine hK15 _ _ (wsk fun K19 hK19 => ?_)
   have hJ20 : ∀ a w1, (∃ (ok : Bool), (ok = decide (0 < n ∧ i + n ≤ l.length)) ∧ Sl a 122 [(0, .slice so l.length cap), (2, .slice none 0 0), (3, vo), (4, .int .i64 (((i : Nat) : Int))), (5, .int .i64 (((n : Nat) : Int))), (6, .int .i32 r), (8, .bool ok), (12, .slice (some ⟨g3, 0, none⟩) 0 0), (13, .int .i64 (((i : Nat) : Int))), (14, .slice so l.length cap), (15, .int .i64 (((l.length : Nat) : Int))), (16, .bool true), (17, .slice so l.length cap), (18, .int .i64 (((i : Nat) : Int))), (19, .pointer (some ⟨bx, ox + (i), none⟩)), (20, .int .u8 ((((l.getD i 0).toNat : Nat) : Int)))] ∧ Mg w w1 (.row 105 3 (vo) acc.length ((xe acc)) :: [])) → K19 a w1 := by
    clear A M
    rintro a w21 ⟨ok, hf22, A, M⟩
    have hok := hf22
    refine hK19 _ _ (wsk fun K23 hK23 => ?_)
    have hJ24 : ∀ a w1, (∃ (k : Nat) (rk : Int) (ok3 : Bool), (ContU l.length i n (l.getD (i + 1) 0).toNat (l.getD (i + 2) 0).toNat (l.getD (i + 3) 0).toNat r k rk ok3 ∧ (ok3 = true → k = n)) ∧ Sl a 122 [(0, .slice so l.length cap), (2, .slice none 0 0), (3, vo), (4, .int .i64 (((i : Nat) : Int))), (5, .int .i64 (((n : Nat) : Int))), (6, .int .i32 rk), (8, .bool ok3), (12, .slice (some ⟨g3, 0, none⟩) 0 0), (13, .int .i64 (((i : Nat) : Int))), (14, .slice so l.length cap), (15, .int .i64 (((l.length : Nat) : Int))), (16, .bool true), (17, .slice so l.length cap), (18, .int .i64 (((i : Nat) : Int))), (19, .pointer (some ⟨bx, ox + (i), none⟩)), (20, .int .u8 ((((l.getD i 0).toNat : Nat) : Int)))] ∧ Mg w w1 (.row 105 3 (vo) acc.length ((xe acc)) :: [])) → K23 a w1 := by
     clear A M
     rintro a w25 ⟨k, rk, ok3, hf26, A, M⟩
     obtain ⟨hC, hkn⟩ := hf26
     refine hK23 _ _ (wsk fun K27 hK27 => ?_)
     have hJ28 : ∀ a w1, (∃ (ok4 : Bool), (EndU l.length i n (l.getD i 0).toNat (l.getD (i + 1) 0).toNat (l.getD (i + 2) 0).toNat (l.getD (i + 3) 0).toNat rk ok4) ∧ Sl a 122 [(0, .slice so l.length cap), (2, .slice none 0 0), (3, vo), (4, .int .i64 (((i : Nat) : Int))), (5, .int .i64 (((n : Nat) : Int))), (6, .int .i32 rk), (8, .bool ok4), (12, .slice (some ⟨g3, 0, none⟩) 0 0), (13, .int .i64 (((i : Nat) : Int))), (14, .slice so l.length cap), (15, .int .i64 (((l.length : Nat) : Int))), (16, .bool true), (17, .slice so l.length cap), (18, .int .i64 (((i : Nat) : Int))), (19, .pointer (some ⟨bx, ox + (i), none⟩)), (20, .int .u8 ((((l.getD i 0).toNat : Nat) : Int)))] ∧ Mg w w1 (.row 105 3 (vo) acc.length ((xe acc)) :: [])) → K27 a w1 := by
      clear A M
      rintro a w29 ⟨ok4, hf30, A, M⟩
      have hE := hf30
      refine hK27 _ _ (wsk fun K31 hK31 => wrl (sdm A λa A↦?_))
      refine qa (hK31 _ _ ?_)
      refine wp_cond_split (t := ok4) (A.ev rfl) (fun hc32 => ?_) (fun hc32 => ?_)
      ·
       refine wsk fun K33 hK33 => wrl ?_
       iterate 3 refine sdm A λa A↦?_
       refine sdo (v := .agg #[.int .i32 rk, .bool false, .int .i64 (((i : Nat) : Int))]) A (zw rfl (fun w => by kernel_rfl)) λa A↦?_
       refine qfe (e := 105) (sz := 3) (m := 1) (vs := [.int .i32 rk, .bool false, .int .i64 (((i : Nat) : Int))]) A M rfl rfl rfl (zy rfl (by kernel_rfl)) rfl rfl (.inl (by decide)) ?_
       intro g34 w35 M a A
       refine yw (e := 105) (sz := 3) (k := 1) (q := acc.length) (m := 1) (xs := (xe acc)) (news := [.int .i32 rk, .bool false, .int .i64 (((i : Nat) : Int))]) (L' := fun v36 => (.row 105 3 (.slice (some ⟨g34, 0, none⟩) 1 1) 1 ([.int .i32 rk, .bool false, .int .i64 (((i : Nat) : Int))]) :: .row 105 3 (v36) (acc.length + 1) ((xe acc) ++ [.int .i32 rk, .bool false, .int .i64 (((i : Nat) : Int))]) :: [])) A rfl rfl rfl (qsb (z := .agg #[.int .i32 0, .bool false, .int .i64 0]) (sz := 3) (by_ := 16) Tryz.underlying102 (by kernel_rfl) rfl rfl rfl M 1 rfl rfl 0 rfl rfl rfl rfl (by omega)) (fun _ => rfl) ?_
       intro v36 w37 M a A
       refine sda A λa A↦?_
       refine qa (hK33 _ _ (wrl ?_))
       iterate 2 refine sdm A λa A↦?_
       refine sdo (v := .int .i64 (((i + n : Nat) : Int))) A (qf rfl rfl (ar_add ((in_i64 (by omega) (by omega)).trans (by omega)))) λa A↦?_
       refine sda A λa A↦?_
       refine qa ?_
       obtain ⟨hd, hr9, hrk, hn1, hn2⟩ : decodeN (l.length - i) (l.getD i 0).toNat (l.getD (i + 1) 0).toNat (l.getD (i + 2) 0).toNat (l.getD (i + 3) 0).toNat = (rk.toNat, n) ∧ uR rk.toNat n = rk ∧ 0 ≤ rk ∧ 1 ≤ n ∧ i + n ≤ l.length := by
        rcases hE with ⟨_, h⟩ | ⟨h, _⟩
        ·
         exact h
        ·
         rw [hc32] at h; cases h
       have hs9 := qpj hi8 hd
       rw [hr9] at hs9
       replace M : Mg w w37 [.row 105 3 v36 (acc ++ [((i : Int), rk)]).length (xe (acc ++ [((i : Int), rk)]))] := by
        have h9 := M.sub (.cons _ (.cons_cons _ (.refl _)))
        have e9 : xe (acc ++ [((i : Int), rk)]) = xe acc ++ [.int .i32 rk, .bool false, .int .i64 (((i : Nat) : Int))] := by
         unfold xe
         rw [List.flatMap_append, List.flatMap_singleton]
         rw [if_neg (show ¬ _ = (-1 : Int) by simp only; omega)]
        rw [e9, List.length_append]
        exact h9
       refine hK8 _ _ _ (by omega) ⟨i + n, acc ++ [((i : Int), rk)], v36, rfl, ⟨by rw [← hrun, hs9, List.append_assoc]; rfl, by omega, by rw [List.length_append]; simp only [List.length_cons, List.length_nil]; omega⟩, A.keep _ ⟨rfl, rfl, rfl, rfl, rfl, trivial⟩, M⟩
      ·
       refine wsk fun K38 hK38 => wrl ?_
       iterate 2 refine sdm A λa A↦?_
       refine sdo (v := .agg #[.int .i32 0, .bool true, .int .i64 (((i : Nat) : Int))]) A (zw rfl (fun w => by kernel_rfl)) λa A↦?_
       refine qfe (e := 105) (sz := 3) (m := 1) (vs := [.int .i32 0, .bool true, .int .i64 (((i : Nat) : Int))]) A M rfl rfl rfl (zy rfl (by kernel_rfl)) rfl rfl (.inl (by decide)) ?_
       intro g39 w40 M a A
       refine yw (e := 105) (sz := 3) (k := 1) (q := acc.length) (m := 1) (xs := (xe acc)) (news := [.int .i32 0, .bool true, .int .i64 (((i : Nat) : Int))]) (L' := fun v41 => (.row 105 3 (.slice (some ⟨g39, 0, none⟩) 1 1) 1 ([.int .i32 0, .bool true, .int .i64 (((i : Nat) : Int))]) :: .row 105 3 (v41) (acc.length + 1) ((xe acc) ++ [.int .i32 0, .bool true, .int .i64 (((i : Nat) : Int))]) :: [])) A rfl rfl rfl (qsb (z := .agg #[.int .i32 0, .bool false, .int .i64 0]) (sz := 3) (by_ := 16) Tryz.underlying102 (by kernel_rfl) rfl rfl rfl M 1 rfl rfl 0 rfl rfl rfl rfl (by omega)) (fun _ => rfl) ?_
       intro v41 w42 M a A
       refine sda A λa A↦?_
       refine qa (hK38 _ _ (wrl (sdm A λa A↦?_)))
       refine sdo (v := .int .i64 (((i + 1 : Nat) : Int))) A (qf rfl rfl (ar_add ((in_i64 (by omega) (by omega)).trans (by omega)))) λa A↦?_
       refine sda A λa A↦?_
       refine qa ?_
       have hd : decodeN (l.length - i) (l.getD i 0).toNat (l.getD (i + 1) 0).toNat (l.getD (i + 2) 0).toNat (l.getD (i + 3) 0).toNat = (65533, 1) := by
        rcases hE with ⟨h, _⟩ | ⟨_, h⟩
        ·
         rw [hc32] at h; cases h
        ·
         exact h
       have hr9 : uR 65533 1 = -1 := by unfold uR; rw [if_pos ⟨rfl, by decide⟩]
       have hs9 := qpj hi8 hd
       rw [hr9] at hs9
       replace M : Mg w w42 [.row 105 3 v41 (acc ++ [((i : Int), (-1))]).length (xe (acc ++ [((i : Int), (-1))]))] := by
        have h9 := M.sub (.cons _ (.cons_cons _ (.refl _)))
        have e9 : xe (acc ++ [((i : Int), (-1))]) = xe acc ++ [.int .i32 0, .bool true, .int .i64 (((i : Nat) : Int))] := by
         unfold xe
         rw [List.flatMap_append, List.flatMap_singleton]
         rw [if_pos rfl]
        rw [e9, List.length_append]
        exact h9
       refine hK8 _ _ _ (by omega) ⟨i + 1, acc ++ [((i : Int), (-1))], v41, rfl, ⟨by rw [← hrun, hs9, List.append_assoc]; rfl, by omega, by rw [List.length_append]; simp only [List.length_cons, List.length_nil]; omega⟩, A.keep _ ⟨rfl, rfl, rfl, rfl, rfl, trivial⟩, M⟩
     refine wsk fun K43 hK43 => wrl ?_
     iterate 2 refine sdm A λa A↦?_
     rcases ok3 with _ | _
     ·
      iterate 2 refine qk A rfl rfl rfl λa A↦?_
      refine sdk (v := .bool false) A λa A↦?_
      refine qa (hK43 _ _ (wp_cond_false (A.ev rfl) ?_))
      refine wp_skip ?_
      replace M : Mg w w25 (.row 105 3 (vo) acc.length ((xe acc)) :: []) := by
       have h9 := M.sub (.cons_cons _ (.refl _))
       exact h9
      exact hJ28 _ _ ⟨false, qxj hi8 ((l.getD i 0).toNat_lt) hL hC hkn (.inl rfl), A.keep _ ⟨rfl, rfl, rfl, rfl, rfl, rfl, rfl, rfl, rfl, rfl, rfl, rfl, rfl, rfl, rfl, rfl, trivial⟩, M⟩
     ·
      refine sdm A λa A↦?_
      rcases tf (decide (1 < ((n : Nat) : Int))) with hb44 | hb44
      ·
       have hb44' := of_decide_eq_true hb44
       refine sdc A ja hb44 λa A↦?_
       refine sdk (v := .bool true) A λa A↦?_
       refine qa (hK43 _ _ (wp_cond_true (A.ev rfl) ?_))
       refine wsk fun K45 hK45 => wrl (qfe (e := 21) (sz := 1) (m := 5) (vs := [.int .i32 0, .int .i32 0, .int .i32 128, .int .i32 2048, .int .i32 65536]) A M rfl rfl rfl (zy rfl (by kernel_rfl)) rfl rfl (.inl (by decide)) ?_)
       intro g46 w47 M a A
       refine sda A λa A↦?_
       refine qa (hK45 _ _ ?_)
       have hc9 := yt hC
       refine wrl ?_
       iterate 3 refine sdm A λa A↦?_
       refine sdo (v := .pointer (some ⟨g46, n * 1, none⟩)) A (qx (k := n) Tryz.underlying112 (by kernel_rfl) rfl rfl rfl (by omega)) λa A↦?_
       refine sdo (v := .int .i32 (qge n)) A (zia M 0 rfl (zuj (by omega) (by omega)) TrU_is1_21 rfl) λa A↦?_
       rcases tf (decide (qge n ≤ rk)) with hb48 | hb48
       ·
        have hb48' := of_decide_eq_true hb48
        refine sdc A vg hb48 λa A↦?_
        iterate 2 refine sdm A λa A↦?_
        rcases tf (decide (rk ≤ 1114111)) with hb49 | hb49
        ·
         have hb49' := of_decide_eq_true hb49
         refine sdc A xw hb49 λa A↦?_
         refine sdk (v := .bool true) A λa A↦?_
         iterate 2 refine sdm A λa A↦?_
         rcases tf (decide (rk < 55296)) with hb50 | hb50
         ·
          have hb50' := of_decide_eq_true hb50
          refine sdc A qw hb50 λa A↦?_
          refine sdm A λa A↦?_
          iterate 2 refine qk A rfl rfl rfl λa A↦?_
          iterate 2 refine sdk (v := .bool true) A λa A↦?_
          refine sda A λa A↦?_
          refine qa ?_
          replace M : Mg w w47 (.row 105 3 (vo) acc.length ((xe acc)) :: []) := by
           have h9 := M.sub (.cons _ (.cons_cons _ (.refl _)))
           exact h9
          have hc8 := yt hC
          exact hJ28 _ _ ⟨true, zgi hi8 ((l.getD i 0).toNat_lt) hL (hkn rfl ▸ hC) (by omega), A.keep _ ⟨rfl, rfl, rfl, rfl, rfl, rfl, rfl, rfl, rfl, rfl, rfl, rfl, rfl, rfl, rfl, rfl, trivial⟩, M⟩
         ·
          have hb50' := of_decide_eq_false hb50
          refine sdc A qw hb50 λa A↦?_
          iterate 2 refine sdm A λa A↦?_
          rcases tf (decide (57343 < rk)) with hb51 | hb51
          ·
           have hb51' := of_decide_eq_true hb51
           refine sdc A ja hb51 λa A↦?_
           iterate 2 refine sdk (v := .bool true) A λa A↦?_
           refine sda A λa A↦?_
           refine qa ?_
           replace M : Mg w w47 (.row 105 3 (vo) acc.length ((xe acc)) :: []) := by
            have h9 := M.sub (.cons _ (.cons_cons _ (.refl _)))
            exact h9
           have hc8 := yt hC
           exact hJ28 _ _ ⟨true, zgi hi8 ((l.getD i 0).toNat_lt) hL (hkn rfl ▸ hC) (by omega), A.keep _ ⟨rfl, rfl, rfl, rfl, rfl, rfl, rfl, rfl, rfl, rfl, rfl, rfl, rfl, rfl, rfl, rfl, trivial⟩, M⟩
          ·
           have hb51' := of_decide_eq_false hb51
           refine sdc A ja hb51 λa A↦?_
           iterate 2 refine sdk (v := .bool false) A λa A↦?_
           refine sda A λa A↦?_
           refine qa ?_
           replace M : Mg w w47 (.row 105 3 (vo) acc.length ((xe acc)) :: []) := by
            have h9 := M.sub (.cons _ (.cons_cons _ (.refl _)))
            exact h9
           have hc8 := yt hC
           exact hJ28 _ _ ⟨false, qxj hi8 ((l.getD i 0).toNat_lt) hL hC hkn (.inr ⟨by omega, by omega⟩), A.keep _ ⟨rfl, rfl, rfl, rfl, rfl, rfl, rfl, rfl, rfl, rfl, rfl, rfl, rfl, rfl, rfl, rfl, trivial⟩, M⟩
        ·
         have hb49' := of_decide_eq_false hb49
         refine sdc A xw hb49 λa A↦?_
         refine sdk (v := .bool false) A λa A↦?_
         refine sdm A λa A↦?_
         iterate 3 refine qk A rfl rfl rfl λa A↦?_
         iterate 2 refine qad A rfl rfl rfl λa A↦?_
         refine qk A rfl rfl rfl λa A↦?_
         refine sdk (v := .bool false) A λa A↦?_
         refine sda A λa A↦?_
         refine qa ?_
         replace M : Mg w w47 (.row 105 3 (vo) acc.length ((xe acc)) :: []) := by
          have h9 := M.sub (.cons _ (.cons_cons _ (.refl _)))
          exact h9
         have hc8 := yt hC
         exact hJ28 _ _ ⟨false, qxj hi8 ((l.getD i 0).toNat_lt) hL hC hkn (.inr ⟨by omega, by omega⟩), A.keep _ ⟨rfl, rfl, rfl, rfl, rfl, rfl, rfl, rfl, rfl, rfl, rfl, rfl, rfl, rfl, rfl, rfl, trivial⟩, M⟩
       ·
        have hb48' := of_decide_eq_false hb48
        refine sdc A vg hb48 λa A↦?_
        refine sdm A λa A↦?_
        iterate 2 refine qk A rfl rfl rfl λa A↦?_
        refine sdk (v := .bool false) A λa A↦?_
        refine sdm A λa A↦?_
        iterate 3 refine qk A rfl rfl rfl λa A↦?_
        iterate 2 refine qad A rfl rfl rfl λa A↦?_
        refine qk A rfl rfl rfl λa A↦?_
        refine sdk (v := .bool false) A λa A↦?_
        refine sda A λa A↦?_
        refine qa ?_
        replace M : Mg w w47 (.row 105 3 (vo) acc.length ((xe acc)) :: []) := by
         have h9 := M.sub (.cons _ (.cons_cons _ (.refl _)))
         exact h9
        have hc8 := yt hC
        exact hJ28 _ _ ⟨false, qxj hi8 ((l.getD i 0).toNat_lt) hL hC hkn (.inr ⟨by omega, by omega⟩), A.keep _ ⟨rfl, rfl, rfl, rfl, rfl, rfl, rfl, rfl, rfl, rfl, rfl, rfl, rfl, rfl, rfl, rfl, trivial⟩, M⟩
      ·
       have hb44' := of_decide_eq_false hb44
       refine sdc A ja hb44 λa A↦?_
       refine sdk (v := .bool false) A λa A↦?_
       refine qa (hK43 _ _ (wp_cond_false (A.ev rfl) ?_))
       refine wp_skip ?_
       replace M : Mg w w25 (.row 105 3 (vo) acc.length ((xe acc)) :: []) := by
        have h9 := M.sub (.cons_cons _ (.refl _))
        exact h9
       have hc8 := yt hC
       exact hJ28 _ _ ⟨true, zgi hi8 ((l.getD i 0).toNat_lt) hL (hkn rfl ▸ hC) (by omega), A.keep _ ⟨rfl, rfl, rfl, rfl, rfl, rfl, rfl, rfl, rfl, rfl, rfl, rfl, rfl, rfl, rfl, rfl, trivial⟩, M⟩
    refine wsk fun K52 hK52 => wrl (sda A λa A↦?_)
    refine qa (hK52 _ _ (wp_block (zt (fun m_ a w1 => ∃ (k : Nat) (rk : Int) (ok2 : Bool), m_ = 5 - k ∧ (ContU l.length i n (l.getD (i + 1) 0).toNat (l.getD (i + 2) 0).toNat (l.getD (i + 3) 0).toNat r k rk ok2) ∧ Sl a 122 [(0, .slice so l.length cap), (2, .slice none 0 0), (3, vo), (4, .int .i64 (((i : Nat) : Int))), (5, .int .i64 (((n : Nat) : Int))), (6, .int .i32 rk), (8, .bool ok2), (9, .int .i64 (((k : Nat) : Int))), (12, .slice (some ⟨g3, 0, none⟩) 0 0), (13, .int .i64 (((i : Nat) : Int))), (14, .slice so l.length cap), (15, .int .i64 (((l.length : Nat) : Int))), (16, .bool true), (17, .slice so l.length cap), (18, .int .i64 (((i : Nat) : Int))), (19, .pointer (some ⟨bx, ox + (i), none⟩)), (20, .int .u8 ((((l.getD i 0).toNat : Nat) : Int)))] ∧ Mg w w1 (.row 105 3 (vo) acc.length ((xe acc)) :: [])) _ ⟨1, r, ok, rfl, zgh hok, A.keep _ ⟨rfl, rfl, rfl, rfl, rfl, rfl, rfl, rfl, rfl, rfl, rfl, rfl, rfl, rfl, rfl, rfl, rfl, trivial⟩, M⟩ ?_)))
    clear M A
    rintro m_ a w53 ⟨k, rk, ok2, rfl, hinv55, A, M⟩ K54 hK54
    have hC := hinv55
    refine wsk fun K56 hK56 => wsk fun K57 hK57 => wrl ?_
    iterate 2 refine sdm A λa A↦?_
    rcases ok2 with _ | _
    ·
     iterate 3 refine qk A rfl rfl rfl λa A↦?_
     refine sdk (v := .bool false) A λa A↦?_
     refine qa (hK57 _ _ (wp_cond_false (A.ev rfl) ?_))
     refine wp_exit ?_
     exact hJ24 _ _ ⟨k, rk, false, ⟨hC, fun h => by cases h⟩, A.keep _ ⟨rfl, rfl, rfl, rfl, rfl, rfl, rfl, rfl, rfl, rfl, rfl, rfl, rfl, rfl, rfl, rfl, trivial⟩, M⟩
    ·
     iterate 2 refine sdm A λa A↦?_
     rcases tf (decide (((k : Nat) : Int) < ((n : Nat) : Int))) with hb58 | hb58
     ·
      have hb58' := of_decide_eq_true hb58
      refine sdc A qw hb58 λa A↦?_
      refine sdk (v := .bool true) A λa A↦?_
      refine qa (hK57 _ _ (wp_cond_true (A.ev rfl) ?_))
      refine wp_skip (hK56 _ _ (wsk fun K59 hK59 => wp_block (wsk fun K60 hK60 => ?_)))
      have hc9 := yt hC
      refine wrl ?_
      iterate 3 refine sdm A λa A↦?_
      refine sdo (v := .int .i64 (((i + k : Nat) : Int))) A (qf rfl rfl (ar_add ((in_i64 (by omega) (by omega)).trans (by omega)))) λa A↦?_
      obtain ⟨bx, ox, hx1, hx2, hx3⟩ := qmg (i := i + k) hb (by omega)
      have hu9 := (l.getD (i + k) 0).toNat_lt
      refine sdo (v := .pointer (some ⟨bx, ox + (i + k), none⟩)) A (jy (k := i + k) Tryz.underlying27 (by kernel_rfl) rfl rfl rfl hx1 (by omega)) λa A↦?_
      refine sdo (v := .int .u8 ((((l.getD (i + k) 0).toNat : Nat) : Int))) A (qle M hx2 (hx3 (i + k) (by omega)) TrU_is1_5 rfl) λa A↦?_
      refine sda A λa A↦?_
      refine qa (hK60 _ _ (wsk fun K61 hK61 => wrl (sdm A λa A↦?_)))
      refine sdo (v := .int .u8 (((((l.getD (i + k) 0).toNat : Nat) : Int)) / 64)) A (qf rfl rfl (ar_shr (n := 6) rfl rfl rfl)) λa A↦?_
      refine sdo (v := .bool ((((((l.getD (i + k) 0).toNat : Nat) : Int)) / 64 == 2))) A (qf rfl rfl ql) λa A↦?_
      refine sda A λa A↦?_
      refine qa (hK61 _ _ (wrl (sdm A λa A↦?_)))
      refine sdo (v := .int .i32 (rk * 64)) A (qf rfl rfl (ar_shl (n := 6) rfl rfl (in_i32 (by omega) (by omega)))) λa A↦?_
      refine sdm A λa A↦?_
      refine sdo (v := .int .u8 (((((l.getD (i + k) 0).toNat : Nat) : Int)) % 64)) A (qf rfl rfl (ar_and (qxi 6 63 rfl (by decide) (by omega) (by omega)))) λa A↦?_
      refine sdo (v := .int .i32 (((((l.getD (i + k) 0).toNat : Nat) : Int)) % 64)) A (jg rfl (ar_conv Tryz.underlying5 Tryz.underlying21 (in_i32 (by omega) (by omega)))) λa A↦?_
      refine sdo (v := .int .i32 (rk * 64 + (((((l.getD (i + k) 0).toNat : Nat) : Int)) % 64))) A (qf rfl rfl (ar_or (or_six (by omega) (by omega) (by omega) (by omega)))) λa A↦?_
      refine sda A λa A↦?_
      refine qa (hK59 _ _ (wrl (sdm A λa A↦?_)))
      refine sdo (v := .int .i64 (((k + 1 : Nat) : Int))) A (qf rfl rfl (ar_add ((in_i64 (by omega) (by omega)).trans (by omega)))) λa A↦?_
      refine sda A λa A↦?_
      refine qa ?_
      refine hK54 _ _ _ (by omega) ⟨k + 1, rk * 64 + (((((l.getD (i + k) 0).toNat : Nat) : Int)) % 64), (((((l.getD (i + k) 0).toNat : Nat) : Int)) / 64 == 2), rfl, zoh (by omega) hC (by omega), A.keep _ ⟨rfl, rfl, rfl, rfl, rfl, rfl, rfl, rfl, rfl, rfl, rfl, rfl, rfl, rfl, rfl, rfl, rfl, trivial⟩, M⟩
     ·
      have hb58' := of_decide_eq_false hb58
      refine sdc A qw hb58 λa A↦?_
      refine sdk (v := .bool false) A λa A↦?_
      refine qa (hK57 _ _ (wp_cond_false (A.ev rfl) ?_))
      refine wp_exit ?_
      exact hJ24 _ _ ⟨k, rk, true, ⟨hC, fun _ => by have := yt hC; omega⟩, A.keep _ ⟨rfl, rfl, rfl, rfl, rfl, rfl, rfl, rfl, rfl, rfl, rfl, rfl, rfl, rfl, rfl, rfl, trivial⟩, M⟩
   refine wrl (sdm A λa A↦?_)
   rcases tf (decide (0 < ((n : Nat) : Int))) with hb62 | hb62
   ·
    have hb62' := of_decide_eq_true hb62
    refine sdc A ja hb62 λa A↦?_
    iterate 3 refine sdm A λa A↦?_
    refine sdo (v := .int .i64 (((i + n : Nat) : Int))) A (qf rfl rfl (ar_add ((in_i64 (by omega) (by omega)).trans (by omega)))) λa A↦?_
    refine sdm A λa A↦?_
    refine sdo A (qz Tryz.underlying27 rfl) λa A↦?_
    rcases tf (decide (((i + n : Nat) : Int) ≤ ((l.length : Nat) : Int))) with hb63 | hb63
    ·
     have hb63' := of_decide_eq_true hb63
     refine sdc A xw hb63 λa A↦?_
     refine sdk (v := .bool true) A λa A↦?_
     refine sda A λa A↦?_
     refine qa ?_
     exact hJ20 _ _ ⟨true, (decide_eq_true (by omega)).symm, A.keep _ ⟨rfl, rfl, rfl, rfl, rfl, rfl, rfl, rfl, rfl, rfl, rfl, rfl, rfl, rfl, rfl, rfl, trivial⟩, M⟩
    ·
     have hb63' := of_decide_eq_false hb63
     refine sdc A xw hb63 λa A↦?_
     refine sdk (v := .bool false) A λa A↦?_
     refine sda A λa A↦?_
     refine qa ?_
     exact hJ20 _ _ ⟨false, (decide_eq_false (by omega)).symm, A.keep _ ⟨rfl, rfl, rfl, rfl, rfl, rfl, rfl, rfl, rfl, rfl, rfl, rfl, rfl, rfl, rfl, rfl, trivial⟩, M⟩
   ·
    have hb62' := of_decide_eq_false hb62
    refine sdc A ja hb62 λa A↦?_
    refine sdm A λa A↦?_
    iterate 6 refine qk A rfl rfl rfl λa A↦?_
    refine sdk (v := .bool false) A λa A↦?_
    refine sda A λa A↦?_
    refine qa ?_
    exact hJ20 _ _ ⟨false, (decide_eq_false (by omega)).symm, A.keep _ ⟨rfl, rfl, rfl, rfl, rfl, rfl, rfl, rfl, rfl, rfl, rfl, rfl, rfl, rfl, rfl, rfl, trivial⟩, M⟩
  refine wp_block (wsk fun K64 hK64 => wrl (sdm A λa A↦?_))
  rcases tf (decide ((((l.getD i 0).toNat : Nat) : Int) < 128)) with hb65 | hb65
  ·
   have hb65' := of_decide_eq_true hb65
   refine sdc A qw hb65 λa A↦?_
   refine sda A λa A↦?_
   refine qa (hK64 _ _ (wp_cond_true (A.ev rfl) ?_))
   refine wrl (sdm A λa A↦?_)
   refine sdo (v := .int .i32 ((((l.getD i 0).toNat : Nat) : Int))) A (jg rfl (ar_conv Tryz.underlying5 Tryz.underlying21 (in_i32 (by omega) (by omega)))) λa A↦?_
   iterate 2 refine sda A λa A↦?_
   refine qa ?_
   exact hJ16 _ _ ⟨1, (((l.getD i 0).toNat : Nat) : Int), (by unfold LeadU; omega), A.keep _ ⟨rfl, rfl, rfl, rfl, rfl, rfl, rfl, rfl, rfl, rfl, rfl, rfl, rfl, rfl, rfl, trivial⟩, M⟩
  ·
   have hb65' := of_decide_eq_false hb65
   refine sdc A qw hb65 λa A↦?_
   refine sda A λa A↦?_
   refine qa (hK64 _ _ (wp_cond_false (A.ev rfl) ?_))
   refine wsk fun K66 hK66 => wrl (sdm A λa A↦?_)
   refine sdo (v := .int .u8 (((((l.getD i 0).toNat : Nat) : Int)) / 32)) A (qf rfl rfl (ar_shr (n := 5) rfl rfl rfl)) λa A↦?_
   rcases tf ((((((l.getD i 0).toNat : Nat) : Int)) / 32 == 6)) with hb67 | hb67
   ·
    have hb67' := eq_of_beq hb67
    refine sdc A ql hb67 λa A↦?_
    refine sda A λa A↦?_
    refine qa (hK66 _ _ (wp_cond_true (A.ev rfl) ?_))
    refine wrl (sdm A λa A↦?_)
    refine sdo (v := .int .u8 (((((l.getD i 0).toNat : Nat) : Int)) % 32)) A (qf rfl rfl (ar_and (qxi 5 31 rfl (by decide) (by omega) (by omega)))) λa A↦?_
    refine sdo (v := .int .i32 (((((l.getD i 0).toNat : Nat) : Int)) % 32)) A (jg rfl (ar_conv Tryz.underlying5 Tryz.underlying21 (in_i32 (by omega) (by omega)))) λa A↦?_
    iterate 2 refine sda A λa A↦?_
    refine qa ?_
    exact hJ16 _ _ ⟨2, ((((l.getD i 0).toNat : Nat) : Int)) % 32, (by unfold LeadU; omega), A.keep _ ⟨rfl, rfl, rfl, rfl, rfl, rfl, rfl, rfl, rfl, rfl, rfl, rfl, rfl, rfl, rfl, trivial⟩, M⟩
   ·
    have hb67' := ne_of_beq_false hb67
    refine sdc A ql hb67 λa A↦?_
    refine sda A λa A↦?_
    refine qa (hK66 _ _ (wp_cond_false (A.ev rfl) ?_))
    refine wsk fun K68 hK68 => wrl (sdm A λa A↦?_)
    refine sdo (v := .int .u8 (((((l.getD i 0).toNat : Nat) : Int)) / 16)) A (qf rfl rfl (ar_shr (n := 4) rfl rfl rfl)) λa A↦?_
    rcases tf ((((((l.getD i 0).toNat : Nat) : Int)) / 16 == 14)) with hb69 | hb69
    ·
     have hb69' := eq_of_beq hb69
     refine sdc A ql hb69 λa A↦?_
     refine sda A λa A↦?_
     refine qa (hK68 _ _ (wp_cond_true (A.ev rfl) ?_))
     refine wrl (sdm A λa A↦?_)
     refine sdo (v := .int .u8 (((((l.getD i 0).toNat : Nat) : Int)) % 16)) A (qf rfl rfl (ar_and (qxi 4 15 rfl (by decide) (by omega) (by omega)))) λa A↦?_
     refine sdo (v := .int .i32 (((((l.getD i 0).toNat : Nat) : Int)) % 16)) A (jg rfl (ar_conv Tryz.underlying5 Tryz.underlying21 (in_i32 (by omega) (by omega)))) λa A↦?_
     iterate 2 refine sda A λa A↦?_
     refine qa ?_
     exact hJ16 _ _ ⟨3, ((((l.getD i 0).toNat : Nat) : Int)) % 16, (by unfold LeadU; omega), A.keep _ ⟨rfl, rfl, rfl, rfl, rfl, rfl, rfl, rfl, rfl, rfl, rfl, rfl, rfl, rfl, rfl, trivial⟩, M⟩
    ·
     have hb69' := ne_of_beq_false hb69
     refine sdc A ql hb69 λa A↦?_
     refine sda A λa A↦?_
     refine qa (hK68 _ _ (wp_cond_false (A.ev rfl) ?_))
     refine wsk fun K70 hK70 => wrl (sdm A λa A↦?_)
     refine sdo (v := .int .u8 (((((l.getD i 0).toNat : Nat) : Int)) / 8)) A (qf rfl rfl (ar_shr (n := 3) rfl rfl rfl)) λa A↦?_
     rcases tf ((((((l.getD i 0).toNat : Nat) : Int)) / 8 == 30)) with hb71 | hb71
     ·
      have hb71' := eq_of_beq hb71
      refine sdc A ql hb71 λa A↦?_
      refine sda A λa A↦?_
      refine qa (hK70 _ _ (wp_cond_true (A.ev rfl) ?_))
      refine wrl (sdm A λa A↦?_)
      refine sdo (v := .int .u8 (((((l.getD i 0).toNat : Nat) : Int)) % 8)) A (qf rfl rfl (ar_and (qxi 3 7 rfl (by decide) (by omega) (by omega)))) λa A↦?_
      refine sdo (v := .int .i32 (((((l.getD i 0).toNat : Nat) : Int)) % 8)) A (jg rfl (ar_conv Tryz.underlying5 Tryz.underlying21 (in_i32 (by omega) (by omega)))) λa A↦?_
      iterate 2 refine sda A λa A↦?_
      refine qa ?_
      exact hJ16 _ _ ⟨4, ((((l.getD i 0).toNat : Nat) : Int)) % 8, (by unfold LeadU; omega), A.keep _ ⟨rfl, rfl, rfl, rfl, rfl, rfl, rfl, rfl, rfl, rfl, rfl, rfl, rfl, rfl, rfl, trivial⟩, M⟩
     ·
      have hb71' := ne_of_beq_false hb71
      refine sdc A ql hb71 λa A↦?_
      refine sda A λa A↦?_
      refine qa (hK70 _ _ (wp_cond_false (A.ev rfl) ?_))
      refine wp_skip ?_
      exact hJ16 _ _ ⟨0, 0, (by unfold LeadU; omega), A.keep _ ⟨rfl, rfl, rfl, rfl, rfl, rfl, rfl, rfl, rfl, rfl, rfl, rfl, rfl, rfl, rfl, trivial⟩, M⟩
 ·
  have hb12' := of_decide_eq_false hb12
  refine sdc A qw hb12 λa A↦?_
  refine qa (hK11 _ _ (wp_cond_false (A.ev rfl) ?_))
  refine wp_exit (hK5 _ _ (wsk fun K72 hK72 => wrl (sdm A λa A↦?_)))
  refine sda A λa A↦?_
  refine qa (hK72 _ _ (wp_ret (hret _ _ (en1 A rfl (qg rfl) ?_))))
  rw [zgg (by omega), List.append_nil] at hrun
  subst hrun
  exact ⟨_, rfl, M⟩
theorem zbh {w : World} {B : Nat} {e : TypeId} {sz : Nat} {v : Value} {n : Nat} {xs : List Value} (h : w.ownsRow B e sz v n xs) : ∃ so cap, v = .slice so n cap := by
  rcases h.2 with ⟨rfl, rfl⟩ | ⟨g, cap, cur, rfl, _⟩
  · exact ⟨none, 0, rfl⟩
  · exact ⟨_, cap, rfl⟩
section
variable {P : Program} {w0 w : World} {L : List Ck} {l : List (Nat × Value)} {dst : Option Tmp} {ty : TypeId} {pos : String} {after : Array Edge} {guard : Option (Nat × Bool)} {v : Value}
theorem zgj {w' : World} {s d : TypeId} {x : Operand} {u : Value} (hx : ev l x = some u) (hr : (convert s d u).run P w = .ok v w') : Does P l ⟨dst, .convert s d x, ty, pos, after, guard⟩ w v w' := fun ρ h => by
  simp only [execOp, h x _ hx, Sem.run_bind, hr, Result.andThen_ok, Sem.run_pure]
theorem zva (hM : Mg w0 w L) (k : Nat) {e : TypeId} {sz n cap : Nat} {so : Option Addr} {xs : List Value} (hk : L[k]? = some (.row e sz (.slice so n cap) n xs)) (hn : 0 < n) : ∃ g, so = some ⟨g, 0, none⟩ := by
  rcases (hM.has k hk).2 with ⟨_, h0⟩ | ⟨g, cap', cur, he, _⟩
  · omega
  · cases he; exact ⟨g, rfl⟩
theorem zbi {t e : TypeId} {sz : Nat} (hu : P.underlying t = some (.slice e)) (he : (P.info? e).map (·.size) = some sz) {x i : Operand} {so : Option Addr} {g n c k : Nat} {z : Int} (hx : ev l x = some (.slice so n c)) (hi : ev l i = some (.int .i64 z)) (hz : z = (k : Nat)) (hso : so = some ⟨g, 0, none⟩) (hk : k < n) :
    Does P l ⟨dst, .indexAddr t x i, ty, pos, after, guard⟩ w (.pointer (some ⟨g, k * sz, none⟩)) w := by
  subst hso
  exact qx hu he hx hi hz hk
theorem zlb (hM : Mg w0 w L) (k : Nat) {e : TypeId} {sz g n c j : Nat} {so : Option Addr} {xs : List Value} (hk : L[k]? = some (.row e sz (.slice so n c) n xs)) (hso : so = some ⟨g, 0, none⟩) (hj : xs[j]? = some v) {t : TypeId} (ht : Is1 P t) {x : Operand} (hx : ev l x = some (.pointer (some ⟨g, j, none⟩))) : Does P l ⟨dst, .load t x, ty, pos, after, guard⟩ w v w := by
  subst hso
  exact zia hM k hk hj ht hx
end
section
variable {P : Program} {w0 w : World} {L : List Ck} {l : List (Nat × Value)} {ops : List Oper} {Q : Exit → Act → World → Prop} {a : Act} {n : Nat} {rest : List Oper} {d : Nat} {dst : Option Tmp} {ty : TypeId} {pos : String} {after : Array Edge} {guard : Option (Nat × Bool)}
/-- A text as bytes. -/
theorem jaa (hA : Sl a n l) (hM : Mg w0 w L) {t t' : TypeId} {x : Operand} {s : ByteArray} {o : Oper} (ho : o = ⟨dst, .convert t t' x, ty, pos, after, guard⟩) (ht : P.underlying t = some .string) (hd : P.underlying t' = some (.slice BY)) (he : P.underlying BY = some (.int .u8)) (hx : ev l x = some (.string s)) (hg : zq l ops o = true) (hdst : o.dst = some d) (hdn : Nat.blt d n = true)
    (hk : ∀ so cap w', Rb w' so s.data.toList → Mg w0 w' L → ∀ a', Sl a' n ((d, .slice so s.data.toList.length cap) :: l) → wpList P ops.toArray Q rest a' w') : wpList P ops.toArray Q (o :: rest) a w := by
  subst ho
  have hr := Go.Lib.run_convert_string_bytes (P := P) w t t' BY s ht hd he
  have hb : Below w.heap.size w (bytesWorld w BY s) := ⟨rfl, rfl, rfl, by rw [bytesWorld_size]; omega, fun j hj => bytesWorld_at_old w BY s j hj⟩
  refine kh hA hg hdst hdn (v := .slice (some ⟨w.heap.size, 0, none⟩) s.data.toList.length (grownCap w s.size 0 BY)) (w' := bytesWorld w BY s) (zgj hx (by rw [ut]; exact hr)) (hk _ _ _ ⟨fun _ => ⟨w.heap.size, 0, rfl, by rw [bytesWorld_size]; omega, fun j hj => ?_⟩⟩ (hM.call hb))
  rw [ut] at hj
  rw [Nat.zero_add]
  exact bytesWorld_cell w BY s j hj
end
theorem qqa (u : Int × Int) (us : List (Int × Int)) : xe (u :: us) = (if u.2 = -1 then [.int .i32 0, .bool true, .int .i64 u.1] else [.int .i32 u.2, .bool false, .int .i64 u.1]) ++ xe us := rfl
theorem qqb : ∀ (us : List (Int × Int)) (i f : Nat) (u : Int × Int), us[i]? = some u → f < 3 → (xe us)[i * 3 + f]? = (if u.2 = -1 then [Value.int .i32 0, .bool true, .int .i64 u.1] else [.int .i32 u.2, .bool false, .int .i64 u.1])[f]?
  | [], i, f, u, h, hf => by simp at h
  | v :: us, 0, f, u, h, hf => by
    simp only [List.getElem?_cons_zero, Option.some.injEq] at h
    subst h
    rw [qqa, Nat.zero_mul, Nat.zero_add, List.getElem?_append_left]
    split <;> exact hf
  | v :: us, i + 1, f, u, h, hf => by
    rw [List.getElem?_cons_succ] at h
    rw [qqa, List.getElem?_append_right (by split <;> (simp only [List.length_cons, List.length_nil]; omega))]
    have e : (i + 1) * 3 + f - (if v.2 = -1 then [Value.int .i32 0, .bool true, .int .i64 v.1] else [.int .i32 v.2, .bool false, .int .i64 v.1]).length = i * 3 + f := by
      split <;> (simp only [List.length_cons, List.length_nil]; omega)
    rw [e]
    exact qqb us i f u h hf
theorem zvb {us : List (Int × Int)} {i : Nat} (h : i < us.length) : ∃ ua ur, us[i]? = some (ua, ur) := ⟨_, _, List.getElem?_eq_getElem h⟩
/-! ### Encode -/
theorem qqc : ∀ (f p : Nat) (l : List UInt8), (vx f p l).length ≤ l.length
  | 0, _, _ => Nat.zero_le _
  | f + 1, p, l => by
    by_cases hl : l = []
    · subst hl; simp [vx]
    · rw [qkh hl, List.length_cons]
      have h1 := qqc f (p + (decodeL l).2) (l.drop (decodeL l).2)
      have h2 := uq l hl
      rw [List.length_drop] at h1
      omega
theorem zvc (l : List UInt8) (h : (decodeL l).1 = 65533) : (decodeL l).2 = 1 ∨ (decodeL l).2 = 3 ∨ (decodeL l).2 = 0 := by
  rw [decodeL_N] at h ⊢
  generalize (l.getD 0 0).toNat = b0 at h ⊢
  generalize (l.getD 1 0).toNat = b1 at h ⊢
  generalize (l.getD 2 0).toNat = b2 at h ⊢
  generalize (l.getD 3 0).toNat = b3 at h ⊢
  unfold decodeN at h ⊢
  repeat' split
  all_goals (simp_all)
  all_goals omega
theorem qfb : ∀ (f p : Nat) (l : List UInt8), validGoD f l = (vx f p l).all (fun u => !decide (u.2 = -1))
  | 0, p, l => rfl
  | f + 1, p, l => by
    unfold validGoD vx
    by_cases hl : l = []
    · rw [if_pos hl, if_pos hl]; rfl
    · rw [if_neg hl, if_neg hl, List.all_cons]
      have hw := uq l hl
      have h3 := zvc l
      by_cases hb : (decodeL l).1 = 65533 ∧ (decodeL l).2 = 1
      · rw [if_pos hb]
        have : uR (decodeL l).1 (decodeL l).2 = -1 := by unfold uR; rw [if_pos ⟨hb.1, by omega⟩]
        rw [this]; rfl
      · rw [if_neg hb]
        have : ¬ uR (decodeL l).1 (decodeL l).2 = -1 := by
          unfold uR
          by_cases h9 : (decodeL l).1 = 65533
          · rw [if_neg (by have := h3 h9; omega)]; omega
          · rw [if_neg (fun e => h9 e.1)]; omega
        rw [decide_eq_false this, qfb f (p + (decodeL l).2)]
        simp
theorem qub (s : ByteArray) : okS s = (jx s.data.toList).all (fun u => !decide (u.2 = -1)) := qfb _ 0 _
theorem jab {s : ByteArray} {i : Nat} {ua ur : Int} (h : (jx s.data.toList)[i]? = some (ua, ur)) (hr : ur = -1) : okS s = false := by
  rw [qub]
  apply Bool.eq_false_iff.2
  intro k
  have := List.all_eq_true.1 k _ (List.mem_of_getElem? h)
  simp [hr] at this
theorem zvd {s : ByteArray} (h : ∀ (i : Nat) (ua ur : Int), (jx s.data.toList)[i]? = some (ua, ur) → ur ≠ -1) : okS s = true := by
  rw [qub, List.all_eq_true]
  intro u hu
  obtain ⟨i, hi⟩ := List.mem_iff_getElem?.1 hu
  simp [h i u.1 u.2 hi]
theorem TrV_is1_27 : Is1 Tryz.prog 27 := ⟨⟨_, Tryz.underlying27, rfl⟩, by kernel_rfl⟩
theorem TrV_is1_28 : Is1 Tryz.prog 28 := ⟨⟨_, Tryz.underlying28, rfl⟩, by kernel_rfl⟩
theorem TrV_is1_3 : Is1 Tryz.prog 3 := ⟨⟨_, Tryz.underlying3, rfl⟩, by kernel_rfl⟩
theorem TrV_is1_4 : Is1 Tryz.prog 4 := ⟨⟨_, Tryz.underlying4, rfl⟩, by kernel_rfl⟩
theorem TrV_is1_9 : Is1 Tryz.prog 9 := ⟨⟨_, Tryz.underlying9, rfl⟩, by kernel_rfl⟩
theorem TrV_fld_105_1 : FieldAt Tryz.prog 105 1 1 := ⟨_, _, Tryz.underlying105, rfl, rfl, by kernel_rfl⟩
theorem TrV_fld_26_0 : FieldAt Tryz.prog 26 0 0 := ⟨_, _, Tryz.underlying26, rfl, rfl, by kernel_rfl⟩
theorem TrV_fld_26_1 : FieldAt Tryz.prog 26 1 3 := ⟨_, _, Tryz.underlying26, rfl, rfl, by kernel_rfl⟩
theorem TrV_fld_30_0 : FieldAt Tryz.prog 30 0 0 := ⟨_, _, Tryz.underlying30, rfl, rfl, by kernel_rfl⟩
theorem TrV_fld_30_1 : FieldAt Tryz.prog 30 1 1 := ⟨_, _, Tryz.underlying30, rfl, rfl, by kernel_rfl⟩
theorem TrV_fld_30_2 : FieldAt Tryz.prog 30 2 2 := ⟨_, _, Tryz.underlying30, rfl, rfl, by kernel_rfl⟩
theorem TrV_fld_30_3 : FieldAt Tryz.prog 30 3 8 := ⟨_, _, Tryz.underlying30, rfl, rfl, by kernel_rfl⟩
theorem TrV_fld_30_4 : FieldAt Tryz.prog 30 4 9 := ⟨_, _, Tryz.underlying30, rfl, rfl, by kernel_rfl⟩
theorem TrV_fld_30_5 : FieldAt Tryz.prog 30 5 10 := ⟨_, _, Tryz.underlying30, rfl, rfl, by kernel_rfl⟩
theorem TrV_isS_24 : IsS Tryz.prog 24 3 := ⟨⟨_, Tryz.underlying24⟩, by kernel_rfl⟩
theorem TrV_isS_26 : IsS Tryz.prog 26 6 := ⟨⟨_, Tryz.underlying26⟩, by kernel_rfl⟩
theorem zbj {w : World} {so : Option Addr} {cap : Nat} {l : List UInt8} (hb : Rb w so l) (hlen : l.length ≤ 4000000) : Calls Tryz.prog 101 #[.int .i64 1, .slice so l.length cap] w fun e w' => ∃ v, e = .returned v ∧ Mg w w' [.row 105 3 v (jx l).length (xe (jx l))] := by
 have M : Mg w w ([]) := Mg.start w
 refine qr (l := [(0, .int .i64 1), (1, .slice so l.length cap)]) Tryz.func101 rfl Tryz.ntmps101 rfl rfl ?_
 intro Q hret hnorm hP a A
 refine wsk fun K1 hK1 => wrl (sda A λa A↦?_)
 refine qa (hK1 _ _ (wsk fun K2 hK2 => wsk fun K3 hK3 => wrl (sdm A λa A↦?_)))
 refine sdo (v := .bool true) A (qf rfl rfl (fun w => by kernel_rfl)) λa A↦?_
 refine qa (hK3 _ _ (wp_cond_true (A.ev rfl) ?_))
 refine wsk fun K4 hK4 => wrl (sdm A λa A↦?_)
 refine sct A (ef rfl rfl) (zoi (hb.below M.bel) hlen) ?_
 rintro _ w5 ⟨v9, rfl, hM9⟩
 replace M : Mg w w5 (.row 105 3 (v9) ((jx l).length) ((xe (jx l))) :: []) := (M.both hM9 (jf jj) (jl (by simp) (jf jj)))
 refine ⟨_, rfl, ?_⟩
 intro a A
 refine sda A λa A↦?_
 refine qa (hK4 _ _ (wp_ret (hret _ _ (en1 A rfl (qg rfl) ?_))))
 exact ⟨_, rfl, M⟩
theorem qqd {w : World} {s : ByteArray} (hs : s.size ≤ 4000000) {r : Bool} (hr : okS s = r) : Calls Tryz.prog 82 #[.string s] w fun e w' => e = .returned (.bool r) ∧ Below w.heap.size w w' := by
 have hul : (jx s.data.toList).length ≤ s.data.toList.length := qqc _ _ _
 have hsl : s.data.toList.length ≤ 4000000 := by rw [ut]; exact hs
 have M : Mg w w ([]) := Mg.start w
 refine qr (l := [(0, .string s)]) Tryz.func82 rfl Tryz.ntmps82 rfl rfl ?_
 intro Q hret hnorm hP a A
 refine wsk fun K1 hK1 => wrl (sda A λa A↦?_)
 refine qa (hK1 _ _ (wsk fun K2 hK2 => wrl (sdm A λa A↦?_)))
 refine jaa A M rfl Tryz.underlying9 Tryz.underlying27 Tryz.underlying5 rfl rfl rfl rfl ?_
 intro so3 ca4 w5 hrb6 M a A
 refine sct A (ef rfl rfl) (zbj hrb6 (by rw [ut]; exact hs)) ?_
 rintro _ w10 ⟨v9, rfl, hM7⟩
 obtain ⟨so8, ca9, rfl⟩ := zbh (hM7.has 0 rfl)
 replace M : Mg w w10 (.row 105 3 (.slice so8 ((jx s.data.toList).length) ca9) ((jx s.data.toList).length) ((xe (jx s.data.toList))) :: []) := (M.both hM7 (jf jj) (jl (by simp) (jf jj)))
 refine ⟨_, rfl, ?_⟩
 intro a A
 refine sda A λa A↦?_
 refine qa (hK2 _ _ (wsk fun K11 hK11 => wsk fun K12 hK12 => wrl (sda A λa A↦?_)))
 refine qa (hK12 _ _ (wp_block (zt (fun m_ a w1 => ∃ (i : Nat), m_ = 1 + ((jx s.data.toList).length - i) ∧ (i ≤ (jx s.data.toList).length ∧ ∀ j ua ur, j < i → (jx s.data.toList)[j]? = some (ua, ur) → ur ≠ -1) ∧ Sl a 19 [(0, .string s), (3, .slice so8 ((jx s.data.toList).length) ca9), (4, .int .i64 (((i : Nat) : Int))), (5, .string s), (6, .slice so3 s.data.toList.length ca4), (7, .slice so8 ((jx s.data.toList).length) ca9)] ∧ Mg w w1 (.row 105 3 (.slice so8 ((jx s.data.toList).length) ca9) ((jx s.data.toList).length) ((xe (jx s.data.toList))) :: [])) _ ⟨0, rfl, ⟨Nat.zero_le _, fun j ua ur hj => absurd hj (Nat.not_lt_zero _)⟩, A.keep _ ⟨rfl, rfl, rfl, rfl, rfl, rfl, trivial⟩, M⟩ ?_)))
 clear M A
 rintro m_ a w13 ⟨i, rfl, hinv15, A, M⟩ K14 hK14
 obtain ⟨hi0, hin9⟩ := hinv15
 refine wsk fun K16 hK16 => wsk fun K17 hK17 => wrl ?_
 iterate 2 refine sdm A λa A↦?_
 refine sdo A (qz Tryz.underlying102 rfl) λa A↦?_
 rcases tf (decide (((i : Nat) : Int) < (((jx s.data.toList).length : Nat) : Int))) with hb18 | hb18
 ·
  have hb18' := of_decide_eq_true hb18
  refine sdc A qw hb18 λa A↦?_
  refine qa (hK17 _ _ (wp_cond_true (A.ev rfl) ?_))
  refine wp_skip (hK16 _ _ (wsk fun K19 hK19 => wp_block (wsk fun K20 hK20 => wrl ?_)))
  iterate 2 refine sdm A λa A↦?_
  obtain ⟨gu, hgu⟩ := zva M 0 rfl (by omega)
  obtain ⟨ua, ur, hu⟩ := zvb (us := jx s.data.toList) (i := i) (by omega)
  refine sdo (v := .pointer (some ⟨gu, i * 3, none⟩)) A (zbi Tryz.underlying102 (by kernel_rfl) rfl rfl rfl hgu (show i < (jx s.data.toList).length by omega)) λa A↦?_
  refine sdo (v := .pointer (some ⟨gu, i * 3 + 1, none⟩)) A (qb TrV_fld_105_1 rfl rfl) λa A↦?_
  by_cases hf : ur = -1
  ·
   refine sdo (v := .bool true) A (zlb M 0 rfl hgu ((qqb _ i 1 _ hu (by decide)).trans (by rw [if_pos hf]; rfl)) TrV_is1_4 rfl) λa A↦?_
   refine qa (hK20 _ _ (wp_cond_true (A.ev rfl) ?_))
   refine wsk fun K21 hK21 => wrl (sda A λa A↦?_)
   refine qa (hK21 _ _ (wp_ret (hret _ _ (en1 A rfl (qg rfl) ?_))))
   subst hr
   exact ⟨by rw [jab hu hf], M.bel⟩
  ·
   refine sdo (v := .bool false) A (zlb M 0 rfl hgu ((qqb _ i 1 _ hu (by decide)).trans (by rw [if_neg hf]; rfl)) TrV_is1_4 rfl) λa A↦?_
   refine qa (hK20 _ _ (wp_cond_false (A.ev rfl) ?_))
   refine wp_skip (hK19 _ _ (wrl (sdm A λa A↦?_)))
   refine sdo (v := .int .i64 (((i + 1 : Nat) : Int))) A (qf rfl rfl (fun w => (jh (xd (by omega) (by omega)) w).trans (by rw [show (((i : Nat) : Int) + 1 : Int) = ((i + 1 : Nat) : Int) from by omega]))) λa A↦?_
   refine sda A λa A↦?_
   refine qa ?_
   refine hK14 _ _ _ (by omega) ⟨i + 1, rfl, ⟨by omega, fun j va vr hj hv => if h9 : j < i then hin9 j va vr h9 hv else by have h8 : j = i := (by omega); subst h8; rw [hu] at hv; injection hv with h7; injection h7 with _ h6; rw [← h6]; exact hf⟩, A.keep _ ⟨rfl, rfl, rfl, rfl, rfl, rfl, trivial⟩, M⟩
 ·
  have hb18' := of_decide_eq_false hb18
  refine sdc A qw hb18 λa A↦?_
  refine qa (hK17 _ _ (wp_cond_false (A.ev rfl) ?_))
  refine wp_exit (hK11 _ _ (wsk fun K22 hK22 => wrl (sda A λa A↦?_)))
  refine qa (hK22 _ _ (wp_ret (hret _ _ (en1 A rfl (qg rfl) ?_))))
  subst hr
  exact ⟨by rw [zvd (fun j ua ur hj => hin9 j ua ur (by have := (List.getElem?_eq_some_iff.1 hj).1; omega) hj)], M.bel⟩
theorem que {w : World} {n : Int} {r : Bool} (hr : ya n = r) : Calls Tryz.prog 85 #[.int .i64 n] w fun e w' => e = .returned (.bool r) ∧ Below w.heap.size w w' := by
 have M : Mg w w ([]) := Mg.start w
 refine qr (l := [(0, .int .i64 n)]) Tryz.func85 rfl Tryz.ntmps85 rfl rfl ?_
 intro Q hret hnorm hP a A
 refine wsk fun K1 hK1 => wrl (sda A λa A↦?_)
 refine qa (hK1 _ _ (wsk fun K2 hK2 => wrl (sdm A λa A↦?_)))
 rcases tf (decide (0 ≤ n)) with hb3 | hb3
 ·
  have hb3' := of_decide_eq_true hb3
  refine sdc A vg hb3 λa A↦?_
  iterate 2 refine sdm A λa A↦?_
  rcases tf (decide (n ≤ 1114111)) with hb4 | hb4
  ·
   have hb4' := of_decide_eq_true hb4
   refine sdc A xw hb4 λa A↦?_
   refine sdk (v := .bool true) A λa A↦?_
   iterate 2 refine sdm A λa A↦?_
   rcases tf (decide (n < 55296)) with hb5 | hb5
   ·
    have hb5' := of_decide_eq_true hb5
    refine sdc A qw hb5 λa A↦?_
    refine sdm A λa A↦?_
    iterate 2 refine qk A rfl rfl rfl λa A↦?_
    iterate 2 refine sdk (v := .bool true) A λa A↦?_
    refine sda A λa A↦?_
    refine qa (hK2 _ _ (wp_ret (hret _ _ (en1 A rfl (qg rfl) ?_))))
    subst hr
    exact ⟨by rw [show ya n = true from by unfold ya; apply decide_eq_true; omega], M.bel⟩
   ·
    have hb5' := of_decide_eq_false hb5
    refine sdc A qw hb5 λa A↦?_
    iterate 2 refine sdm A λa A↦?_
    rcases tf (decide (57343 < n)) with hb6 | hb6
    ·
     have hb6' := of_decide_eq_true hb6
     refine sdc A ja hb6 λa A↦?_
     iterate 2 refine sdk (v := .bool true) A λa A↦?_
     refine sda A λa A↦?_
     refine qa (hK2 _ _ (wp_ret (hret _ _ (en1 A rfl (qg rfl) ?_))))
     subst hr
     exact ⟨by rw [show ya n = true from by unfold ya; apply decide_eq_true; omega], M.bel⟩
    ·
     have hb6' := of_decide_eq_false hb6
     refine sdc A ja hb6 λa A↦?_
     iterate 2 refine sdk (v := .bool false) A λa A↦?_
     refine sda A λa A↦?_
     refine qa (hK2 _ _ (wp_ret (hret _ _ (en1 A rfl (qg rfl) ?_))))
     subst hr
     exact ⟨by rw [show ya n = false from by unfold ya; apply decide_eq_false; omega], M.bel⟩
  ·
   have hb4' := of_decide_eq_false hb4
   refine sdc A xw hb4 λa A↦?_
   refine sdk (v := .bool false) A λa A↦?_
   refine sdm A λa A↦?_
   iterate 3 refine qk A rfl rfl rfl λa A↦?_
   iterate 2 refine qad A rfl rfl rfl λa A↦?_
   refine qk A rfl rfl rfl λa A↦?_
   refine sdk (v := .bool false) A λa A↦?_
   refine sda A λa A↦?_
   refine qa (hK2 _ _ (wp_ret (hret _ _ (en1 A rfl (qg rfl) ?_))))
   subst hr
   exact ⟨by rw [show ya n = false from by unfold ya; apply decide_eq_false; omega], M.bel⟩
 ·
  have hb3' := of_decide_eq_false hb3
  refine sdc A vg hb3 λa A↦?_
  refine sdm A λa A↦?_
  iterate 2 refine qk A rfl rfl rfl λa A↦?_
  refine sdk (v := .bool false) A λa A↦?_
  refine sdm A λa A↦?_
  iterate 3 refine qk A rfl rfl rfl λa A↦?_
  iterate 2 refine qad A rfl rfl rfl λa A↦?_
  refine qk A rfl rfl rfl λa A↦?_
  refine sdk (v := .bool false) A λa A↦?_
  refine sda A λa A↦?_
  refine qa (hK2 _ _ (wp_ret (hret _ _ (en1 A rfl (qg rfl) ?_))))
  subst hr
  exact ⟨by rw [show ya n = false from by unfold ya; apply decide_eq_false; omega], M.bel⟩
/-- Sound by its kind, asked in the document's order. -/
def vn (k n : Int) (q : Q6) (s : ByteArray) (mr ml : Nat) : Bool :=
 if k < 1 ∨ 11 < k ∨ okS s = false then false
 else if k = 3 ∧ jw q = false then false
 else if k ≠ 3 ∧ (kg q.b1 q.t1.length q.q1.length = false ∨ kg q.b2 q.t2.length q.q2.length = false) then false
 else if s ≠ ⟨#[]⟩ ∧ k ≠ 5 ∧ k ≠ 6 ∧ k ≠ 11 then false
 else if 0 < mr ∧ k ≠ 7 then false
 else if k = 2 ∧ n ≠ 0 ∧ n ≠ 1 then false
 else if k = 4 ∧ ya n = false then false
 else if k ≠ 2 ∧ k ≠ 4 ∧ n ≠ 0 then false
 else if k = 8 then decide (ml = 2)
 else decide (k = 9 ∨ ml = 0)
theorem jac : okS ⟨#[]⟩ = true := by unfold okS; rfl
theorem jn (k n : Int) (q : Q6) (s : ByteArray) (mr ml : Nat) : jm k n q s mr ml = vn k n q s mr ml := by
 have hv : s = ⟨#[]⟩ → okS s = true := by rintro rfl; exact jac
 have hn0 : kg false 0 0 = true := rfl
 unfold jm vn
 by_cases hk : k < 1 ∨ 11 < k
 ·
  rw [if_pos (show k < 1 ∨ 11 < k ∨ okS s = false by omega)]
  repeat (rw [if_neg (by omega)])
 ·
  have h11 : k = 1 ∨ k = 2 ∨ k = 3 ∨ k = 4 ∨ k = 5 ∨ k = 6 ∨ k = 7 ∨ k = 8 ∨ k = 9 ∨ k = 10 ∨ k = 11 := by omega
  simp only [vi, hn0]
  generalize kg q.b1 q.t1.length q.q1.length = B1
  generalize kg q.b2 q.t2.length q.q2.length = B2
  generalize jw q = S1
  generalize ya n = S2
  by_cases hs : s = ⟨#[]⟩
  ·
   rw [hv hs]
   have hs2 : ¬ s ≠ ⟨#[]⟩ := fun h => h hs
   rcases h11 with h | h | h | h | h | h | h | h | h | h | h <;> subst h <;> cases B1 <;> cases B2 <;> cases S1 <;> cases S2 <;> simp [hs] <;> by_cases hm : mr = 0 <;> simp [hm] <;> by_cases hn : n = 0 <;> simp [hn] <;> first | omega | (by_cases hn1 : n = 1 <;> simp [hn1]) | skip
  ·
   cases hV : okS s <;> rcases h11 with h | h | h | h | h | h | h | h | h | h | h <;> subst h <;> cases B1 <;> cases B2 <;> cases S1 <;> cases S2 <;> simp [hs] <;> by_cases hm : mr = 0 <;> simp [hm] <;> by_cases hn : n = 0 <;> simp [hn] <;> first | omega | skip
section
variable {k n : Int} {q : Q6} {s : ByteArray} {mr ml : Nat}
def ShA (k : Int) (s : ByteArray) : Prop := 1 ≤ k ∧ k ≤ 11 ∧ okS s = true
def ShB (k : Int) (q : Q6) : Prop := (k = 3 → jw q = true) ∧ (k ≠ 3 → kg q.b1 q.t1.length q.q1.length = true ∧ kg q.b2 q.t2.length q.q2.length = true)
def ShC (k : Int) (s : ByteArray) : Prop := s = ⟨#[]⟩ ∨ k = 5 ∨ k = 6 ∨ k = 11
def ShD (k : Int) (mr : Nat) : Prop := mr = 0 ∨ k = 7
def ShE (k n : Int) : Prop := (k = 2 → n = 0 ∨ n = 1) ∧ (k = 4 → ya n = true) ∧ (k ≠ 2 → k ≠ 4 → n = 0)
theorem sh1 (h : k < 1 ∨ 11 < k ∨ okS s = false) : vn k n q s mr ml = false := by unfold vn; rw [if_pos h]
theorem shA (a : ShA k s) : ¬ (k < 1 ∨ 11 < k ∨ okS s = false) := fun e => by
 rcases e with e | e | e
 ·
  have := a.1; omega
 ·
  have := a.2.1; omega
 ·
  rw [a.2.2] at e; cases e
theorem sh2 (a : ShA k s) (h : k = 3) (S : jw q = false) : vn k n q s mr ml = false := by unfold vn; rw [if_neg (shA a), if_pos ⟨h, S⟩]
theorem sh3 (a : ShA k s) (h : k ≠ 3) (S : kg q.b1 q.t1.length q.q1.length = false ∨ kg q.b2 q.t2.length q.q2.length = false) : vn k n q s mr ml = false := by unfold vn; rw [if_neg (shA a), if_neg (fun e => h e.1), if_pos ⟨h, S⟩]
theorem jad (b : ShB k q) : ¬ (k = 3 ∧ jw q = false) := fun e => by have := b.1 e.1; rw [e.2] at this; cases this
theorem jae (b : ShB k q) : ¬ (k ≠ 3 ∧ (kg q.b1 q.t1.length q.q1.length = false ∨ kg q.b2 q.t2.length q.q2.length = false)) := fun e => by
 have := b.2 e.1
 rcases e.2 with h | h
 ·
  rw [this.1] at h; cases h
 ·
  rw [this.2] at h; cases h
theorem sh4 (a : ShA k s) (b : ShB k q) (h : s ≠ ⟨#[]⟩ ∧ k ≠ 5 ∧ k ≠ 6 ∧ k ≠ 11) : vn k n q s mr ml = false := by unfold vn; rw [if_neg (shA a), if_neg (jad b), if_neg (jae b), if_pos h]
theorem shC (c : ShC k s) : ¬ (s ≠ ⟨#[]⟩ ∧ k ≠ 5 ∧ k ≠ 6 ∧ k ≠ 11) := fun e => by rcases c with h | h | h | h <;> first | exact e.1 h | exact e.2.1 h | exact e.2.2.1 h | exact e.2.2.2 h
theorem sh5 (a : ShA k s) (b : ShB k q) (c : ShC k s) (h : 0 < mr ∧ k ≠ 7) : vn k n q s mr ml = false := by unfold vn; rw [if_neg (shA a), if_neg (jad b), if_neg (jae b), if_neg (shC c), if_pos h]
theorem shD (d : ShD k mr) : ¬ (0 < mr ∧ k ≠ 7) := fun e => by rcases d with h | h <;> omega
theorem sh6 (a : ShA k s) (b : ShB k q) (c : ShC k s) (d : ShD k mr) (h : (k = 2 ∧ n ≠ 0 ∧ n ≠ 1) ∨ (k = 4 ∧ ya n = false) ∨ (k ≠ 2 ∧ k ≠ 4 ∧ n ≠ 0)) : vn k n q s mr ml = false := by
 unfold vn
 rw [if_neg (shA a), if_neg (jad b), if_neg (jae b), if_neg (shC c), if_neg (shD d)]
 rcases h with h | h | h
 ·
  rw [if_pos h]
 ·
  rw [if_neg (by omega), if_pos h]
 ·
  rw [if_neg (by omega), if_neg (fun e => h.2.1 e.1), if_pos h]
theorem sh9 (a : ShA k s) (b : ShB k q) (c : ShC k s) (d : ShD k mr) (e : ShE k n) : vn k n q s mr ml = if k = 8 then decide (ml = 2) else decide (k = 9 ∨ ml = 0) := by
 unfold vn
 have e1 := e.1
 have e3 := e.2.2
 rw [if_neg (shA a), if_neg (jad b), if_neg (jae b), if_neg (shC c), if_neg (shD d), if_neg (fun h => by have := e1 h.1; omega), if_neg (fun h => by have := e.2.1 h.1; rw [h.2] at this; cases this), if_neg (fun h => by have := e3 h.1 h.2.1; omega)]
end
theorem qqe {w : World} {d : Nd} {ts : List Dt} (hok : NdOk w d) (hs2 : d.s.size ≤ 4000000) (hlen : ts.length ≤ 9223372036854775807) {r : Bool} (hr : jm d.k d.n d.y.q d.s d.rl.length ts.length = r) : Calls Tryz.prog 65 #[.agg (d.cells ts.length).toArray] w fun e w' => e = .returned (.bool r) ∧ Below w.heap.size w w' := by
 have hrl : d.rl.length ≤ 9223372036854775807 := Nat.le_trans hok.rcap hok.rmax
 have M : Mg w w ([]) := Mg.start w
 refine qr (l := [(0, .agg (d.cells ts.length).toArray)]) Tryz.func65 rfl Tryz.ntmps65 rfl rfl ?_
 intro Q hret hnorm hP a A
 refine wsk fun K1 hK1 => wrl (zx (vs := [.int .i64 d.k, .int .i64 d.n, .bool d.y.q.b1, .slice d.y.o1 d.y.q.t1.length d.y.c1, .slice d.y.o2 d.y.q.q1.length d.y.c2, .bool d.y.q.b2, .slice d.y.o3 d.y.q.t2.length d.y.c3, .slice d.y.o4 d.y.q.q2.length d.y.c4, .string d.s, .slice d.ro d.rl.length d.rc, .slice d.lo ts.length d.lc]) (t := 30) A M rfl rfl rfl pg (qt rfl rfl) (by decide) ?_)
 intro g2 w3 M a A
 refine sda A λa A↦?_
 refine qa (hK1 _ _ (wsk fun K4 hK4 => ?_))
 have hJ5 : ∀ a w1, ((ShA d.k d.s) ∧ Sl a 100 [(0, .agg (d.cells ts.length).toArray), (1, .pointer (some ⟨g2, 0, none⟩))] ∧ Mg w w1 (.obj g2 (.cells (d.cells ts.length).toArray 30) :: [])) → K4 a w1 := by
  clear A M
  rintro a w6 ⟨hf7, A, M⟩
  have hSA := hf7
  refine hK4 _ _ (wsk fun K8 hK8 => ?_)
  have hJ9 : ∀ a w1, ((ShB d.k d.y.q) ∧ Sl a 100 [(0, .agg (d.cells ts.length).toArray), (1, .pointer (some ⟨g2, 0, none⟩))] ∧ Mg w w1 (.obj g2 (.cells (d.cells ts.length).toArray 30) :: [])) → K8 a w1 := by
   clear A M
   rintro a w10 ⟨hf11, A, M⟩
   have hSB := hf11
   refine hK8 _ _ (wsk fun K12 hK12 => ?_)
   have hJ13 : ∀ a w1, ((ShC d.k d.s) ∧ Sl a 100 [(0, .agg (d.cells ts.length).toArray), (1, .pointer (some ⟨g2, 0, none⟩))] ∧ Mg w w1 (.obj g2 (.cells (d.cells ts.length).toArray 30) :: [])) → K12 a w1 := by
    clear A M
    rintro a w14 ⟨hf15, A, M⟩
    have hSC := hf15
    refine hK12 _ _ (wsk fun K16 hK16 => ?_)
    have hJ17 : ∀ a w1, ((ShD d.k d.rl.length) ∧ Sl a 100 [(0, .agg (d.cells ts.length).toArray), (1, .pointer (some ⟨g2, 0, none⟩))] ∧ Mg w w1 (.obj g2 (.cells (d.cells ts.length).toArray 30) :: [])) → K16 a w1 := by
     clear A M
     rintro a w18 ⟨hf19, A, M⟩
     have hSD := hf19
     refine hK16 _ _ (wsk fun K20 hK20 => ?_)
     have hJ21 : ∀ a w1, ((ShE d.k d.n) ∧ Sl a 100 [(0, .agg (d.cells ts.length).toArray), (1, .pointer (some ⟨g2, 0, none⟩))] ∧ Mg w w1 (.obj g2 (.cells (d.cells ts.length).toArray 30) :: [])) → K20 a w1 := by
      clear A M
      rintro a w22 ⟨hf23, A, M⟩
      have hSE := hf23
      refine hK20 _ _ (wsk fun K24 hK24 => wsk fun K25 hK25 => wrl (sdo (v := .pointer (some ⟨g2, 0, none⟩)) A (qb TrV_fld_30_0 rfl rfl) λa A↦?_))
      refine sdo A (qm M TrV_is1_3 rfl 0 rfl rfl) λa A↦?_
      rcases tf ((d.k == 8)) with hb26 | hb26
      ·
       have hb26' := eq_of_beq hb26
       refine sdc A ql hb26 λa A↦?_
       refine qa (hK25 _ _ (wp_cond_true (A.ev rfl) ?_))
       refine wsk fun K27 hK27 => wrl (sdo (v := .pointer (some ⟨g2, 10, none⟩)) A (qb TrV_fld_30_5 rfl rfl) λa A↦?_)
       refine sdo A (qm M TrV_is1_28 rfl 0 rfl rfl) λa A↦?_
       refine sdo A (qz Tryz.underlying28 rfl) λa A↦?_
       rcases tf ((((ts.length : Nat) : Int) == 2)) with hb28 | hb28
       ·
        have hb28' := eq_of_beq hb28
        refine sdc A ql hb28 λa A↦?_
        refine sda A λa A↦?_
        refine qa (hK27 _ _ (wp_ret (hret _ _ (en1 A rfl (qg rfl) ?_))))
        exact ⟨by rw [← hr, jn, sh9 hSA hSB hSC hSD hSE, if_pos (by omega), decide_eq_true (show (ts.length = 2) by omega)], M.bel⟩
       ·
        have hb28' := ne_of_beq_false hb28
        refine sdc A ql hb28 λa A↦?_
        refine sda A λa A↦?_
        refine qa (hK27 _ _ (wp_ret (hret _ _ (en1 A rfl (qg rfl) ?_))))
        exact ⟨by rw [← hr, jn, sh9 hSA hSB hSC hSD hSE, if_pos (by omega), decide_eq_false (show ¬ (ts.length = 2) by omega)], M.bel⟩
      ·
       have hb26' := ne_of_beq_false hb26
       refine sdc A ql hb26 λa A↦?_
       refine qa (hK25 _ _ (wp_cond_false (A.ev rfl) ?_))
       refine wp_skip (hK24 _ _ (wsk fun K29 hK29 => wrl (sdo (v := .pointer (some ⟨g2, 0, none⟩)) A (qb TrV_fld_30_0 rfl rfl) λa A↦?_)))
       refine sdo A (qm M TrV_is1_3 rfl 0 rfl rfl) λa A↦?_
       rcases tf ((d.k == 9)) with hb30 | hb30
       ·
        have hb30' := eq_of_beq hb30
        refine sdc A ql hb30 λa A↦?_
        refine sdm A λa A↦?_
        iterate 4 refine qk A rfl rfl rfl λa A↦?_
        refine sdk (v := .bool true) A λa A↦?_
        refine sda A λa A↦?_
        refine qa (hK29 _ _ (wp_ret (hret _ _ (en1 A rfl (qg rfl) ?_))))
        exact ⟨by rw [← hr, jn, sh9 hSA hSB hSC hSD hSE, if_neg (by omega), decide_eq_true (show (d.k = 9 ∨ ts.length = 0) by omega)], M.bel⟩
       ·
        have hb30' := ne_of_beq_false hb30
        refine sdc A ql hb30 λa A↦?_
        refine sdm A λa A↦?_
        refine sdo (v := .pointer (some ⟨g2, 10, none⟩)) A (qb TrV_fld_30_5 rfl rfl) λa A↦?_
        refine sdo A (qm M TrV_is1_28 rfl 0 rfl rfl) λa A↦?_
        refine sdo A (qz Tryz.underlying28 rfl) λa A↦?_
        rcases tf ((((ts.length : Nat) : Int) == 0)) with hb31 | hb31
        ·
         have hb31' := eq_of_beq hb31
         refine sdc A ql hb31 λa A↦?_
         refine sdk (v := .bool true) A λa A↦?_
         refine sda A λa A↦?_
         refine qa (hK29 _ _ (wp_ret (hret _ _ (en1 A rfl (qg rfl) ?_))))
         exact ⟨by rw [← hr, jn, sh9 hSA hSB hSC hSD hSE, if_neg (by omega), decide_eq_true (show (d.k = 9 ∨ ts.length = 0) by omega)], M.bel⟩
        ·
         have hb31' := ne_of_beq_false hb31
         refine sdc A ql hb31 λa A↦?_
         refine sdk (v := .bool false) A λa A↦?_
         refine sda A λa A↦?_
         refine qa (hK29 _ _ (wp_ret (hret _ _ (en1 A rfl (qg rfl) ?_))))
         exact ⟨by rw [← hr, jn, sh9 hSA hSB hSC hSD hSE, if_neg (by omega), decide_eq_false (show ¬ (d.k = 9 ∨ ts.length = 0) by omega)], M.bel⟩
     refine wsk fun K32 hK32 => wrl (sdo (v := .pointer (some ⟨g2, 0, none⟩)) A (qb TrV_fld_30_0 rfl rfl) λa A↦?_)
     refine sdo A (qm M TrV_is1_3 rfl 0 rfl rfl) λa A↦?_
     refine qa (hK32 _ _ (wp_block (wsk fun K33 hK33 => wrl ?_)))
     rcases tf ((d.k == 2)) with hb34 | hb34
     ·
      have hb34' := eq_of_beq hb34
      refine sdc A ql hb34 λa A↦?_
      refine sda A λa A↦?_
      refine qa (hK33 _ _ (wp_cond_true (A.ev rfl) ?_))
      refine wsk fun K35 hK35 => wrl (sdo (v := .pointer (some ⟨g2, 1, none⟩)) A (qb TrV_fld_30_1 rfl rfl) λa A↦?_)
      refine sdo A (qm M TrV_is1_3 rfl 0 rfl rfl) λa A↦?_
      rcases tf ((d.n != 0)) with hb36 | hb36
      ·
       have hb36' := bne_iff_ne.1 hb36
       refine sdc A zg hb36 λa A↦?_
       refine sdm A λa A↦?_
       refine sdo (v := .pointer (some ⟨g2, 1, none⟩)) A (qb TrV_fld_30_1 rfl rfl) λa A↦?_
       refine sdo A (qm M TrV_is1_3 rfl 0 rfl rfl) λa A↦?_
       rcases tf ((d.n != 1)) with hb37 | hb37
       ·
        have hb37' := bne_iff_ne.1 hb37
        refine sdc A zg hb37 λa A↦?_
        refine sdk (v := .bool true) A λa A↦?_
        refine qa (hK35 _ _ (wp_cond_true (A.ev rfl) ?_))
        refine wsk fun K38 hK38 => wrl (sda A λa A↦?_)
        refine qa (hK38 _ _ (wp_ret (hret _ _ (en1 A rfl (qg rfl) ?_))))
        exact ⟨by rw [← hr, jn, sh6 hSA hSB hSC hSD (.inl ⟨by omega, by omega, by omega⟩)], M.bel⟩
       ·
        have hb37' := bne_eq_false_iff_eq.1 hb37
        refine sdc A zg hb37 λa A↦?_
        refine sdk (v := .bool false) A λa A↦?_
        refine qa (hK35 _ _ (wp_cond_false (A.ev rfl) ?_))
        refine wp_skip ?_
        exact hJ21 _ _ ⟨⟨fun h => by omega, fun h => absurd h (by omega), fun h h2 => by omega⟩, A.keep _ ⟨rfl, rfl, trivial⟩, M⟩
      ·
       have hb36' := bne_eq_false_iff_eq.1 hb36
       refine sdc A zg hb36 λa A↦?_
       refine sdm A λa A↦?_
       iterate 3 refine qk A rfl rfl rfl λa A↦?_
       refine sdk (v := .bool false) A λa A↦?_
       refine qa (hK35 _ _ (wp_cond_false (A.ev rfl) ?_))
       refine wp_skip ?_
       exact hJ21 _ _ ⟨⟨fun h => by omega, fun h => absurd h (by omega), fun h h2 => by omega⟩, A.keep _ ⟨rfl, rfl, trivial⟩, M⟩
     ·
      have hb34' := ne_of_beq_false hb34
      refine sdc A ql hb34 λa A↦?_
      refine sda A λa A↦?_
      refine qa (hK33 _ _ (wp_cond_false (A.ev rfl) ?_))
      refine wsk fun K39 hK39 => wrl ?_
      rcases tf ((d.k == 4)) with hb40 | hb40
      ·
       have hb40' := eq_of_beq hb40
       refine sdc A ql hb40 λa A↦?_
       refine sda A λa A↦?_
       refine qa (hK39 _ _ (wp_cond_true (A.ev rfl) ?_))
       refine wsk fun K41 hK41 => wrl (sdo (v := .pointer (some ⟨g2, 1, none⟩)) A (qb TrV_fld_30_1 rfl rfl) λa A↦?_)
       refine sdo A (qm M TrV_is1_3 rfl 0 rfl rfl) λa A↦?_
       rcases tf (ya d.n) with hb42 | hb42
       ·
        refine gcl A M (ef rfl rfl) (que hb42) fun w44 hb43 M a A => ?_
        refine sdo (v := .bool false) A (zd rfl zj) λa A↦?_
        refine qa (hK41 _ _ (wp_cond_false (A.ev rfl) ?_))
        refine wp_skip ?_
        exact hJ21 _ _ ⟨⟨fun h => by omega, fun h => hb42, fun h h2 => by omega⟩, A.keep _ ⟨rfl, rfl, trivial⟩, M⟩
       ·
        refine gcl A M (ef rfl rfl) (que hb42) fun w46 hb45 M a A => ?_
        refine sdo (v := .bool true) A (zd rfl zj) λa A↦?_
        refine qa (hK41 _ _ (wp_cond_true (A.ev rfl) ?_))
        refine wsk fun K47 hK47 => wrl (sda A λa A↦?_)
        refine qa (hK47 _ _ (wp_ret (hret _ _ (en1 A rfl (qg rfl) ?_))))
        exact ⟨by rw [← hr, jn, sh6 hSA hSB hSC hSD (.inr (.inl ⟨by omega, hb42⟩))], M.bel⟩
      ·
       have hb40' := ne_of_beq_false hb40
       refine sdc A ql hb40 λa A↦?_
       refine sda A λa A↦?_
       refine qa (hK39 _ _ (wp_cond_false (A.ev rfl) ?_))
       refine wsk fun K48 hK48 => wrl (sdo (v := .pointer (some ⟨g2, 1, none⟩)) A (qb TrV_fld_30_1 rfl rfl) λa A↦?_)
       refine sdo A (qm M TrV_is1_3 rfl 0 rfl rfl) λa A↦?_
       rcases tf ((d.n != 0)) with hb49 | hb49
       ·
        have hb49' := bne_iff_ne.1 hb49
        refine sdc A zg hb49 λa A↦?_
        refine qa (hK48 _ _ (wp_cond_true (A.ev rfl) ?_))
        refine wsk fun K50 hK50 => wrl (sda A λa A↦?_)
        refine qa (hK50 _ _ (wp_ret (hret _ _ (en1 A rfl (qg rfl) ?_))))
        exact ⟨by rw [← hr, jn, sh6 hSA hSB hSC hSD (.inr (.inr ⟨by omega, by omega, by omega⟩))], M.bel⟩
       ·
        have hb49' := bne_eq_false_iff_eq.1 hb49
        refine sdc A zg hb49 λa A↦?_
        refine qa (hK48 _ _ (wp_cond_false (A.ev rfl) ?_))
        refine wp_skip ?_
        exact hJ21 _ _ ⟨⟨fun h => by omega, fun h => absurd h (by omega), fun h h2 => by omega⟩, A.keep _ ⟨rfl, rfl, trivial⟩, M⟩
    refine wsk fun K51 hK51 => wrl (sdo (v := .pointer (some ⟨g2, 9, none⟩)) A (qb TrV_fld_30_4 rfl rfl) λa A↦?_)
    refine sdo A (qm M TrV_is1_27 rfl 0 rfl rfl) λa A↦?_
    refine sdo A (qz Tryz.underlying27 rfl) λa A↦?_
    rcases tf (decide (0 < ((d.rl.length : Nat) : Int))) with hb52 | hb52
    ·
     have hb52' := of_decide_eq_true hb52
     refine sdc A ja hb52 λa A↦?_
     refine sdm A λa A↦?_
     refine sdo (v := .pointer (some ⟨g2, 0, none⟩)) A (qb TrV_fld_30_0 rfl rfl) λa A↦?_
     refine sdo A (qm M TrV_is1_3 rfl 0 rfl rfl) λa A↦?_
     rcases tf ((d.k != 7)) with hb53 | hb53
     ·
      have hb53' := bne_iff_ne.1 hb53
      refine sdc A zg hb53 λa A↦?_
      refine sdk (v := .bool true) A λa A↦?_
      refine qa (hK51 _ _ (wp_cond_true (A.ev rfl) ?_))
      refine wsk fun K54 hK54 => wrl (sda A λa A↦?_)
      refine qa (hK54 _ _ (wp_ret (hret _ _ (en1 A rfl (qg rfl) ?_))))
      exact ⟨by rw [← hr, jn, sh5 hSA hSB hSC ⟨by omega, by omega⟩], M.bel⟩
     ·
      have hb53' := bne_eq_false_iff_eq.1 hb53
      refine sdc A zg hb53 λa A↦?_
      refine sdk (v := .bool false) A λa A↦?_
      refine qa (hK51 _ _ (wp_cond_false (A.ev rfl) ?_))
      refine wp_skip ?_
      exact hJ17 _ _ ⟨.inr (by omega), A.keep _ ⟨rfl, rfl, trivial⟩, M⟩
    ·
     have hb52' := of_decide_eq_false hb52
     refine sdc A ja hb52 λa A↦?_
     refine sdm A λa A↦?_
     iterate 3 refine qk A rfl rfl rfl λa A↦?_
     refine sdk (v := .bool false) A λa A↦?_
     refine qa (hK51 _ _ (wp_cond_false (A.ev rfl) ?_))
     refine wp_skip ?_
     exact hJ17 _ _ ⟨.inl (by omega), A.keep _ ⟨rfl, rfl, trivial⟩, M⟩
   refine wsk fun K55 hK55 => wrl (sdo (v := .pointer (some ⟨g2, 8, none⟩)) A (qb TrV_fld_30_3 rfl rfl) λa A↦?_)
   refine sdo A (qm M TrV_is1_9 rfl 0 rfl rfl) λa A↦?_
   rcases tf (decide (d.s = ⟨#[]⟩)) with hb56 | hb56
   ·
    have hb56' := of_decide_eq_true hb56
    refine sdo (v := .bool false) A (qf rfl rfl (fun w => (qhd Tryz.underlying9 w).trans (by rw [hb56] <;> rfl))) λa A↦?_
    refine sdm A λa A↦?_
    iterate 3 refine qk A rfl rfl rfl λa A↦?_
    refine sdk (v := .bool false) A λa A↦?_
    refine sdm A λa A↦?_
    iterate 3 refine qk A rfl rfl rfl λa A↦?_
    refine sdk (v := .bool false) A λa A↦?_
    refine sdm A λa A↦?_
    iterate 3 refine qk A rfl rfl rfl λa A↦?_
    refine sdk (v := .bool false) A λa A↦?_
    refine qa (hK55 _ _ (wp_cond_false (A.ev rfl) ?_))
    refine wp_skip ?_
    exact hJ13 _ _ ⟨.inl hb56', A.keep _ ⟨rfl, rfl, trivial⟩, M⟩
   ·
    have hb56' := of_decide_eq_false hb56
    refine sdo (v := .bool true) A (qf rfl rfl (fun w => (qhd Tryz.underlying9 w).trans (by rw [hb56] <;> rfl))) λa A↦?_
    refine sdm A λa A↦?_
    refine sdo (v := .pointer (some ⟨g2, 0, none⟩)) A (qb TrV_fld_30_0 rfl rfl) λa A↦?_
    refine sdo A (qm M TrV_is1_3 rfl 0 rfl rfl) λa A↦?_
    rcases tf ((d.k != 5)) with hb57 | hb57
    ·
     have hb57' := bne_iff_ne.1 hb57
     refine sdc A zg hb57 λa A↦?_
     refine sdk (v := .bool true) A λa A↦?_
     refine sdm A λa A↦?_
     refine sdo (v := .pointer (some ⟨g2, 0, none⟩)) A (qb TrV_fld_30_0 rfl rfl) λa A↦?_
     refine sdo A (qm M TrV_is1_3 rfl 0 rfl rfl) λa A↦?_
     rcases tf ((d.k != 6)) with hb58 | hb58
     ·
      have hb58' := bne_iff_ne.1 hb58
      refine sdc A zg hb58 λa A↦?_
      refine sdk (v := .bool true) A λa A↦?_
      refine sdm A λa A↦?_
      refine sdo (v := .pointer (some ⟨g2, 0, none⟩)) A (qb TrV_fld_30_0 rfl rfl) λa A↦?_
      refine sdo A (qm M TrV_is1_3 rfl 0 rfl rfl) λa A↦?_
      rcases tf ((d.k != 11)) with hb59 | hb59
      ·
       have hb59' := bne_iff_ne.1 hb59
       refine sdc A zg hb59 λa A↦?_
       refine sdk (v := .bool true) A λa A↦?_
       refine qa (hK55 _ _ (wp_cond_true (A.ev rfl) ?_))
       refine wsk fun K60 hK60 => wrl (sda A λa A↦?_)
       refine qa (hK60 _ _ (wp_ret (hret _ _ (en1 A rfl (qg rfl) ?_))))
       exact ⟨by rw [← hr, jn, sh4 hSA hSB ⟨hb56', by omega, by omega, by omega⟩], M.bel⟩
      ·
       have hb59' := bne_eq_false_iff_eq.1 hb59
       refine sdc A zg hb59 λa A↦?_
       refine sdk (v := .bool false) A λa A↦?_
       refine qa (hK55 _ _ (wp_cond_false (A.ev rfl) ?_))
       refine wp_skip ?_
       exact hJ13 _ _ ⟨.inr (by omega), A.keep _ ⟨rfl, rfl, trivial⟩, M⟩
     ·
      have hb58' := bne_eq_false_iff_eq.1 hb58
      refine sdc A zg hb58 λa A↦?_
      refine sdk (v := .bool false) A λa A↦?_
      refine sdm A λa A↦?_
      iterate 3 refine qk A rfl rfl rfl λa A↦?_
      refine sdk (v := .bool false) A λa A↦?_
      refine qa (hK55 _ _ (wp_cond_false (A.ev rfl) ?_))
      refine wp_skip ?_
      exact hJ13 _ _ ⟨.inr (by omega), A.keep _ ⟨rfl, rfl, trivial⟩, M⟩
    ·
     have hb57' := bne_eq_false_iff_eq.1 hb57
     refine sdc A zg hb57 λa A↦?_
     refine sdk (v := .bool false) A λa A↦?_
     refine sdm A λa A↦?_
     iterate 3 refine qk A rfl rfl rfl λa A↦?_
     refine sdk (v := .bool false) A λa A↦?_
     refine sdm A λa A↦?_
     iterate 3 refine qk A rfl rfl rfl λa A↦?_
     refine sdk (v := .bool false) A λa A↦?_
     refine qa (hK55 _ _ (wp_cond_false (A.ev rfl) ?_))
     refine wp_skip ?_
     exact hJ13 _ _ ⟨.inr (by omega), A.keep _ ⟨rfl, rfl, trivial⟩, M⟩
  refine wsk fun K61 hK61 => wrl (sdo (v := .pointer (some ⟨g2, 0, none⟩)) A (qb TrV_fld_30_0 rfl rfl) λa A↦?_)
  refine sdo A (qm M TrV_is1_3 rfl 0 rfl rfl) λa A↦?_
  rcases tf ((d.k == 3)) with hb62 | hb62
  ·
   have hb62' := eq_of_beq hb62
   refine sdc A ql hb62 λa A↦?_
   refine qa (hK61 _ _ (wp_cond_true (A.ev rfl) ?_))
   refine wsk fun K63 hK63 => wrl (sdo (v := .pointer (some ⟨g2, 2, none⟩)) A (qb TrV_fld_30_2 rfl rfl) λa A↦?_)
   refine sdo A (zf M TrV_isS_26 rfl 0 rfl (cs := [.bool d.y.q.b1, .slice d.y.o1 d.y.q.t1.length d.y.c1, .slice d.y.o2 d.y.q.q1.length d.y.c2, .bool d.y.q.b2, .slice d.y.o3 d.y.q.t2.length d.y.c3, .slice d.y.o4 d.y.q.q2.length d.y.c4]) rfl rfl) λa A↦?_
   rcases tf (jw d.y.q) with hb64 | hb64
   ·
    refine gcl A M (ef rfl rfl) (qkj (Nu.below hok.num M.bel) hok.len hb64) fun w66 hb65 M a A => ?_
    refine sdo (v := .bool false) A (zd rfl zj) λa A↦?_
    refine qa (hK63 _ _ (wp_cond_false (A.ev rfl) ?_))
    refine wp_skip ?_
    exact hJ9 _ _ ⟨⟨fun _ => hb64, fun h => absurd (show d.k = 3 by omega) h⟩, A.keep _ ⟨rfl, rfl, trivial⟩, M⟩
   ·
    refine gcl A M (ef rfl rfl) (qkj (Nu.below hok.num M.bel) hok.len hb64) fun w68 hb67 M a A => ?_
    refine sdo (v := .bool true) A (zd rfl zj) λa A↦?_
    refine qa (hK63 _ _ (wp_cond_true (A.ev rfl) ?_))
    refine wsk fun K69 hK69 => wrl (sda A λa A↦?_)
    refine qa (hK69 _ _ (wp_ret (hret _ _ (en1 A rfl (qg rfl) ?_))))
    exact ⟨by rw [← hr, jn, sh2 hSA (by omega) hb64], M.bel⟩
  ·
   have hb62' := ne_of_beq_false hb62
   refine sdc A ql hb62 λa A↦?_
   refine qa (hK61 _ _ (wp_cond_false (A.ev rfl) ?_))
   refine wsk fun K70 hK70 => wrl (sdo (v := .pointer (some ⟨g2, 2, none⟩)) A (qb TrV_fld_30_2 rfl rfl) λa A↦?_)
   refine sdo (v := .pointer (some ⟨g2, 2, none⟩)) A (qb TrV_fld_26_0 rfl rfl) λa A↦?_
   refine sdo A (zf M TrV_isS_24 rfl 0 rfl (cs := [.bool d.y.q.b1, .slice d.y.o1 d.y.q.t1.length d.y.c1, .slice d.y.o2 d.y.q.q1.length d.y.c2]) rfl rfl) λa A↦?_
   rcases tf (kg d.y.q.b1 d.y.q.t1.length d.y.q.q1.length) with hb71 | hb71
   ·
    refine gcl A M (ef rfl rfl) (qec hok.len.l1 hok.len.l2 hb71) fun w73 hb72 M a A => ?_
    refine sdo (v := .bool false) A (zd rfl zj) λa A↦?_
    refine sdm A λa A↦?_
    refine sdo (v := .pointer (some ⟨g2, 2, none⟩)) A (qb TrV_fld_30_2 rfl rfl) λa A↦?_
    refine sdo (v := .pointer (some ⟨g2, 5, none⟩)) A (qb TrV_fld_26_1 rfl rfl) λa A↦?_
    refine sdo A (zf M TrV_isS_24 rfl 0 rfl (cs := [.bool d.y.q.b2, .slice d.y.o3 d.y.q.t2.length d.y.c3, .slice d.y.o4 d.y.q.q2.length d.y.c4]) rfl rfl) λa A↦?_
    rcases tf (kg d.y.q.b2 d.y.q.t2.length d.y.q.q2.length) with hb74 | hb74
    ·
     refine gcl A M (ef rfl rfl) (qec hok.len.l3 hok.len.l4 hb74) fun w76 hb75 M a A => ?_
     refine sdo (v := .bool false) A (zd rfl zj) λa A↦?_
     refine sdk (v := .bool false) A λa A↦?_
     refine qa (hK70 _ _ (wp_cond_false (A.ev rfl) ?_))
     refine wp_skip ?_
     exact hJ9 _ _ ⟨⟨fun h => absurd h (by omega), fun _ => ⟨hb71, hb74⟩⟩, A.keep _ ⟨rfl, rfl, trivial⟩, M⟩
    ·
     refine gcl A M (ef rfl rfl) (qec hok.len.l3 hok.len.l4 hb74) fun w78 hb77 M a A => ?_
     refine sdo (v := .bool true) A (zd rfl zj) λa A↦?_
     refine sdk (v := .bool true) A λa A↦?_
     refine qa (hK70 _ _ (wp_cond_true (A.ev rfl) ?_))
     refine wsk fun K79 hK79 => wrl (sda A λa A↦?_)
     refine qa (hK79 _ _ (wp_ret (hret _ _ (en1 A rfl (qg rfl) ?_))))
     exact ⟨by rw [← hr, jn, sh3 hSA (by omega) (.inr hb74)], M.bel⟩
   ·
    refine gcl A M (ef rfl rfl) (qec hok.len.l1 hok.len.l2 hb71) fun w81 hb80 M a A => ?_
    refine sdo (v := .bool true) A (zd rfl zj) λa A↦?_
    refine sdm A λa A↦?_
    iterate 5 refine qk A rfl rfl rfl λa A↦?_
    refine sdk (v := .bool true) A λa A↦?_
    refine qa (hK70 _ _ (wp_cond_true (A.ev rfl) ?_))
    refine wsk fun K82 hK82 => wrl (sda A λa A↦?_)
    refine qa (hK82 _ _ (wp_ret (hret _ _ (en1 A rfl (qg rfl) ?_))))
    exact ⟨by rw [← hr, jn, sh3 hSA (by omega) (.inl hb71)], M.bel⟩
 refine wsk fun K83 hK83 => wrl (sdo (v := .pointer (some ⟨g2, 0, none⟩)) A (qb TrV_fld_30_0 rfl rfl) λa A↦?_)
 refine sdo A (qm M TrV_is1_3 rfl 0 rfl rfl) λa A↦?_
 rcases tf (decide (d.k < 1)) with hb84 | hb84
 ·
  have hb84' := of_decide_eq_true hb84
  refine sdc A qw hb84 λa A↦?_
  refine sdm A λa A↦?_
  iterate 3 refine qk A rfl rfl rfl λa A↦?_
  refine sdk (v := .bool true) A λa A↦?_
  refine sdm A λa A↦?_
  iterate 4 refine qk A rfl rfl rfl λa A↦?_
  refine sdk (v := .bool true) A λa A↦?_
  refine qa (hK83 _ _ (wp_cond_true (A.ev rfl) ?_))
  refine wsk fun K85 hK85 => wrl (sda A λa A↦?_)
  refine qa (hK85 _ _ (wp_ret (hret _ _ (en1 A rfl (qg rfl) ?_))))
  exact ⟨by rw [← hr, jn, sh1 (by omega)], M.bel⟩
 ·
  have hb84' := of_decide_eq_false hb84
  refine sdc A qw hb84 λa A↦?_
  refine sdm A λa A↦?_
  refine sdo (v := .pointer (some ⟨g2, 0, none⟩)) A (qb TrV_fld_30_0 rfl rfl) λa A↦?_
  refine sdo A (qm M TrV_is1_3 rfl 0 rfl rfl) λa A↦?_
  rcases tf (decide (11 < d.k)) with hb86 | hb86
  ·
   have hb86' := of_decide_eq_true hb86
   refine sdc A ja hb86 λa A↦?_
   refine sdk (v := .bool true) A λa A↦?_
   refine sdm A λa A↦?_
   iterate 4 refine qk A rfl rfl rfl λa A↦?_
   refine sdk (v := .bool true) A λa A↦?_
   refine qa (hK83 _ _ (wp_cond_true (A.ev rfl) ?_))
   refine wsk fun K87 hK87 => wrl (sda A λa A↦?_)
   refine qa (hK87 _ _ (wp_ret (hret _ _ (en1 A rfl (qg rfl) ?_))))
   exact ⟨by rw [← hr, jn, sh1 (by omega)], M.bel⟩
  ·
   have hb86' := of_decide_eq_false hb86
   refine sdc A ja hb86 λa A↦?_
   refine sdk (v := .bool false) A λa A↦?_
   refine sdm A λa A↦?_
   refine sdo (v := .pointer (some ⟨g2, 8, none⟩)) A (qb TrV_fld_30_3 rfl rfl) λa A↦?_
   refine sdo A (qm M TrV_is1_9 rfl 0 rfl rfl) λa A↦?_
   rcases tf (okS d.s) with hb88 | hb88
   ·
    refine gcl A M (ef rfl rfl) (qqd hs2 hb88) fun w90 hb89 M a A => ?_
    refine sdo (v := .bool false) A (zd rfl zj) λa A↦?_
    refine sdk (v := .bool false) A λa A↦?_
    refine qa (hK83 _ _ (wp_cond_false (A.ev rfl) ?_))
    refine wp_skip ?_
    exact hJ5 _ _ ⟨⟨by omega, by omega, hb88⟩, A.keep _ ⟨rfl, rfl, trivial⟩, M⟩
   ·
    refine gcl A M (ef rfl rfl) (qqd hs2 hb88) fun w92 hb91 M a A => ?_
    refine sdo (v := .bool true) A (zd rfl zj) λa A↦?_
    refine sdk (v := .bool true) A λa A↦?_
    refine qa (hK83 _ _ (wp_cond_true (A.ev rfl) ?_))
    refine wsk fun K93 hK93 => wrl (sda A λa A↦?_)
    refine qa (hK93 _ _ (wp_ret (hret _ _ (en1 A rfl (qg rfl) ?_))))
    exact ⟨by rw [← hr, jn, sh1 (.inr (.inr hb88))], M.bel⟩
end Go.Proofs.YtofbejppkldhnaaGreatDoor.G
