/- Walks of Of, Append, Tail and Reverse. Walks of the document's sameness and order of numbers. The same trees. The walk of the document's sameness of data. What joins say, of lists as they are. The walk of the law of joined lists. What a bound on the bulk of what is read gives. Transcoders that come in as arguments. Rows of bytes that come in as arguments; the first part of a row, and of a text. Data that come in as arguments. -/
import Derived.Test.YtnemkamkjfokaaaDoorPlistsj10f
import Derived.Test.YtnemkamkjfokaaaDoorPlistsj10c
import Derived.Test.YtnemkamkjfokaaaDoorRows
import Derived.Test.YtnemkamkjfokaaaDoorPlistsj10d
import Derived.Test.YtnemkamkjfokaaaDoorProg
import Derived.WalkKit
import Derived.ProofKit
import Derived.OpenShut
import Derived.ChangeOld
import Derived.Lib.SmallJoins
import Derived.Deep.Strs
import Derived.Deep.Slices
namespace Go.Proofs.YtnemkamkjfokaaaDoor.G
open Go.RowKit
set_option linter.unusedVariables false
set_option linter.unusedSimpArgs false
set_option maxRecDepth 100000
theorem LiG_isS_31 : IsS Tryd.prog 31 11 := ⟨⟨_, Tryd.underlying31⟩, by kernel_rfl⟩
theorem qua {w0 w : World} {g9 c9 : Nat} {ys : List Dt} {T : List Ck} (hl : ys.length ≤ 1000000000) (hne : ys ≠ []) (hM0 : Mg w0 w (.row 31 11 (.slice (some ⟨g9, 0, none⟩) ys.length c9) ys.length (cellsOf ys) :: T)) : Calls Tryd.prog 16 #[.slice (some ⟨g9, 0, none⟩) ys.length c9] w fun e w' => e = .returned (.tuple #[]) ∧ Mg w0 w' (.row 31 11 (.slice (some ⟨g9, 0, none⟩) ys.length c9) ys.length (cellsOf ys.reverse) :: T) := by
 have hpos : 0 < ys.length := List.length_pos_iff.2 hne
 have M : Mg w0 w (.row 31 11 (.slice (some ⟨g9, 0, none⟩) ys.length c9) ys.length (cellsOf ys) :: T) := hM0
 refine qx (l := [(0, .slice (some ⟨g9, 0, none⟩) ys.length c9)]) Tryd.func16 rfl Tryd.ntmps16 rfl rfl ?_
 intro Q hret hnorm hP a A
 refine wsk fun K1 hK1 => wrl (sdm A λa A↦?_)
 refine sdo A (qw Tryd.underlying22 rfl) λa A↦?_
 refine sdo (v := .int .i64 (((ys.length : Nat) : Int) - 1 - ((0 : Nat) : Int))) A (qh rfl rfl (ar_sub ((in_i64 (by omega) (by omega)).trans (by omega)))) λa A↦?_
 iterate 2 refine sda A λa A↦?_
 refine qa (hK1 _ _ (wp_block (jg (fun m_ a w1 => ∃ (i : Nat) (zs : List Dt), m_ = 1 + (ys.length - i) ∧ (i ≤ ys.length ∧ RevI ys zs i) ∧ Sl a 28 [(0, .slice (some ⟨g9, 0, none⟩) ys.length c9), (2, .int .i64 (((i : Nat) : Int))), (3, .int .i64 (((ys.length : Nat) : Int) - 1 - ((i : Nat) : Int))), (4, .slice (some ⟨g9, 0, none⟩) ys.length c9), (5, .int .i64 (((ys.length : Nat) : Int))), (6, .int .i64 (((ys.length : Nat) : Int) - 1 - ((0 : Nat) : Int)))] ∧ Mg w0 w1 (.row 31 11 (.slice (some ⟨g9, 0, none⟩) ys.length c9) ys.length (cellsOf zs) :: T)) _ ⟨0, ys, rfl, ⟨Nat.zero_le _, qqj ys⟩, A.keep _ (by repeat' constructor), M⟩ ?_)))
 clear M A
 rintro m_ a w2 ⟨i, zs, rfl, hinv4, A, M⟩ K3 hK3
 obtain ⟨hi0, hrv⟩ := hinv4
 refine wsk fun K5 hK5 => wsk fun K6 hK6 => wrl ?_
 iterate 2 refine sdm A λa A↦?_
 rcases tf (decide (((i : Nat) : Int) < ((ys.length : Nat) : Int) - 1 - ((i : Nat) : Int))) with hb7 | hb7
 ·
  have hb7' := of_decide_eq_true hb7
  refine sdc A zq hb7 λa A↦?_
  refine qa (hK6 _ _ (wp_cond_true (A.ev rfl) ?_))
  refine wp_skip (hK5 _ _ (wsk fun K8 hK8 => wp_block ?_))
  have hzl := hrv.1
  obtain ⟨a1, hza⟩ : ∃ a, zs[i]? = some a := ⟨_, List.getElem?_eq_getElem (by omega)⟩
  obtain ⟨b1, hzb⟩ : ∃ b, zs[ys.length - 1 - i]? = some b := ⟨_, List.getElem?_eq_getElem (by omega)⟩
  refine vz (S := fun w1 => Mg w0 w1 ([])) (by kernel_rfl) ?_
  replace M := M.drew
  refine qk A 0 rfl rfl rfl rfl hP (M.sub (cn (List.nil_sublist _))) (fun w1 M => qz rfl) λa A↦?_
  refine qk A 1 rfl rfl rfl rfl hP (M.sub (cn (List.nil_sublist _))) (fun w1 M => qz rfl) λa A↦?_
  refine qk A 2 rfl rfl rfl rfl hP (M.sub (cn (List.nil_sublist _))) (fun w1 M => qz rfl) λa A↦?_
  refine qk A 3 rfl rfl rfl rfl hP (M.sub (cn (List.nil_sublist _))) (fun w1 M => qz rfl) λa A↦?_
  refine qk A 4 rfl rfl rfl rfl hP (M.sub (cn (List.nil_sublist _))) (fun w1 M => qz rfl) λa A↦?_
  refine qk A 5 rfl rfl rfl rfl hP (M.sub (cn (List.nil_sublist _))) (fun w1 M => qz rfl) λa A↦?_
  refine qk (v := .pointer (some ⟨g9, (ys.length - 1 - i) * 11, none⟩)) A 6 rfl rfl rfl rfl hP (M.sub (cn (List.nil_sublist _))) (fun w1 M => jk (k := (ys.length - 1 - i)) Tryd.underlying22 (by kernel_rfl) rfl rfl (by omega) (by omega)) λa A↦?_
  refine qk A 8 rfl rfl rfl rfl hP (M.sub (cn (List.nil_sublist _))) (fun w1 M => qz rfl) λa A↦?_
  refine qk A 9 rfl rfl rfl rfl hP (M.sub (cn (List.nil_sublist _))) (fun w1 M => qz rfl) λa A↦?_
  refine qk (v := .pointer (some ⟨g9, i * 11, none⟩)) A 10 rfl rfl rfl rfl hP (M.sub (cn (List.nil_sublist _))) (fun w1 M => jk (k := i) Tryd.underlying22 (by kernel_rfl) rfl rfl (by omega) (by omega)) λa A↦?_
  refine qhe (rs := [7, 11]) (by kernel_rfl) (by simp) ⟨?_, ?_, trivial⟩
  ·
   refine qhd A 7 rfl rfl rfl rfl (kp (o := (ys.length - 1 - i) * 11) (cs := b1.d.cells b1.ts.length) M 0 rfl LiG_isS_31 (xe hzb) rfl rfl) (M.sub (cn (List.nil_sublist _))) λa A↦?_
   refine je (by kernel_rfl) (qhd A 11 rfl rfl rfl rfl (kp (o := i * 11) (cs := a1.d.cells a1.ts.length) M 0 rfl LiG_isS_31 (xe hza) rfl rfl) (M.sub (cn (List.nil_sublist _))) ?_)
   intro a A
   refine qk (v := .pointer (some ⟨g9, i * 11, none⟩)) A 12 rfl rfl rfl rfl hP (M.sub (cn (List.nil_sublist _))) (fun w1 M => jk (k := i) Tryd.underlying22 (by kernel_rfl) rfl rfl (by omega) (by omega)) λa A↦?_
   refine je (by kernel_rfl) (ky (us := cellsOf (zs.set i b1)) (L' := (.row 31 11 (.slice (some ⟨g9, 0, none⟩) ys.length c9) ys.length (cellsOf (zs.set i b1)) :: T)) A M 13 rfl rfl rfl (kq (cs := b1.d.cells b1.ts.length) rfl rfl rfl (by kernel_rfl) M 0 rfl (by show _ + 11 ≤ _; omega) (xl b1)) 0 rfl (kt (by rw [hzl]; omega) rfl) rfl ?_)
   intro w9 M
   refine ⟨(M.sub (cn (List.nil_sublist _))), ?_⟩
   refine qk (v := .pointer (some ⟨g9, (ys.length - 1 - i) * 11, none⟩)) A 14 rfl rfl rfl rfl hP (M.sub (cn (List.nil_sublist _))) (fun w1 M => jk (k := (ys.length - 1 - i)) Tryd.underlying22 (by kernel_rfl) rfl rfl (by omega) (by omega)) λa A↦?_
   refine je (by kernel_rfl) (ky (us := cellsOf ((zs.set i b1).set (ys.length - 1 - i) a1)) (L' := (.row 31 11 (.slice (some ⟨g9, 0, none⟩) ys.length c9) ys.length (cellsOf ((zs.set i b1).set (ys.length - 1 - i) a1)) :: T)) A M 15 rfl rfl rfl (kq (cs := a1.d.cells a1.ts.length) rfl rfl rfl (by kernel_rfl) M 0 rfl (by show _ + 11 ≤ _; omega) (xl a1)) 0 rfl (kt (by rw [List.length_set, hzl]; omega) rfl) rfl ?_)
   intro w10 M
   refine ⟨(M.sub (cn (List.nil_sublist _))), ?_⟩
   refine xn (by kernel_rfl) ?_
   refine hK8 _ _ (wrl (sdm A λa A↦?_))
   refine sdo (v := .int .i64 (((i + 1 : Nat) : Int))) A (qh rfl rfl (ar_add ((in_i64 (by omega) (by omega)).trans (by omega)))) λa A↦?_
   refine sdm A λa A↦?_
   refine sdo (v := .int .i64 (((ys.length : Nat) : Int) - 1 - ((i + 1 : Nat) : Int))) A (qh rfl rfl (ar_sub ((in_i64 (by omega) (by omega)).trans (by omega)))) λa A↦?_
   iterate 2 refine sda A λa A↦?_
   refine qa ?_
   refine hK3 _ _ _ (by omega) ⟨i + 1, ((zs.set i b1).set (ys.length - 1 - i) a1), rfl, ⟨by omega, qea hrv (by omega) hza hzb⟩, A.keep _ (by repeat' constructor), M⟩
  ·
   refine qhd A 11 rfl rfl rfl rfl (kp (o := i * 11) (cs := a1.d.cells a1.ts.length) M 0 rfl LiG_isS_31 (xe hza) rfl rfl) (M.sub (cn (List.nil_sublist _))) λa A↦?_
   refine je (by kernel_rfl) (qhd A 7 rfl rfl rfl rfl (kp (o := (ys.length - 1 - i) * 11) (cs := b1.d.cells b1.ts.length) M 0 rfl LiG_isS_31 (xe hzb) rfl rfl) (M.sub (cn (List.nil_sublist _))) ?_)
   intro a A
   refine qk (v := .pointer (some ⟨g9, i * 11, none⟩)) A 12 rfl rfl rfl rfl hP (M.sub (cn (List.nil_sublist _))) (fun w1 M => jk (k := i) Tryd.underlying22 (by kernel_rfl) rfl rfl (by omega) (by omega)) λa A↦?_
   refine je (by kernel_rfl) (ky (us := cellsOf (zs.set i b1)) (L' := (.row 31 11 (.slice (some ⟨g9, 0, none⟩) ys.length c9) ys.length (cellsOf (zs.set i b1)) :: T)) A M 13 rfl rfl rfl (kq (cs := b1.d.cells b1.ts.length) rfl rfl rfl (by kernel_rfl) M 0 rfl (by show _ + 11 ≤ _; omega) (xl b1)) 0 rfl (kt (by rw [hzl]; omega) rfl) rfl ?_)
   intro w11 M
   refine ⟨(M.sub (cn (List.nil_sublist _))), ?_⟩
   refine qk (v := .pointer (some ⟨g9, (ys.length - 1 - i) * 11, none⟩)) A 14 rfl rfl rfl rfl hP (M.sub (cn (List.nil_sublist _))) (fun w1 M => jk (k := (ys.length - 1 - i)) Tryd.underlying22 (by kernel_rfl) rfl rfl (by omega) (by omega)) λa A↦?_
   refine je (by kernel_rfl) (ky (us := cellsOf ((zs.set i b1).set (ys.length - 1 - i) a1)) (L' := (.row 31 11 (.slice (some ⟨g9, 0, none⟩) ys.length c9) ys.length (cellsOf ((zs.set i b1).set (ys.length - 1 - i) a1)) :: T)) A M 15 rfl rfl rfl (kq (cs := a1.d.cells a1.ts.length) rfl rfl rfl (by kernel_rfl) M 0 rfl (by show _ + 11 ≤ _; omega) (xl a1)) 0 rfl (kt (by rw [List.length_set, hzl]; omega) rfl) rfl ?_)
   intro w12 M
   refine ⟨(M.sub (cn (List.nil_sublist _))), ?_⟩
   refine xn (by kernel_rfl) ?_
   refine hK8 _ _ (wrl (sdm A λa A↦?_))
   refine sdo (v := .int .i64 (((i + 1 : Nat) : Int))) A (qh rfl rfl (ar_add ((in_i64 (by omega) (by omega)).trans (by omega)))) λa A↦?_
   refine sdm A λa A↦?_
   refine sdo (v := .int .i64 (((ys.length : Nat) : Int) - 1 - ((i + 1 : Nat) : Int))) A (qh rfl rfl (ar_sub ((in_i64 (by omega) (by omega)).trans (by omega)))) λa A↦?_
   iterate 2 refine sda A λa A↦?_
   refine qa ?_
   refine hK3 _ _ _ (by omega) ⟨i + 1, ((zs.set i b1).set (ys.length - 1 - i) a1), rfl, ⟨by omega, qea hrv (by omega) hza hzb⟩, A.keep _ (by repeat' constructor), M⟩
 ·
  have hb7' := of_decide_eq_false hb7
  refine sdc A zq hb7 λa A↦?_
  refine qa (hK6 _ _ (wp_cond_false (A.ev rfl) ?_))
  refine wp_exit (hnorm _ _ (kb (v := .tuple #[]) A rfl .nil rfl ?_))
  rw [qtj hrv (by omega)] at M
  exact ⟨rfl, M⟩
theorem qwd {w0 w : World} {so9 : Option Addr} {c9 : Nat} {T : List Ck} (hM0 : Mg w0 w (.row 31 11 (.slice so9 ([] : List Dt).length c9) ([] : List Dt).length (cellsOf []) :: T)) : Calls Tryd.prog 16 #[.slice so9 (([] : List Dt).length) c9] w fun e w' => e = .returned (.tuple #[]) ∧ Mg w0 w' (.row 31 11 (.slice so9 ([] : List Dt).length c9) ([] : List Dt).length (cellsOf ([] : List Dt).reverse) :: T) := by
 have M : Mg w0 w (.row 31 11 (.slice so9 (([] : List Dt).length) c9) (([] : List Dt).length) (cellsOf []) :: T) := hM0
 refine qx (l := [(0, .slice so9 (([] : List Dt).length) c9)]) Tryd.func16 rfl Tryd.ntmps16 rfl rfl ?_
 intro Q hret hnorm hP a A
 refine wsk fun K1 hK1 => wrl (sdm A λa A↦?_)
 refine sdo A (qw Tryd.underlying22 rfl) λa A↦?_
 refine sdo (v := .int .i64 (-1)) A (qh rfl rfl (ar_sub (by rfl))) λa A↦?_
 iterate 2 refine sda A λa A↦?_
 refine qa (hK1 _ _ (wp_block (wp_loop_rounds 12 ?_)))
 refine qaf fun K2 hK2 => ?_
 refine wsk fun K3 hK3 => wsk fun K4 hK4 => wrl ?_
 iterate 2 refine sdm A λa A↦?_
 refine sdo (v := .bool false) A (qh rfl rfl (fun w => by kernel_rfl)) λa A↦?_
 refine qa (hK4 _ _ (wp_cond_false (A.ev rfl) ?_))
 refine wp_exit (hnorm _ _ (kb (v := .tuple #[]) A rfl .nil rfl ?_))
 exact ⟨rfl, M⟩
theorem qwe {w0 w : World} {so9 : Option Addr} {c9 : Nat} {ys : List Dt} {T : List Ck} (hl : ys.length ≤ 1000000000) (hM0 : Mg w0 w (.row 31 11 (.slice so9 ys.length c9) ys.length (cellsOf ys) :: T)) : Calls Tryd.prog 16 #[.slice so9 ys.length c9] w fun e w' => e = .returned (.tuple #[]) ∧ Mg w0 w' (.row 31 11 (.slice so9 ys.length c9) ys.length (cellsOf ys.reverse) :: T) := by
 by_cases h : ys = []
 ·
  subst h; exact qwd hM0
 ·
  obtain ⟨g, c, e⟩ := qih (hM0.has 0 rfl) (fun k => h (List.length_eq_zero_iff.1 k))
  cases e
  exact qua hl h hM0
theorem qjf {w : World} {so : Option Addr} {ca : Nat} {ts : List Dt} (hR : Rt w so ts) (hD : ∀ t ∈ ts, t.rd w) (V : ∀ t ∈ ts, qp qg t.tr = true) (hb : Tr.bulks (ts.map Dt.tr) ≤ 1000000000) (h : (zt (ts.map Dt.tr)).isSome = true) : Calls Tryd.prog 13 #[.slice so ts.length ca] w fun e w' => ∃ so' ca' ys J, e = .returned (.tuple #[.slice so' (ys : List Dt).length ca', .int .i64 0]) ∧ (zt (ts.map Dt.tr) = some J ∧ (ys.map Dt.tr = J ∨ (20000 < ys.length ∧ 20000 < J.length)) ∧ (∀ x ∈ ys, x.rd w) ∧ Tr.bulks (ys.map Dt.tr) ≤ Tr.bulks (ts.map Dt.tr)) ∧ Mg w w' [.row 31 11 (.slice so' ys.length ca') ys.length (cellsOf ys)] := by
 refine (qec hR hD V hb).mono ?_
 rintro e w' (h1 | ⟨_, h2, _⟩)
 ·
  exact h1
 ·
  rw [h2] at h; cases h
theorem qjg {w : World} {so : Option Addr} {ca : Nat} {ts : List Dt} (hR : Rt w so ts) (hD : ∀ t ∈ ts, t.rd w) (V : ∀ t ∈ ts, qp qg t.tr = true) (hb : Tr.bulks (ts.map Dt.tr) ≤ 1000000000) (h : (zt (ts.map Dt.tr)).isSome = false) : Calls Tryd.prog 13 #[.slice so ts.length ca] w fun e w' => e = .returned (.tuple #[.slice none 0 0, .int .i64 10]) ∧ Below w.heap.size w w' := by
 refine (qec hR hD V hb).mono ?_
 rintro e w' (⟨_, _, ys, J, _, h1, _⟩ | ⟨h1, _, h3⟩)
 ·
  rw [h1.1] at h; cases h
 ·
  exact ⟨h1, h3⟩
theorem qgg {α : Type} {x : Option α} (h : x.isSome = false) : x = none := Option.isNone_iff_eq_none.1 (Option.isSome_eq_false_iff.1 h)
theorem qod {ts : List Dt} (h : (ts.all fun t => qp qg t.tr) = true) : ∀ t ∈ ts, qp qg t.tr = true := List.all_eq_true.1 h
theorem qgh {w : World} {so : Option Addr} {ca : Nat} {ts : List Dt} (hR : Rt w so ts) (hD : ∀ t ∈ ts, t.rd w) (hb : Tr.bulks (ts.map Dt.tr) ≤ 300000000) (hT : Tabs8 w) : Calls Tryd.prog 5 #[.slice so ts.length ca] w fun e w' => ∃ t2 : Dt, e = .returned (.agg (t2.d.cells t2.ts.length).toArray) ∧ (t2.rd w' ∧ t2.at_ (w.heap.size ≤ ·) ∧ t2.tr = ofS (ts.map Dt.tr)) ∧ Below w.heap.size w w' := by
 have hnb : jm.tr.bulk = 1 := by rw [yx]; rfl
 have M : Mg w w ([]) := Mg.start w
 refine qx (l := [(0, .slice so ts.length ca)]) Tryd.func5 rfl Tryd.ntmps5 rfl rfl ?_
 intro Q hret hnorm hP a A
 refine wsk fun K1 hK1 => wrl (zn (vs := (qe.d.cells qe.ts.length)) (t := 31) A M rfl rfl rfl pg (ql (z := .agg (qe.d.cells qe.ts.length).toArray) (by kernel_rfl) rfl) (by decide) ?_)
 intro g2 w3 M a A
 refine qa (hK1 _ _ (wsk fun K4 hK4 => wrl (sdm A λa A↦?_)))
 refine gcl A M (ef rfl rfl) (qgc) fun w6 hb5 M a A => ?_
 have hlt7 := (Ck.lt (M.has 0 rfl) g2 rfl).2
 have hzt2 := M.bel.size
 refine sct A (ef rfl rfl) (uu (u := jm) (hR.below M.bel) (fun t ht => Dt.keep M.bel _ (hD t ht)) (qfh _) (by omega) (hT.below M.bel)) ?_
 rintro _ w9 ⟨t2, k2, rfl, ⟨hrt2, hat2, htt2⟩, hb8⟩
 replace M := M.call hb8
 refine ⟨_, rfl, ?_⟩
 intro a A
 refine sdm A λa A↦?_
 iterate 2 refine sdo A (qm (vs := [.agg (t2.d.cells t2.ts.length).toArray, .int .i64 k2]) rfl rfl) λa A↦?_
 refine qle (vs := (qe.d.cells qe.ts.length)) (t := 31) A M rfl rfl rfl pg (ql (z := .agg (qe.d.cells qe.ts.length).toArray) (by kernel_rfl) rfl) (by decide) ?_
 intro g10 w11 M hg12 hb13 a A
 have hnt2g10 := Dt.at_mono (q := (· ≠ g10)) (fun b hb => by intro e; omega) _ (Dt.at_lt _ hrt2)
 replace hrt2 := Dt.keep hb13 _ hrt2
 refine jw (us := (t2.d.cells t2.ts.length)) (L' := (.obj g10 (.cells (t2.d.cells t2.ts.length).toArray 31) :: .obj g2 (.cells (qe.d.cells qe.ts.length).toArray 31) :: [])) A M rfl rfl (qi rfl rfl rfl (by kernel_rfl) M 0 rfl rfl rfl) 0 rfl rfl rfl ?_
 intro w14 M hK15
 replace hrt2 := Dt.kept hK15 _ hrt2 hnt2g10
 refine sda A λa A↦?_
 refine qa (hK4 _ _ (wsk fun K16 hK16 => wrl (sdo A (za M LiG_isS_31 rfl 0 rfl (cs := (t2.d.cells t2.ts.length)) rfl rfl) λa A↦?_)))
 refine jw (us := (t2.d.cells t2.ts.length)) (L' := (.obj g10 (.cells (t2.d.cells t2.ts.length).toArray 31) :: .obj g2 (.cells (t2.d.cells t2.ts.length).toArray 31) :: [])) A M rfl rfl (qi rfl rfl rfl (by kernel_rfl) M 1 rfl rfl rfl) 1 rfl rfl rfl ?_
 intro w17 M hK18
 replace hrt2 := Dt.kept hK18 _ hrt2 (Dt.at_mono (fun b hb => by rintro rfl; omega) _ hat2)
 refine qa (hK16 _ _ (wp_ret (hret _ _ (en1 A rfl (zg M LiG_isS_31 rfl 1 rfl (cs := [.int .i64 t2.d.k, .int .i64 t2.d.n, .bool t2.d.y.q.b1, .slice t2.d.y.o1 t2.d.y.q.t1.length t2.d.y.c1, .slice t2.d.y.o2 t2.d.y.q.q1.length t2.d.y.c2, .bool t2.d.y.q.b2, .slice t2.d.y.o3 t2.d.y.q.t2.length t2.d.y.c3, .slice t2.d.y.o4 t2.d.y.q.q2.length t2.d.y.c4, .string t2.d.s, .slice t2.d.ro t2.d.rl.length t2.d.rc, .slice t2.d.lo t2.ts.length t2.d.lc]) rfl rfl) ?_))))
 exact ⟨t2, rfl, ⟨hrt2, Dt.at_mono (fun b hb => Nat.le_trans hzt2 hb) _ hat2, by unfold ofS; rw [← yx, ← htt2]⟩, M.bel⟩
theorem xx {w : World} {so : Option Addr} {ca : Nat} {ts : List Dt} (hR : Rt w so ts) (hD : ∀ t ∈ ts, t.rd w) (hca : ts.length ≤ ca) (hb : Tr.bulks (ts.map Dt.tr) ≤ 100000000) (hT : Tabs8 w) : Calls Tryd.prog 6 #[.slice so ts.length ca] w fun e w' => ∃ (t2 : Dt) (k : Int), e = .returned (.tuple #[.agg (t2.d.cells t2.ts.length).toArray, .int .i64 k]) ∧ (t2.rd w' ∧ t2.at_ (w.heap.size ≤ ·) ∧ (t2.tr, k) = jf (ts.map Dt.tr)) ∧ Below w.heap.size w w' := by
 have hbl := ji ts
 have M : Mg w w ([]) := Mg.start w
 refine qx (l := [(0, .slice so ts.length ca)]) Tryd.func6 rfl Tryd.ntmps6 rfl rfl ?_
 intro Q hret hnorm hP a A
 refine wsk fun K1 hK1 => wrl (zn (vs := (qe.d.cells qe.ts.length)) (t := 31) A M rfl rfl rfl pg (ql (z := .agg (qe.d.cells qe.ts.length).toArray) (by kernel_rfl) rfl) (by decide) ?_)
 intro g2 w3 M a A
 refine sda A λa A↦?_
 refine qa (hK1 _ _ (wsk fun K4 hK4 => wsk fun K5 hK5 => wrl (sdm A λa A↦?_)))
 rcases tf ((ts.all fun t => qp qg t.tr)) with hb6 | hb6
 ·
  refine gcl A M (ef rfl rfl) (vk (hR.below M.bel) (fun t ht => Dt.keep M.bel _ (hD t ht)) (by omega) (hT.below M.bel) hb6) fun w8 hb7 M a A => ?_
  refine sdo (v := .bool false) A (zm rfl zv) λa A↦?_
  refine qa (hK5 _ _ (wp_cond_false (A.ev rfl) ?_))
  refine wp_skip (hK4 _ _ (wsk fun K9 hK9 => wsk fun K10 hK10 => wrl (sdm A λa A↦?_)))
  refine sdo A (qw Tryd.underlying22 rfl) λa A↦?_
  rcases tf ((((ts.length : Nat) : Int) == 0)) with hb11 | hb11
  ·
   have hb11' := eq_of_beq hb11
   refine sdc A qn hb11 λa A↦?_
   refine qa (hK10 _ _ (wp_cond_true (A.ev rfl) ?_))
   refine wsk fun K12 hK12 => wrl (sct A (ef rfl rfl) (qgc) ?_)
   rintro _ w14 ⟨rfl, hb13⟩
   replace M := M.call hb13
   refine ⟨_, rfl, ?_⟩
   intro a A
   refine qt (us := (jm.d.cells jm.ts.length)) (L' := (.obj g2 (.cells (jm.d.cells jm.ts.length).toArray 31) :: [])) A M rfl rfl (qi rfl rfl rfl (by kernel_rfl) M 0 rfl rfl rfl) 0 rfl rfl rfl ?_
   intro w15 M
   refine sda A λa A↦?_
   refine qa (hK12 _ _ (wp_ret (hret _ _ (en2 A rfl (zg M LiG_isS_31 rfl 0 rfl (cs := [.int .i64 jm.d.k, .int .i64 jm.d.n, .bool jm.d.y.q.b1, .slice jm.d.y.o1 jm.d.y.q.t1.length jm.d.y.c1, .slice jm.d.y.o2 jm.d.y.q.q1.length jm.d.y.c2, .bool jm.d.y.q.b2, .slice jm.d.y.o3 jm.d.y.q.t2.length jm.d.y.c3, .slice jm.d.y.o4 jm.d.y.q.q2.length jm.d.y.c4, .string jm.d.s, .slice jm.d.ro jm.d.rl.length jm.d.rc, .slice jm.d.lo jm.ts.length jm.d.lc]) rfl rfl) (qf rfl) ?_))))
   have e9 : ts = [] := List.length_eq_zero_iff.1 (by omega)
   exact ⟨jm, 0, rfl, ⟨qfh _, qvi _, by rw [e9]; exact (Prod.ext yx rfl : (jm.tr, (0 : Int)) = (nilT, 0)).trans qti.symm⟩, M.bel⟩
  ·
   have hb11' := ne_of_beq_false hb11
   refine sdc A qn hb11 λa A↦?_
   refine qa (hK10 _ _ (wp_cond_false (A.ev rfl) ?_))
   refine wp_skip (hK9 _ _ (wsk fun K16 hK16 => wrl (sdm A λa A↦?_)))
   refine sdo A (qw Tryd.underlying22 rfl) λa A↦?_
   refine sdo (v := .int .i64 (((ts.length - 1 : Nat) : Int))) A (qh rfl rfl (ar_sub ((in_i64 (by omega) (by omega)).trans (by omega)))) λa A↦?_
   refine sda A λa A↦?_
   refine qa (hK16 _ _ (wsk fun K17 hK17 => ?_))
   have hbt : Tr.bulks ((ts.take (ts.length - 1)).map Dt.tr) ≤ Tr.bulks (ts.map Dt.tr) := qbh _
   refine wrl ?_
   iterate 2 refine sdm A λa A↦?_
   refine sdo (v := .slice so ((ts.take (ts.length - 1)).length) ca) A (qoi (sz := 11) (hi := (ts.take (ts.length - 1)).length) Tryd.underlying22 (by kernel_rfl) rfl rfl (by rw [List.length_take]; omega) (by rw [List.length_take]; omega)) λa A↦?_
   rcases tf ((zt ((ts.take (ts.length - 1)).map Dt.tr)).isSome) with hb18 | hb18
   ·
    refine sct A (ef rfl rfl) (qjf ((hR.take _).below M.bel) (fun t ht => Dt.keep M.bel _ (hD t (List.mem_of_mem_take ht))) (fun t ht => qod hb6 t (List.mem_of_mem_take ht)) (by omega) hb18) ?_
    rintro _ w20 ⟨so7, ca7, ys, J, rfl, ⟨hJ, hor, hy0, hyb⟩, hM7⟩
    have hy2 := hy0
    replace M : Mg w w20 (.row 31 11 (.slice so7 ys.length ca7) ys.length (cellsOf ys) :: .obj g2 (.cells (qe.d.cells qe.ts.length).toArray 31) :: []) := (M.both hM7 (zi (by simp) (zf zl)) (zi (by simp) (zf zl)))
    refine ⟨_, rfl, ?_⟩
    intro a A
    refine sdm A λa A↦?_
    iterate 2 refine sdo A (qm (vs := [.slice so7 ys.length ca7, .int .i64 0]) rfl rfl) λa A↦?_
    iterate 2 refine sda A λa A↦?_
    refine qa (hK17 _ _ (wsk fun K21 hK21 => wsk fun K22 hK22 => wrl (sdm A λa A↦?_)))
    refine sdo (v := .bool false) A (qh rfl rfl (fun w => by kernel_rfl)) λa A↦?_
    refine qa (hK22 _ _ (wp_cond_false (A.ev rfl) ?_))
    refine wp_skip (hK21 _ _ (wsk fun K23 hK23 => ?_))
    obtain ⟨t9, bt9, ot9, it9, mt9, rt9_, lt9, Ht9⟩ := qvj hR hD (i := (ts.length - 1)) (by omega)
    have hb9 := yw mt9
    refine wrl ?_
    iterate 3 refine sdm A λa A↦?_
    refine sdo (v := .pointer (some ⟨bt9, ot9 + (ts.length - 1) * 11, none⟩)) A (zp (k := (ts.length - 1)) Tryd.underlying22 (by kernel_rfl) rfl rfl rfl lt9 (by omega)) λa A↦?_
    refine sdo A (zd M Ht9 LiG_isS_31 rfl rfl) λa A↦?_
    have hlt24 := (Ck.lt (M.has 1 rfl) g2 rfl).2
    have hzt2 := M.bel.size
    refine sct A (ef rfl rfl) (uu (u := t9) (xw (M.has 0 rfl)).1 (fun t ht => Dt.keep hM7.bel _ (hy2 t ht)) (Dt.keep M.bel _ rt9_) (by omega) (hT.below M.bel)) ?_
    rintro _ w26 ⟨t2, k2, rfl, ⟨hrt2, hat2, htt2⟩, hb25⟩
    replace M := M.call hb25
    refine ⟨_, rfl, ?_⟩
    intro a A
    iterate 2 refine sdo A (qm (vs := [.agg (t2.d.cells t2.ts.length).toArray, .int .i64 k2]) rfl rfl) λa A↦?_
    refine jw (us := (t2.d.cells t2.ts.length)) (L' := (.row 31 11 (.slice so7 ys.length ca7) ys.length (cellsOf ys) :: .obj g2 (.cells (t2.d.cells t2.ts.length).toArray 31) :: [])) A M rfl rfl (qi rfl rfl rfl (by kernel_rfl) M 1 rfl rfl rfl) 1 rfl rfl rfl ?_
    intro w27 M hK28
    replace hrt2 := Dt.kept hK28 _ hrt2 (Dt.at_mono (fun b hb => by rintro rfl; omega) _ hat2)
    refine sda A λa A↦?_
    refine qa (hK23 _ _ (wp_ret (hret _ _ (en2 A rfl (zg M LiG_isS_31 rfl 1 rfl (cs := [.int .i64 t2.d.k, .int .i64 t2.d.n, .bool t2.d.y.q.b1, .slice t2.d.y.o1 t2.d.y.q.t1.length t2.d.y.c1, .slice t2.d.y.o2 t2.d.y.q.q1.length t2.d.y.c2, .bool t2.d.y.q.b2, .slice t2.d.y.o3 t2.d.y.q.t2.length t2.d.y.c3, .slice t2.d.y.o4 t2.d.y.q.q2.length t2.d.y.c4, .string t2.d.s, .slice t2.d.ro t2.d.rl.length t2.d.rc, .slice t2.d.lo t2.ts.length t2.d.lc]) rfl rfl) (qf rfl) ?_))))
    have e9 : jf (ts.map Dt.tr) = fitS (ys.map Dt.tr) t9.tr := by
     rw [qqi hb6 it9 hJ]
     rcases hor with e | e
     ·
      rw [e]
     ·
      rw [ul e.2, ul (by rw [List.length_map]; exact e.1)]
    exact ⟨t2, k2, rfl, ⟨hrt2, Dt.at_mono (fun b hb => Nat.le_trans hzt2 hb) _ hat2, by rw [e9, ← htt2]⟩, M.bel⟩
   ·
    refine gcl A M (ef rfl rfl) (qjg ((hR.take _).below M.bel) (fun t ht => Dt.keep M.bel _ (hD t (List.mem_of_mem_take ht))) (fun t ht => qod hb6 t (List.mem_of_mem_take ht)) (by omega) hb18) fun w30 hb29 M a A => ?_
    refine sdm A λa A↦?_
    iterate 2 refine sdo A (qm (vs := [.slice none 0 0, .int .i64 10]) rfl rfl) λa A↦?_
    iterate 2 refine sda A λa A↦?_
    refine qa (hK17 _ _ (wsk fun K31 hK31 => wsk fun K32 hK32 => wrl (sdm A λa A↦?_)))
    refine sdo (v := .bool true) A (qh rfl rfl (fun w => by kernel_rfl)) λa A↦?_
    refine qa (hK32 _ _ (wp_cond_true (A.ev rfl) ?_))
    refine wsk fun K33 hK33 => wrl (sdo (v := .agg (qe.d.cells qe.ts.length).toArray) A (zb rfl (fun w => by kernel_rfl)) λa A↦?_)
    refine sdm A λa A↦?_
    refine qt (us := (qe.d.cells qe.ts.length)) (L' := (.obj g2 (.cells (qe.d.cells qe.ts.length).toArray 31) :: [])) A M rfl rfl (qi rfl rfl rfl (by kernel_rfl) M 0 rfl rfl rfl) 0 rfl rfl rfl ?_
    intro w34 M
    refine sda A λa A↦?_
    refine qa (hK33 _ _ (wp_ret (hret _ _ (en2 A rfl (zg M LiG_isS_31 rfl 0 rfl (cs := [.int .i64 0, .int .i64 0, .bool false, .slice none 0 0, .slice none 0 0, .bool false, .slice none 0 0, .slice none 0 0, .string (⟨#[]⟩), .slice none 0 0, .slice none 0 0]) rfl rfl) (qf rfl) ?_))))
    exact ⟨qe, 10, rfl, ⟨jy _, jz _, by rw [qqh hb6 (fun e => by rw [e] at hb11'; exact hb11' rfl) (qgg hb18), jx]⟩, M.bel⟩
 ·
  refine gcl A M (ef rfl rfl) (vk (hR.below M.bel) (fun t ht => Dt.keep M.bel _ (hD t ht)) (by omega) (hT.below M.bel) hb6) fun w36 hb35 M a A => ?_
  refine sdo (v := .bool true) A (zm rfl zv) λa A↦?_
  refine qa (hK5 _ _ (wp_cond_true (A.ev rfl) ?_))
  refine wsk fun K37 hK37 => wrl (sdo (v := .agg (qe.d.cells qe.ts.length).toArray) A (zb rfl (fun w => by kernel_rfl)) λa A↦?_)
  refine qt (us := (qe.d.cells qe.ts.length)) (L' := (.obj g2 (.cells (qe.d.cells qe.ts.length).toArray 31) :: [])) A M rfl rfl (qi rfl rfl rfl (by kernel_rfl) M 0 rfl rfl rfl) 0 rfl rfl rfl ?_
  intro w38 M
  refine sda A λa A↦?_
  refine qa (hK37 _ _ (wp_ret (hret _ _ (en2 A rfl (zg M LiG_isS_31 rfl 0 rfl (cs := [.int .i64 0, .int .i64 0, .bool false, .slice none 0 0, .slice none 0 0, .bool false, .slice none 0 0, .slice none 0 0, .string (⟨#[]⟩), .slice none 0 0, .slice none 0 0]) rfl rfl) (qf rfl) ?_))))
  exact ⟨qe, 2, rfl, ⟨jy _, jz _, by rw [qth hb6, jx]⟩, M.bel⟩
theorem qmf {ts : List Dt} (i : Nat) : Tr.bulks ((ts.drop i).map Dt.tr) ≤ Tr.bulks (ts.map Dt.tr) := by
 conv => rhs; rw [← List.take_append_drop i ts, List.map_append, jd]
 omega
theorem qed : ∀ ts : List Tr, Tr.bulks ts.reverse = Tr.bulks ts
 | [] => rfl
 | t :: ts => by rw [List.reverse_cons, jd, qed ts, Tr.bulks, Tr.bulks, Tr.bulks]; omega
theorem qmg {w : World} {so : Option Addr} {ca : Nat} {ys : List Dt} (hR : Rt w so ys.reverse) (hD : ∀ t ∈ ys.reverse, t.rd w) (hb : Tr.bulks (ys.reverse.map Dt.tr) ≤ 400000000) : Calls Tryd.prog 15 #[.slice so ys.length ca] w fun e w' => ∃ t2 : Dt, e = .returned (.agg (t2.d.cells t2.ts.length).toArray) ∧ (t2.rd w' ∧ t2.at_ (w.heap.size ≤ ·) ∧ t2.tr = qr (ys.reverse.map Dt.tr) nilT) ∧ Below w.heap.size w w' := by
 have := qce (ca := ca) hR hD hb
 rwa [List.length_reverse] at this
theorem qub {w : World} {t : Dt} (ht : t.rd w) (hb : t.tr.bulk ≤ 300000000) (hT : Tabs8 w) {n : Int} : Calls Tryd.prog 7 #[.agg (t.d.cells t.ts.length).toArray, .int .i64 n] w fun e w' => ∃ (t2 : Dt) (k : Int), e = .returned (.tuple #[.agg (t2.d.cells t2.ts.length).toArray, .int .i64 k]) ∧ (t2.rd w' ∧ t2.at_ (w.heap.size ≤ ·) ∧ (t2.tr, k) = ye t.tr n) ∧ Below w.heap.size w w' := by
 have M : Mg w w ([]) := Mg.start w
 refine qx (l := [(0, .agg (t.d.cells t.ts.length).toArray), (1, .int .i64 n)]) Tryd.func7 rfl Tryd.ntmps7 rfl rfl ?_
 intro Q hret hnorm hP a A
 refine wsk fun K1 hK1 => wrl (zn (vs := (t.d.cells t.ts.length)) (t := 31) A M rfl rfl rfl pg (zj rfl rfl) (by decide) ?_)
 intro g2 w3 M a A
 refine zn (vs := (qe.d.cells qe.ts.length)) (t := 31) A M rfl rfl rfl pg (ql (z := .agg (qe.d.cells qe.ts.length).toArray) (by kernel_rfl) rfl) (by decide) ?_
 intro g4 w5 M a A
 refine sda A λa A↦?_
 refine qa (hK1 _ _ (wsk fun K6 hK6 => wrl (sdo A (za M LiG_isS_31 rfl 1 rfl (cs := (t.d.cells t.ts.length)) rfl rfl) λa A↦?_)))
 rcases tf (qp qg t.tr) with hb7 | hb7
 ·
  rcases tf ((zk t.tr).isSome) with hb9 | hb9
  ·
   refine sct A (ef rfl rfl) (qcc M.bel ht (by omega) (hT.below M.bel) hb7 hb9) ?_
   rintro _ w11 ⟨so7, ca7, ys, rfl, ⟨hy1, hy2, hy3⟩, hM7⟩
   have hyb := xm hy1
   replace M : Mg w w11 (.row 31 11 (.slice so7 ys.length ca7) ys.length (cellsOf ys) :: .obj g4 (.cells (qe.d.cells qe.ts.length).toArray 31) :: .obj g2 (.cells (t.d.cells t.ts.length).toArray 31) :: []) := (M.both hM7 (zi (by simp) (zi (by simp) (zf zl))) (zi (by simp) (zf zl)))
   refine ⟨_, rfl, ?_⟩
   intro a A
   refine sdm A λa A↦?_
   iterate 2 refine sdo A (qm (vs := [.slice so7 ys.length ca7, .int .i64 0]) rfl rfl) λa A↦?_
   iterate 2 refine sda A λa A↦?_
   refine qa (hK6 _ _ (wsk fun K12 hK12 => wp_block (wsk fun K13 hK13 => wrl (sdm A λa A↦?_))))
   refine sdo (v := .bool false) A (qh rfl rfl (fun w => by kernel_rfl)) λa A↦?_
   refine sda A λa A↦?_
   refine qa (hK13 _ _ (wp_cond_false (A.ev rfl) ?_))
   refine wsk fun K14 hK14 => wrl (sdm A λa A↦?_)
   rcases tf (decide (n < 0)) with hb15 | hb15
   ·
    have hb15' := of_decide_eq_true hb15
    refine sdc A zq hb15 λa A↦?_
    refine sdm A λa A↦?_
    iterate 4 refine qj A rfl rfl rfl λa A↦?_
    refine sdk (v := .bool true) A λa A↦?_
    refine sda A λa A↦?_
    refine qa (hK14 _ _ (wp_cond_true (A.ev rfl) ?_))
    refine wsk fun K16 hK16 => wrl (sdo (v := .agg (qe.d.cells qe.ts.length).toArray) A (zb rfl (fun w => by kernel_rfl)) λa A↦?_)
    refine qt (us := (qe.d.cells qe.ts.length)) (L' := (.row 31 11 (.slice so7 ys.length ca7) ys.length (cellsOf ys) :: .obj g4 (.cells (qe.d.cells qe.ts.length).toArray 31) :: .obj g2 (.cells (t.d.cells t.ts.length).toArray 31) :: [])) A M rfl rfl (qi rfl rfl rfl (by kernel_rfl) M 1 rfl rfl rfl) 1 rfl rfl rfl ?_
    intro w17 M
    refine sda A λa A↦?_
    refine qa (hK16 _ _ (wp_ret (hret _ _ (en2 A rfl (zg M LiG_isS_31 rfl 1 rfl (cs := [.int .i64 0, .int .i64 0, .bool false, .slice none 0 0, .slice none 0 0, .bool false, .slice none 0 0, .slice none 0 0, .string (⟨#[]⟩), .slice none 0 0, .slice none 0 0]) rfl rfl) (qf rfl) ?_))))
    exact ⟨qe, 1, rfl, ⟨jy _, jz _, by unfold ye; rw [if_neg (by rw [hb7]; decide), hy1]; show _ = if _ then _ else _; rw [List.length_map, if_pos (by omega), jx]⟩, M.bel⟩
   ·
    have hb15' := of_decide_eq_false hb15
    refine sdc A zq hb15 λa A↦?_
    iterate 3 refine sdm A λa A↦?_
    refine sdo A (qw Tryd.underlying22 rfl) λa A↦?_
    rcases tf (decide (((ys.length : Nat) : Int) < n)) with hb18 | hb18
    ·
     have hb18' := of_decide_eq_true hb18
     refine sdc A vf hb18 λa A↦?_
     refine sdk (v := .bool true) A λa A↦?_
     refine sda A λa A↦?_
     refine qa (hK14 _ _ (wp_cond_true (A.ev rfl) ?_))
     refine wsk fun K19 hK19 => wrl (sdo (v := .agg (qe.d.cells qe.ts.length).toArray) A (zb rfl (fun w => by kernel_rfl)) λa A↦?_)
     refine qt (us := (qe.d.cells qe.ts.length)) (L' := (.row 31 11 (.slice so7 ys.length ca7) ys.length (cellsOf ys) :: .obj g4 (.cells (qe.d.cells qe.ts.length).toArray 31) :: .obj g2 (.cells (t.d.cells t.ts.length).toArray 31) :: [])) A M rfl rfl (qi rfl rfl rfl (by kernel_rfl) M 1 rfl rfl rfl) 1 rfl rfl rfl ?_
     intro w20 M
     refine sda A λa A↦?_
     refine qa (hK19 _ _ (wp_ret (hret _ _ (en2 A rfl (zg M LiG_isS_31 rfl 1 rfl (cs := [.int .i64 0, .int .i64 0, .bool false, .slice none 0 0, .slice none 0 0, .bool false, .slice none 0 0, .slice none 0 0, .string (⟨#[]⟩), .slice none 0 0, .slice none 0 0]) rfl rfl) (qf rfl) ?_))))
     exact ⟨qe, 1, rfl, ⟨jy _, jz _, by unfold ye; rw [if_neg (by rw [hb7]; decide), hy1]; show _ = if _ then _ else _; rw [List.length_map, if_pos (by omega), jx]⟩, M.bel⟩
    ·
     have hb18' := of_decide_eq_false hb18
     refine sdc A vf hb18 λa A↦?_
     refine sdk (v := .bool false) A λa A↦?_
     refine sda A λa A↦?_
     refine qa (hK14 _ _ (wp_cond_false (A.ev rfl) ?_))
     refine wp_skip (hK12 _ _ (wsk fun K21 hK21 => wrl ?_))
     iterate 2 refine sdm A λa A↦?_
     refine sdo (v := .slice ((if ca7 = n.toNat then so7 else so7.map (·.add (n.toNat * 11)))) ((ys.drop n.toNat).length) ((ca7 - n.toNat))) A ((by rw [List.length_drop]; exact qfb (sz := 11) (lo := n.toNat) Tryd.underlying22 (by kernel_rfl) rfl rfl (by omega) (by omega))) λa A↦?_
     have hlt22 := (Ck.lt (M.has 1 rfl) g4 rfl).2
     have hlt23 := (Ck.lt (M.has 2 rfl) g2 rfl).2
     have hzt2 := M.bel.size
     refine sct A (ef rfl rfl) (qce ((xw (M.has 0 rfl)).1.drop ca7 n.toNat (qfg (M.has 0 rfl))) (fun t ht => Dt.keep M.bel _ (hy2 t (List.mem_of_mem_drop ht))) (by have h7 : Tr.bulks ((ys.drop n.toNat).map Dt.tr) ≤ Tr.bulks (ys.map Dt.tr) := qmf _ ; omega)) ?_
     rintro _ w25 ⟨t2, rfl, ⟨hrt2, hat2, htt2⟩, hb24⟩
     replace M := M.call hb24
     refine ⟨_, rfl, ?_⟩
     intro a A
     refine jw (us := (t2.d.cells t2.ts.length)) (L' := (.row 31 11 (.slice so7 ys.length ca7) ys.length (cellsOf ys) :: .obj g4 (.cells (t2.d.cells t2.ts.length).toArray 31) :: .obj g2 (.cells (t.d.cells t.ts.length).toArray 31) :: [])) A M rfl rfl (qi rfl rfl rfl (by kernel_rfl) M 1 rfl rfl rfl) 1 rfl rfl rfl ?_
     intro w26 M hK27
     replace hrt2 := Dt.kept hK27 _ hrt2 (Dt.at_mono (fun b hb => by rintro rfl; omega) _ hat2)
     refine sda A λa A↦?_
     refine qa (hK21 _ _ (wp_ret (hret _ _ (en2 A rfl (zg M LiG_isS_31 rfl 1 rfl (cs := [.int .i64 t2.d.k, .int .i64 t2.d.n, .bool t2.d.y.q.b1, .slice t2.d.y.o1 t2.d.y.q.t1.length t2.d.y.c1, .slice t2.d.y.o2 t2.d.y.q.q1.length t2.d.y.c2, .bool t2.d.y.q.b2, .slice t2.d.y.o3 t2.d.y.q.t2.length t2.d.y.c3, .slice t2.d.y.o4 t2.d.y.q.q2.length t2.d.y.c4, .string t2.d.s, .slice t2.d.ro t2.d.rl.length t2.d.rc, .slice t2.d.lo t2.ts.length t2.d.lc]) rfl rfl) (qf rfl) ?_))))
     exact ⟨t2, 0, rfl, ⟨hrt2, Dt.at_mono (fun b hb => Nat.le_trans hzt2 hb) _ hat2, by unfold ye; rw [if_neg (by rw [hb7]; decide), hy1]; show _ = if _ then _ else _; rw [List.length_map, if_neg (by omega), htt2, List.map_drop]⟩, M.bel⟩
  ·
   refine gcl A M (ef rfl rfl) (qcd M.bel ht (by omega) (hT.below M.bel) hb7 hb9) fun w29 hb28 M a A => ?_
   refine sdm A λa A↦?_
   iterate 2 refine sdo A (qm (vs := [.slice none 0 0, .int .i64 10]) rfl rfl) λa A↦?_
   iterate 2 refine sda A λa A↦?_
   refine qa (hK6 _ _ (wsk fun K30 hK30 => wp_block (wsk fun K31 hK31 => wrl (sdm A λa A↦?_))))
   refine sdo (v := .bool true) A (qh rfl rfl (fun w => by kernel_rfl)) λa A↦?_
   refine sda A λa A↦?_
   refine qa (hK31 _ _ (wp_cond_true (A.ev rfl) ?_))
   refine wsk fun K32 hK32 => wrl (sdo (v := .agg (qe.d.cells qe.ts.length).toArray) A (zb rfl (fun w => by kernel_rfl)) λa A↦?_)
   refine sdm A λa A↦?_
   refine qt (us := (qe.d.cells qe.ts.length)) (L' := (.obj g4 (.cells (qe.d.cells qe.ts.length).toArray 31) :: .obj g2 (.cells (t.d.cells t.ts.length).toArray 31) :: [])) A M rfl rfl (qi rfl rfl rfl (by kernel_rfl) M 0 rfl rfl rfl) 0 rfl rfl rfl ?_
   intro w33 M
   refine sda A λa A↦?_
   refine qa (hK32 _ _ (wp_ret (hret _ _ (en2 A rfl (zg M LiG_isS_31 rfl 0 rfl (cs := [.int .i64 0, .int .i64 0, .bool false, .slice none 0 0, .slice none 0 0, .bool false, .slice none 0 0, .slice none 0 0, .string (⟨#[]⟩), .slice none 0 0, .slice none 0 0]) rfl rfl) (qf rfl) ?_))))
   exact ⟨qe, 10, rfl, ⟨jy _, jz _, by unfold ye; rw [if_neg (by rw [hb7]; decide), qgg hb9, jx]⟩, M.bel⟩
 ·
  refine gcl A M (ef rfl rfl) (qeb M.bel ht (by omega) (hT.below M.bel) hb7) fun w35 hb34 M a A => ?_
  refine sdm A λa A↦?_
  iterate 2 refine sdo A (qm (vs := [.slice none 0 0, .int .i64 2]) rfl rfl) λa A↦?_
  iterate 2 refine sda A λa A↦?_
  refine qa (hK6 _ _ (wsk fun K36 hK36 => wp_block (wsk fun K37 hK37 => wrl (sdm A λa A↦?_))))
  refine sdo (v := .bool true) A (qh rfl rfl (fun w => by kernel_rfl)) λa A↦?_
  refine sda A λa A↦?_
  refine qa (hK37 _ _ (wp_cond_true (A.ev rfl) ?_))
  refine wsk fun K38 hK38 => wrl (sdo (v := .agg (qe.d.cells qe.ts.length).toArray) A (zb rfl (fun w => by kernel_rfl)) λa A↦?_)
  refine sdm A λa A↦?_
  refine qt (us := (qe.d.cells qe.ts.length)) (L' := (.obj g4 (.cells (qe.d.cells qe.ts.length).toArray 31) :: .obj g2 (.cells (t.d.cells t.ts.length).toArray 31) :: [])) A M rfl rfl (qi rfl rfl rfl (by kernel_rfl) M 0 rfl rfl rfl) 0 rfl rfl rfl ?_
  intro w39 M
  refine sda A λa A↦?_
  refine qa (hK38 _ _ (wp_ret (hret _ _ (en2 A rfl (zg M LiG_isS_31 rfl 0 rfl (cs := [.int .i64 0, .int .i64 0, .bool false, .slice none 0 0, .slice none 0 0, .bool false, .slice none 0 0, .slice none 0 0, .string (⟨#[]⟩), .slice none 0 0, .slice none 0 0]) rfl rfl) (qf rfl) ?_))))
  exact ⟨qe, 2, rfl, ⟨jy _, jz _, by unfold ye; rw [if_pos hb7, jx]⟩, M.bel⟩
theorem vn {w : World} {t : Dt} (ht : t.rd w) (hb : t.tr.bulk ≤ 300000000) (hT : Tabs8 w) : Calls Tryd.prog 8 #[.agg (t.d.cells t.ts.length).toArray] w fun e w' => ∃ (t2 : Dt) (k : Int), e = .returned (.tuple #[.agg (t2.d.cells t2.ts.length).toArray, .int .i64 k]) ∧ (t2.rd w' ∧ t2.at_ (w.heap.size ≤ ·) ∧ (t2.tr, k) = ux t.tr) ∧ Below w.heap.size w w' := by
 have M : Mg w w ([]) := Mg.start w
 refine qx (l := [(0, .agg (t.d.cells t.ts.length).toArray)]) Tryd.func8 rfl Tryd.ntmps8 rfl rfl ?_
 intro Q hret hnorm hP a A
 refine wsk fun K1 hK1 => wrl (zn (vs := (t.d.cells t.ts.length)) (t := 31) A M rfl rfl rfl pg (zj rfl rfl) (by decide) ?_)
 intro g2 w3 M a A
 refine zn (vs := (qe.d.cells qe.ts.length)) (t := 31) A M rfl rfl rfl pg (ql (z := .agg (qe.d.cells qe.ts.length).toArray) (by kernel_rfl) rfl) (by decide) ?_
 intro g4 w5 M a A
 refine sda A λa A↦?_
 refine qa (hK1 _ _ (wsk fun K6 hK6 => wrl (sdo A (za M LiG_isS_31 rfl 1 rfl (cs := (t.d.cells t.ts.length)) rfl rfl) λa A↦?_)))
 rcases tf (qp qg t.tr) with hb7 | hb7
 ·
  rcases tf ((zk t.tr).isSome) with hb9 | hb9
  ·
   refine sct A (ef rfl rfl) (qcc M.bel ht (by omega) (hT.below M.bel) hb7 hb9) ?_
   rintro _ w11 ⟨so7, ca7, ys, rfl, ⟨hy1, hy2, hy3⟩, hM7⟩
   have hyb := xm hy1
   replace M : Mg w w11 (.row 31 11 (.slice so7 ys.length ca7) ys.length (cellsOf ys) :: .obj g4 (.cells (qe.d.cells qe.ts.length).toArray 31) :: .obj g2 (.cells (t.d.cells t.ts.length).toArray 31) :: []) := (M.both hM7 (zi (by simp) (zi (by simp) (zf zl))) (zi (by simp) (zf zl)))
   refine ⟨_, rfl, ?_⟩
   intro a A
   refine sdm A λa A↦?_
   iterate 2 refine sdo A (qm (vs := [.slice so7 ys.length ca7, .int .i64 0]) rfl rfl) λa A↦?_
   iterate 2 refine sda A λa A↦?_
   refine qa (hK6 _ _ (wsk fun K12 hK12 => wsk fun K13 hK13 => wrl (sdm A λa A↦?_)))
   refine sdo (v := .bool false) A (qh rfl rfl (fun w => by kernel_rfl)) λa A↦?_
   refine qa (hK13 _ _ (wp_cond_false (A.ev rfl) ?_))
   refine wp_skip (hK12 _ _ (wsk fun K14 hK14 => wrl (sdm A λa A↦?_)))
   refine sct A (ef rfl rfl) (qwe (by omega) M) ?_
   rintro _ w15 ⟨rfl, hM8⟩
   replace M : Mg w w15 (.row 31 11 (.slice so7 ys.length ca7) ys.length (cellsOf ys.reverse) :: .obj g4 (.cells (qe.d.cells qe.ts.length).toArray 31) :: .obj g2 (.cells (t.d.cells t.ts.length).toArray 31) :: []) := hM8
   refine ⟨_, rfl, ?_⟩
   intro a A
   refine qa (hK14 _ _ (wsk fun K16 hK16 => wrl (sdm A λa A↦?_)))
   have hlt17 := (Ck.lt (M.has 1 rfl) g4 rfl).2
   have hlt18 := (Ck.lt (M.has 2 rfl) g2 rfl).2
   have hzt2 := M.bel.size
   refine sct A (ef rfl rfl) (qmg (xw (M.has 0 rfl)).1 (fun t ht => Dt.keep M.bel _ (hy2 t (List.mem_reverse.1 ht))) (by rw [List.map_reverse, qed]; omega)) ?_
   rintro _ w20 ⟨t2, rfl, ⟨hrt2, hat2, htt2⟩, hb19⟩
   replace M := M.call hb19
   refine ⟨_, rfl, ?_⟩
   intro a A
   refine jw (us := (t2.d.cells t2.ts.length)) (L' := (.row 31 11 (.slice so7 ys.length ca7) ys.length (cellsOf ys.reverse) :: .obj g4 (.cells (t2.d.cells t2.ts.length).toArray 31) :: .obj g2 (.cells (t.d.cells t.ts.length).toArray 31) :: [])) A M rfl rfl (qi rfl rfl rfl (by kernel_rfl) M 1 rfl rfl rfl) 1 rfl rfl rfl ?_
   intro w21 M hK22
   replace hrt2 := Dt.kept hK22 _ hrt2 (Dt.at_mono (fun b hb => by rintro rfl; omega) _ hat2)
   refine sda A λa A↦?_
   refine qa (hK16 _ _ (wp_ret (hret _ _ (en2 A rfl (zg M LiG_isS_31 rfl 1 rfl (cs := [.int .i64 t2.d.k, .int .i64 t2.d.n, .bool t2.d.y.q.b1, .slice t2.d.y.o1 t2.d.y.q.t1.length t2.d.y.c1, .slice t2.d.y.o2 t2.d.y.q.q1.length t2.d.y.c2, .bool t2.d.y.q.b2, .slice t2.d.y.o3 t2.d.y.q.t2.length t2.d.y.c3, .slice t2.d.y.o4 t2.d.y.q.q2.length t2.d.y.c4, .string t2.d.s, .slice t2.d.ro t2.d.rl.length t2.d.rc, .slice t2.d.lo t2.ts.length t2.d.lc]) rfl rfl) (qf rfl) ?_))))
   exact ⟨t2, 0, rfl, ⟨hrt2, Dt.at_mono (fun b hb => Nat.le_trans hzt2 hb) _ hat2, by unfold ux; rw [if_neg (by rw [hb7]; decide), hy1]; rw [htt2, List.map_reverse]⟩, M.bel⟩
  ·
   refine gcl A M (ef rfl rfl) (qcd M.bel ht (by omega) (hT.below M.bel) hb7 hb9) fun w24 hb23 M a A => ?_
   refine sdm A λa A↦?_
   iterate 2 refine sdo A (qm (vs := [.slice none 0 0, .int .i64 10]) rfl rfl) λa A↦?_
   iterate 2 refine sda A λa A↦?_
   refine qa (hK6 _ _ (wsk fun K25 hK25 => wsk fun K26 hK26 => wrl (sdm A λa A↦?_)))
   refine sdo (v := .bool true) A (qh rfl rfl (fun w => by kernel_rfl)) λa A↦?_
   refine qa (hK26 _ _ (wp_cond_true (A.ev rfl) ?_))
   refine wsk fun K27 hK27 => wrl (sdo (v := .agg (qe.d.cells qe.ts.length).toArray) A (zb rfl (fun w => by kernel_rfl)) λa A↦?_)
   refine sdm A λa A↦?_
   refine qt (us := (qe.d.cells qe.ts.length)) (L' := (.obj g4 (.cells (qe.d.cells qe.ts.length).toArray 31) :: .obj g2 (.cells (t.d.cells t.ts.length).toArray 31) :: [])) A M rfl rfl (qi rfl rfl rfl (by kernel_rfl) M 0 rfl rfl rfl) 0 rfl rfl rfl ?_
   intro w28 M
   refine sda A λa A↦?_
   refine qa (hK27 _ _ (wp_ret (hret _ _ (en2 A rfl (zg M LiG_isS_31 rfl 0 rfl (cs := [.int .i64 0, .int .i64 0, .bool false, .slice none 0 0, .slice none 0 0, .bool false, .slice none 0 0, .slice none 0 0, .string (⟨#[]⟩), .slice none 0 0, .slice none 0 0]) rfl rfl) (qf rfl) ?_))))
   exact ⟨qe, 10, rfl, ⟨jy _, jz _, by unfold ux; rw [if_neg (by rw [hb7]; decide), qgg hb9, jx]⟩, M.bel⟩
 ·
  refine gcl A M (ef rfl rfl) (qeb M.bel ht (by omega) (hT.below M.bel) hb7) fun w30 hb29 M a A => ?_
  refine sdm A λa A↦?_
  iterate 2 refine sdo A (qm (vs := [.slice none 0 0, .int .i64 2]) rfl rfl) λa A↦?_
  iterate 2 refine sda A λa A↦?_
  refine qa (hK6 _ _ (wsk fun K31 hK31 => wsk fun K32 hK32 => wrl (sdm A λa A↦?_)))
  refine sdo (v := .bool true) A (qh rfl rfl (fun w => by kernel_rfl)) λa A↦?_
  refine qa (hK32 _ _ (wp_cond_true (A.ev rfl) ?_))
  refine wsk fun K33 hK33 => wrl (sdo (v := .agg (qe.d.cells qe.ts.length).toArray) A (zb rfl (fun w => by kernel_rfl)) λa A↦?_)
  refine sdm A λa A↦?_
  refine qt (us := (qe.d.cells qe.ts.length)) (L' := (.obj g4 (.cells (qe.d.cells qe.ts.length).toArray 31) :: .obj g2 (.cells (t.d.cells t.ts.length).toArray 31) :: [])) A M rfl rfl (qi rfl rfl rfl (by kernel_rfl) M 0 rfl rfl rfl) 0 rfl rfl rfl ?_
  intro w34 M
  refine sda A λa A↦?_
  refine qa (hK33 _ _ (wp_ret (hret _ _ (en2 A rfl (zg M LiG_isS_31 rfl 0 rfl (cs := [.int .i64 0, .int .i64 0, .bool false, .slice none 0 0, .slice none 0 0, .bool false, .slice none 0 0, .slice none 0 0, .string (⟨#[]⟩), .slice none 0 0, .slice none 0 0]) rfl rfl) (qf rfl) ?_))))
  exact ⟨qe, 2, rfl, ⟨jy _, jz _, by unfold ux; rw [if_pos hb7, jx]⟩, M.bel⟩
end Go.Proofs.YtnemkamkjfokaaaDoor.G
namespace Go.Proofs.YtnemkamkjfokaaaDoor
open Go.RowKit
set_option linter.unusedVariables false
set_option linter.unusedSimpArgs false
set_option maxRecDepth 100000
theorem EqO_fld_28_0 : FieldAt Tryd.prog 28 0 0 := ⟨_, _, Tryd.underlying28, rfl, rfl, by kernel_rfl⟩
theorem EqO_fld_28_1 : FieldAt Tryd.prog 28 1 3 := ⟨_, _, Tryd.underlying28, rfl, rfl, by kernel_rfl⟩
theorem EqO_isS_26 : IsS Tryd.prog 26 3 := ⟨⟨_, Tryd.underlying26⟩, by kernel_rfl⟩
theorem qmh {w : World} {p q : Q6} {a1 a2 a3 a4 : Option Addr} {ac1 ac2 ac3 ac4 : Nat} (ha : Nm w p a1 ac1 a2 ac2 a3 ac3 a4 ac4) (hl : LenQ p) {u1 u2 u3 u4 : Option Addr} {uc1 uc2 uc3 uc4 : Nat} (hu : Nm w q u1 uc1 u2 uc2 u3 uc3 u4 uc4) (hm : LenQ q) {r : Bool} (hr : (xq p.b1 p.t1 p.q1 q.b1 q.t1 q.q1 && xq p.b2 p.t2 p.q2 q.b2 q.t2 q.q2) = r) : Calls Tryd.prog 17 #[quj p a1 ac1 a2 ac2 a3 ac3 a4 ac4, quj q u1 uc1 u2 uc2 u3 uc3 u4 uc4] w fun e w' => e = .returned (.bool r) ∧ Below w.heap.size w w' := by
 have hS : St w w [] [(u4, q.q2), (u3, q.t2), (u2, q.q1), (u1, q.t1), (a4, p.q2), (a3, p.t2), (a2, p.q1), (a1, p.t1)] [] := ((((((((St.start w).addR ha.s1.rd).addR ha.s2.rd).addR ha.s3.rd).addR ha.s4.rd).addR hu.s1.rd).addR hu.s2.rd).addR hu.s3.rd).addR hu.s4.rd
 refine qx (l := [(0, .agg #[.bool p.b1, .slice a1 p.t1.length ac1, .slice a2 p.q1.length ac2, .bool p.b2, .slice a3 p.t2.length ac3, .slice a4 p.q2.length ac4]), (1, .agg #[.bool q.b1, .slice u1 q.t1.length uc1, .slice u2 q.q1.length uc2, .bool q.b2, .slice u3 q.t2.length uc3, .slice u4 q.q2.length uc4])]) Tryd.func17 rfl Tryd.ntmps17 rfl rfl ?_
 intro Q hret hnorm hP a hA
 refine wp_seq_k (fun K1 hK1 => ?_)
 refine wp_region_lit ?_
 refine uz hA hS rfl rfl rfl (fun g => .pointer (some ⟨g, 0, none⟩)) (zj rfl rfl) rfl ?_
 intro g2 w3 hS a hA
 refine uz hA hS rfl rfl rfl (fun g => .pointer (some ⟨g, 0, none⟩)) (zj rfl rfl) rfl ?_
 intro g4 w5 hS a hA
 refine zr hA rfl rfl rfl (jb rfl) ?_
 intro a hA
 refine qa ?_
 refine hK1 _ _ ?_
 refine wp_seq_k (fun K6 hK6 => ?_)
 refine wp_region_lit ?_
 refine zr (v := .pointer (some ⟨g2, 0, none⟩)) hA rfl rfl rfl (qb EqO_fld_28_0 rfl rfl) ?_
 intro a hA
 refine zr hA rfl rfl rfl (vy hS EqO_isS_26 rfl 1 rfl (cs := [.bool p.b1, .slice a1 p.t1.length ac1, .slice a2 p.q1.length ac2]) rfl rfl) ?_
 intro a hA
 refine zr (v := .pointer (some ⟨g4, 0, none⟩)) hA rfl rfl rfl (qb EqO_fld_28_0 rfl rfl) ?_
 intro a hA
 refine zr hA rfl rfl rfl (vy hS EqO_isS_26 rfl 0 rfl (cs := [.bool q.b1, .slice u1 q.t1.length uc1, .slice u2 q.q1.length uc2]) rfl rfl) ?_
 intro a hA
 rcases Bool.eq_false_or_eq_true (xq p.b1 p.t1 p.q1 q.b1 q.t1 q.q1) with hb7 | hb7
 · refine ju hA rfl rfl rfl (ze  rfl rfl (fun w => by kernel_rfl)) (vp ⟨(hS.rd 7 rfl), ha.s1.nil, ha.s1.cap⟩ ⟨(hS.rd 6 rfl), ha.s2.nil, ha.s2.cap⟩ ⟨(hS.rd 3 rfl), hu.s1.nil, hu.s1.cap⟩ ⟨(hS.rd 2 rfl), hu.s2.nil, hu.s2.cap⟩ hl.l1 hl.l2 hm.l1 hm.l2 hb7) ?_
   rintro _ w9 ⟨rfl, hb8⟩
   replace hS := hS.call hb8
   refine ⟨_, rfl, ?_⟩
   intro a hA
   refine zr hA rfl rfl rfl (qz rfl) ?_
   intro a hA
   refine zr (v := .pointer (some ⟨g2, 3, none⟩)) hA rfl rfl rfl (qb EqO_fld_28_1 rfl rfl) ?_
   intro a hA
   refine zr hA rfl rfl rfl (vy hS EqO_isS_26 rfl 1 rfl (cs := [.bool p.b2, .slice a3 p.t2.length ac3, .slice a4 p.q2.length ac4]) rfl rfl) ?_
   intro a hA
   refine zr (v := .pointer (some ⟨g4, 3, none⟩)) hA rfl rfl rfl (qb EqO_fld_28_1 rfl rfl) ?_
   intro a hA
   refine zr hA rfl rfl rfl (vy hS EqO_isS_26 rfl 0 rfl (cs := [.bool q.b2, .slice u3 q.t2.length uc3, .slice u4 q.q2.length uc4]) rfl rfl) ?_
   intro a hA
   rcases Bool.eq_false_or_eq_true (xq p.b2 p.t2 p.q2 q.b2 q.t2 q.q2) with hb10 | hb10
   · refine ju hA rfl rfl rfl (ze  rfl rfl (fun w => by kernel_rfl)) (vp ⟨(hS.rd 5 rfl), ha.s3.nil, ha.s3.cap⟩ ⟨(hS.rd 4 rfl), ha.s4.nil, ha.s4.cap⟩ ⟨(hS.rd 1 rfl), hu.s3.nil, hu.s3.cap⟩ ⟨(hS.rd 0 rfl), hu.s4.nil, hu.s4.cap⟩ hl.l3 hl.l4 hm.l3 hm.l4 hb10) ?_
     rintro _ w12 ⟨rfl, hb11⟩
     replace hS := hS.call hb11
     refine ⟨_, rfl, ?_⟩
     intro a hA
     refine zr (v := .bool true) hA rfl rfl rfl (xh rfl rfl rfl rfl) ?_
     intro a hA
     refine zr hA rfl rfl rfl (jb rfl) ?_
     intro a hA
     refine qa ?_
     refine hK6 _ _ ?_
     refine wp_ret ?_
     refine hret _ _ ?_
     refine kb (v := .bool true) hA rfl (.cons (qf rfl) .nil) rfl ?_
     subst hr
     exact ⟨by rw [hb7, hb10]; try rfl, hS.bel⟩
   · refine ju hA rfl rfl rfl (ze  rfl rfl (fun w => by kernel_rfl)) (vp ⟨(hS.rd 5 rfl), ha.s3.nil, ha.s3.cap⟩ ⟨(hS.rd 4 rfl), ha.s4.nil, ha.s4.cap⟩ ⟨(hS.rd 1 rfl), hu.s3.nil, hu.s3.cap⟩ ⟨(hS.rd 0 rfl), hu.s4.nil, hu.s4.cap⟩ hl.l3 hl.l4 hm.l3 hm.l4 hb10) ?_
     rintro _ w14 ⟨rfl, hb13⟩
     replace hS := hS.call hb13
     refine ⟨_, rfl, ?_⟩
     intro a hA
     refine zr (v := .bool false) hA rfl rfl rfl (xh rfl rfl rfl rfl) ?_
     intro a hA
     refine zr hA rfl rfl rfl (jb rfl) ?_
     intro a hA
     refine qa ?_
     refine hK6 _ _ ?_
     refine wp_ret ?_
     refine hret _ _ ?_
     refine kb (v := .bool false) hA rfl (.cons (qf rfl) .nil) rfl ?_
     subst hr
     exact ⟨by rw [hb7, hb10]; try rfl, hS.bel⟩
 · refine ju hA rfl rfl rfl (ze  rfl rfl (fun w => by kernel_rfl)) (vp ⟨(hS.rd 7 rfl), ha.s1.nil, ha.s1.cap⟩ ⟨(hS.rd 6 rfl), ha.s2.nil, ha.s2.cap⟩ ⟨(hS.rd 3 rfl), hu.s1.nil, hu.s1.cap⟩ ⟨(hS.rd 2 rfl), hu.s2.nil, hu.s2.cap⟩ hl.l1 hl.l2 hm.l1 hm.l2 hb7) ?_
   rintro _ w16 ⟨rfl, hb15⟩
   replace hS := hS.call hb15
   refine ⟨_, rfl, ?_⟩
   intro a hA
   refine zr hA rfl rfl rfl (qz rfl) ?_
   intro a hA
   refine qj hA rfl rfl rfl ?_
   intro a hA
   refine qj hA rfl rfl rfl ?_
   intro a hA
   refine qj hA rfl rfl rfl ?_
   intro a hA
   refine qj hA rfl rfl rfl ?_
   intro a hA
   refine qj hA rfl rfl rfl ?_
   intro a hA
   refine zr (v := .bool false) hA rfl rfl rfl (xh rfl rfl rfl rfl) ?_
   intro a hA
   refine zr hA rfl rfl rfl (jb rfl) ?_
   intro a hA
   refine qa ?_
   refine hK6 _ _ ?_
   refine wp_ret ?_
   refine hret _ _ ?_
   refine kb (v := .bool false) hA rfl (.cons (qf rfl) .nil) rfl ?_
   subst hr
   exact ⟨by rw [hb7]; try rfl, hS.bel⟩

end Go.Proofs.YtnemkamkjfokaaaDoor
namespace Go.Proofs.YtnemkamkjfokaaaDoor.G
open Go.RowKit
set_option linter.unusedVariables false
set_option linter.unusedSimpArgs false
/-! ### The same trees, by the document -/
mutual
def kl : Tr → Tr → Bool
  | .mk k n q s rl ts, u => (decide (k = u.k) && (decide (n = u.n) && (decide (s = u.s) && (decide (rl = u.rl) && (xq q.b1 q.t1 q.q1 u.q.b1 u.q.t1 u.q.q1 && xq q.b2 q.t2 q.q2 u.q.b2 u.q.t2 u.q.q2))))) && (decide (ts.length = u.ts.length) && ve ts u.ts)
def ve : List Tr → List Tr → Bool
  | [], _ => true
  | _ :: _, [] => true
  | t :: ts, u :: us => kl t u && ve ts us
end
theorem qra {b b' : Bool} {t q t' q' : List Nat} : xq b t q b' t' q' = true ↔ b = b' ∧ t = t' ∧ q = q' := by
  unfold xq
  simp
theorem quc (k n : Int) (q : Q6) (s : ByteArray) (rl : List UInt8) (ts : List Tr) (k' n' : Int) (q' : Q6) (s' : ByteArray) (rl' : List UInt8) (ts' : List Tr) : kl (.mk k n q s rl ts) (.mk k' n' q' s' rl' ts') = true ↔ k = k' ∧ n = n' ∧ q = q' ∧ s = s' ∧ rl = rl' ∧ ts.length = ts'.length ∧ ve ts ts' = true := by
  rw [kl]
  show ((decide (k = k') && (decide (n = n') && (decide (s = s') && (decide (rl = rl') && (xq q.b1 q.t1 q.q1 q'.b1 q'.t1 q'.q1 && xq q.b2 q.t2 q.q2 q'.b2 q'.t2 q'.q2))))) && (decide (ts.length = ts'.length) && ve ts ts')) = true ↔ _
  simp only [Bool.and_eq_true, decide_eq_true_eq, qra]
  constructor
  · rintro ⟨⟨a, b, c, d, ⟨e1, e2, e3⟩, f1, f2, f3⟩, g, h⟩
    refine ⟨a, b, ?_, c, d, g, h⟩
    cases q; cases q'
    simp_all
  · rintro ⟨a, b, c, d, e, f, g⟩
    subst c
    exact ⟨⟨a, b, d, e, ⟨rfl, rfl, rfl⟩, rfl, rfl, rfl⟩, f, g⟩
theorem qjh {ts : List Tr} (h : ∀ t ∈ ts, ∀ u, kl t u = true ↔ t = u) : ∀ us : List Tr, ts.length = us.length → (ve ts us = true ↔ ts = us) := by
  induction ts with
  | nil =>
    intro us hl
    cases us with
    | nil => simp [ve]
    | cons u us => simp at hl
  | cons t ts ih =>
    intro us hl
    cases us with
    | nil => simp at hl
    | cons u us =>
      rw [ve, Bool.and_eq_true, h t List.mem_cons_self u, ih (fun x hx => h x (List.mem_cons_of_mem _ hx)) us (by simpa using hl)]
      simp
theorem ud : ∀ t u : Tr, kl t u = true ↔ t = u := by
  refine Tr.indT fun k n q s rl ts ih u => ?_
  obtain ⟨k', n', q', s', rl', ts'⟩ := u
  rw [quc]
  constructor
  · rintro ⟨a, b, c, d, e, f, g⟩
    rw [a, b, c, d, e, (qjh ih ts' f).1 g]
  · intro h
    cases h
    exact ⟨rfl, rfl, rfl, rfl, rfl, rfl, (qjh ih ts rfl).2 rfl⟩
theorem qji {ts us : List Dt} {i : Nat} {t u : Dt} (hi : ts[i]? = some t) (hj : us[i]? = some u) : ve ((ts.map Dt.tr).drop i) ((us.map Dt.tr).drop i) = (kl t.tr u.tr && ve ((ts.map Dt.tr).drop (i + 1)) ((us.map Dt.tr).drop (i + 1))) := by
  rw [ks hi, ks hj, ve]
theorem qrb {ts us : List Dt} {i : Nat} (h : ¬ i < ts.length) : ve ((ts.map Dt.tr).drop i) ((us.map Dt.tr).drop i) = true := by
  rw [ug h, ve]
theorem qjj (p r : Dt) : kl p.tr r.tr = ((decide (p.d.k = r.d.k) && (decide (p.d.n = r.d.n) && (decide (p.d.s = r.d.s) && (decide (p.d.rl = r.d.rl) && (xq p.d.y.q.b1 p.d.y.q.t1 p.d.y.q.q1 r.d.y.q.b1 r.d.y.q.t1 r.d.y.q.q1 && xq p.d.y.q.b2 p.d.y.q.t2 p.d.y.q.q2 r.d.y.q.b2 r.d.y.q.t2 r.d.y.q.q2))))) && (decide (p.ts.length = r.ts.length) && ve (p.ts.map Dt.tr) (r.ts.map Dt.tr))) := by
  rw [Dt.tr_eta p, Dt.tr_eta r, kl, List.length_map]
  show _ = (_ && (decide (p.ts.length = r.ts.length) && _))
  rw [show (Tr.mk r.d.k r.d.n r.d.y.q r.d.s r.d.rl (r.ts.map Dt.tr)).ts.length = r.ts.length from List.length_map _]
  rfl
def SQ2 (p r : Dt) : Bool := xq p.d.y.q.b1 p.d.y.q.t1 p.d.y.q.q1 r.d.y.q.b1 r.d.y.q.t1 r.d.y.q.q1 && xq p.d.y.q.b2 p.d.y.q.t2 p.d.y.q.q2 r.d.y.q.b2 r.d.y.q.t2 r.d.y.q.q2
theorem kj {p r : Dt} (h : p.d.k ≠ r.d.k ∨ p.d.n ≠ r.d.n ∨ p.d.s ≠ r.d.s ∨ p.d.rl ≠ r.d.rl ∨ p.ts.length ≠ r.ts.length ∨ SQ2 p r = false) : kl p.tr r.tr = false := by
  rw [qjj]
  unfold SQ2 at h
  rcases h with h | h | h | h | h | h <;> simp [h]
theorem qud {p r : Dt} (h1 : p.d.k = r.d.k) (h2 : p.d.n = r.d.n) (h3 : p.d.s = r.d.s) (h4 : p.d.rl = r.d.rl) (h5 : p.ts.length = r.ts.length) (h6 : SQ2 p r = true) : kl p.tr r.tr = ve (p.ts.map Dt.tr) (r.ts.map Dt.tr) := by
  rw [qjj]
  unfold SQ2 at h6
  rw [decide_eq_true h1, decide_eq_true h2, decide_eq_true h3, decide_eq_true h4, decide_eq_true h5, h6]
  simp
theorem qrc {a b : List UInt8} (hl : a.length = b.length) (h : ∀ j, j < a.length → a.getD j 0 = b.getD j 0) : a = b := by
  apply List.ext_getElem hl
  intro j h1 h2
  have := h j h1
  rwa [show a.getD j 0 = a[j] from by simp [List.getD, List.getElem?_eq_getElem h1], show b.getD j 0 = b[j] from by simp [List.getD, List.getElem?_eq_getElem h2]] at this
theorem qyd {a b : List UInt8} {i : Nat} (h : (((a.getD i 0).toNat : Nat) : Int) ≠ (((b.getD i 0).toNat : Nat) : Int)) : a ≠ b := fun e => h (by rw [e])
theorem qye {a b : UInt8} (h : ((a.toNat : Nat) : Int) = ((b.toNat : Nat) : Int)) : a = b := UInt8.toNat_inj.1 (by omega)
set_option maxRecDepth 100000
theorem LiS_is1_22 : Is1 Tryd.prog 22 := ⟨⟨_, Tryd.underlying22, rfl⟩, by kernel_rfl⟩
theorem LiS_is1_29 : Is1 Tryd.prog 29 := ⟨⟨_, Tryd.underlying29, rfl⟩, by kernel_rfl⟩
theorem LiS_is1_3 : Is1 Tryd.prog 3 := ⟨⟨_, Tryd.underlying3, rfl⟩, by kernel_rfl⟩
theorem LiS_is1_5 : Is1 Tryd.prog 5 := ⟨⟨_, Tryd.underlying5, rfl⟩, by kernel_rfl⟩
theorem LiS_is1_9 : Is1 Tryd.prog 9 := ⟨⟨_, Tryd.underlying9, rfl⟩, by kernel_rfl⟩
theorem LiS_fld_31_0 : FieldAt Tryd.prog 31 0 0 := ⟨_, _, Tryd.underlying31, rfl, rfl, by kernel_rfl⟩
theorem LiS_fld_31_1 : FieldAt Tryd.prog 31 1 1 := ⟨_, _, Tryd.underlying31, rfl, rfl, by kernel_rfl⟩
theorem LiS_fld_31_2 : FieldAt Tryd.prog 31 2 2 := ⟨_, _, Tryd.underlying31, rfl, rfl, by kernel_rfl⟩
theorem LiS_fld_31_3 : FieldAt Tryd.prog 31 3 8 := ⟨_, _, Tryd.underlying31, rfl, rfl, by kernel_rfl⟩
theorem LiS_fld_31_4 : FieldAt Tryd.prog 31 4 9 := ⟨_, _, Tryd.underlying31, rfl, rfl, by kernel_rfl⟩
theorem LiS_fld_31_5 : FieldAt Tryd.prog 31 5 10 := ⟨_, _, Tryd.underlying31, rfl, rfl, by kernel_rfl⟩
theorem LiS_isS_28 : IsS Tryd.prog 28 6 := ⟨⟨_, Tryd.underlying28⟩, by kernel_rfl⟩
theorem LiS_isS_31 : IsS Tryd.prog 31 11 := ⟨⟨_, Tryd.underlying31⟩, by kernel_rfl⟩
theorem qoe {w : World} {so : Option Addr} {l : List UInt8} {i : Nat} (h : Rb w so l) (hi : i < l.length) : ∃ b off, so = some ⟨b, off, none⟩ ∧ b < w.heap.size ∧ ∀ j, j < l.length → w.cell? ⟨b, off + j, none⟩ = some (.int .u8 (((l.getD j 0).toNat : Nat) : Int)) :=
 h.pos (fun k => by rw [k] at hi; exact absurd hi (Nat.not_lt_zero _))
theorem qcf {w : World} {t u : Dt} (ht : t.rd w) (hu : u.rd w) {b : Bool} (h : SQ2 t u = b) : Calls Tryd.prog 17 #[t.d.y.val, u.d.y.val] w fun e w' => e = .returned (.bool b) ∧ Below w.heap.size w w' := qmh (Dt.okT ht).1.num (Dt.okT ht).1.len (Dt.okT hu).1.num (Dt.okT hu).1.len h
def RSames (n : Nat) : Prop := ∀ {w : World} {t u : Dt}, t.tr.bulk < n → t.rd w → u.rd w → Calls Tryd.prog 9 #[.agg (t.d.cells t.ts.length).toArray, .agg (u.d.cells u.ts.length).toArray] w fun e w' => e = .returned (.bool (kl t.tr u.tr)) ∧ Below w.heap.size w w'
set_option maxHeartbeats 1000000 in
theorem qka {n : Nat} (ih : RSames n) : RSames (n + 1) := by
 intro w t u hn ht hu
 have hlt := (Dt.okT ht).2
 have hrt : t.d.rl.length ≤ 9223372036854775807 := Nat.le_trans (Dt.okT ht).1.rcap (Dt.okT ht).1.rmax
 have M : Mg w w ([]) := Mg.start w
 refine qx (l := [(0, .agg (t.d.cells t.ts.length).toArray), (1, .agg (u.d.cells u.ts.length).toArray)]) Tryd.func9 rfl Tryd.ntmps9 rfl rfl ?_
 intro Q hret hnorm hP a A
 refine wsk fun K1 hK1 => wrl (zn (vs := (t.d.cells t.ts.length)) (t := 31) A M rfl rfl rfl pg (zj rfl rfl) (by decide) ?_)
 intro g2 w3 M a A
 refine zn (vs := (u.d.cells u.ts.length)) (t := 31) A M rfl rfl rfl pg (zj rfl rfl) (by decide) ?_
 intro g4 w5 M a A
 refine sda A λa A↦?_
 refine qa (hK1 _ _ (wsk fun K6 hK6 => wsk fun K7 hK7 => wrl (sdo (v := .pointer (some ⟨g2, 0, none⟩)) A (qb LiS_fld_31_0 rfl rfl) λa A↦?_)))
 refine sdo A (qs M LiS_is1_3 rfl 1 rfl rfl) λa A↦?_
 refine sdo (v := .pointer (some ⟨g4, 0, none⟩)) A (qb LiS_fld_31_0 rfl rfl) λa A↦?_
 refine sdo A (qs M LiS_is1_3 rfl 0 rfl rfl) λa A↦?_
 rcases tf ((t.d.k != u.d.k)) with hb8 | hb8
 ·
  have hb8' := bne_iff_ne.1 hb8
  refine sdc A zy hb8 λa A↦?_
  refine sdm A λa A↦?_
  iterate 5 refine qj A rfl rfl rfl λa A↦?_
  refine sdk (v := .bool true) A λa A↦?_
  refine sdm A λa A↦?_
  iterate 5 refine qj A rfl rfl rfl λa A↦?_
  refine sdk (v := .bool true) A λa A↦?_
  refine sdm A λa A↦?_
  iterate 7 refine qj A rfl rfl rfl λa A↦?_
  refine sdk (v := .bool true) A λa A↦?_
  refine sdm A λa A↦?_
  iterate 7 refine qj A rfl rfl rfl λa A↦?_
  refine sdk (v := .bool true) A λa A↦?_
  refine sdm A λa A↦?_
  iterate 6 refine qj A rfl rfl rfl λa A↦?_
  refine sdk (v := .bool true) A λa A↦?_
  refine qa (hK7 _ _ (wp_cond_true (A.ev rfl) ?_))
  refine wsk fun K9 hK9 => wrl (sda A λa A↦?_)
  refine qa (hK9 _ _ (wp_ret (hret _ _ (en1 A rfl (qf rfl) ?_))))
  exact ⟨by rw [kj (.inl hb8')], M.bel⟩
 ·
  have hb8' := bne_eq_false_iff_eq.1 hb8
  refine sdc A zy hb8 λa A↦?_
  refine sdm A λa A↦?_
  refine sdo (v := .pointer (some ⟨g2, 1, none⟩)) A (qb LiS_fld_31_1 rfl rfl) λa A↦?_
  refine sdo A (qs M LiS_is1_3 rfl 1 rfl rfl) λa A↦?_
  refine sdo (v := .pointer (some ⟨g4, 1, none⟩)) A (qb LiS_fld_31_1 rfl rfl) λa A↦?_
  refine sdo A (qs M LiS_is1_3 rfl 0 rfl rfl) λa A↦?_
  rcases tf ((t.d.n != u.d.n)) with hb10 | hb10
  ·
   have hb10' := bne_iff_ne.1 hb10
   refine sdc A zy hb10 λa A↦?_
   refine sdk (v := .bool true) A λa A↦?_
   refine sdm A λa A↦?_
   iterate 5 refine qj A rfl rfl rfl λa A↦?_
   refine sdk (v := .bool true) A λa A↦?_
   refine sdm A λa A↦?_
   iterate 7 refine qj A rfl rfl rfl λa A↦?_
   refine sdk (v := .bool true) A λa A↦?_
   refine sdm A λa A↦?_
   iterate 7 refine qj A rfl rfl rfl λa A↦?_
   refine sdk (v := .bool true) A λa A↦?_
   refine sdm A λa A↦?_
   iterate 6 refine qj A rfl rfl rfl λa A↦?_
   refine sdk (v := .bool true) A λa A↦?_
   refine qa (hK7 _ _ (wp_cond_true (A.ev rfl) ?_))
   refine wsk fun K11 hK11 => wrl (sda A λa A↦?_)
   refine qa (hK11 _ _ (wp_ret (hret _ _ (en1 A rfl (qf rfl) ?_))))
   exact ⟨by rw [kj (.inr (.inl hb10'))], M.bel⟩
  ·
   have hb10' := bne_eq_false_iff_eq.1 hb10
   refine sdc A zy hb10 λa A↦?_
   refine sdk (v := .bool false) A λa A↦?_
   refine sdm A λa A↦?_
   refine sdo (v := .pointer (some ⟨g2, 8, none⟩)) A (qb LiS_fld_31_3 rfl rfl) λa A↦?_
   refine sdo A (qs M LiS_is1_9 rfl 1 rfl rfl) λa A↦?_
   refine sdo (v := .pointer (some ⟨g4, 8, none⟩)) A (qb LiS_fld_31_3 rfl rfl) λa A↦?_
   refine sdo A (qs M LiS_is1_9 rfl 0 rfl rfl) λa A↦?_
   rcases tf (decide (t.d.s = u.d.s)) with hb12 | hb12
   ·
    have hb12' := of_decide_eq_true hb12
    refine sdo (v := .bool false) A (qh rfl rfl (fun w => (qib Tryd.underlying9 w).trans (by rw [hb12] <;> rfl))) λa A↦?_
    refine sdk (v := .bool false) A λa A↦?_
    refine sdm A λa A↦?_
    refine sdo (v := .pointer (some ⟨g2, 9, none⟩)) A (qb LiS_fld_31_4 rfl rfl) λa A↦?_
    refine sdo A (qs M LiS_is1_29 rfl 1 rfl rfl) λa A↦?_
    refine sdo A (qw Tryd.underlying29 rfl) λa A↦?_
    refine sdo (v := .pointer (some ⟨g4, 9, none⟩)) A (qb LiS_fld_31_4 rfl rfl) λa A↦?_
    refine sdo A (qs M LiS_is1_29 rfl 0 rfl rfl) λa A↦?_
    refine sdo A (qw Tryd.underlying29 rfl) λa A↦?_
    rcases tf ((((t.d.rl.length : Nat) : Int) != ((u.d.rl.length : Nat) : Int))) with hb13 | hb13
    ·
     have hb13' := bne_iff_ne.1 hb13
     refine sdc A zy hb13 λa A↦?_
     refine sdk (v := .bool true) A λa A↦?_
     refine sdm A λa A↦?_
     iterate 7 refine qj A rfl rfl rfl λa A↦?_
     refine sdk (v := .bool true) A λa A↦?_
     refine sdm A λa A↦?_
     iterate 6 refine qj A rfl rfl rfl λa A↦?_
     refine sdk (v := .bool true) A λa A↦?_
     refine qa (hK7 _ _ (wp_cond_true (A.ev rfl) ?_))
     refine wsk fun K14 hK14 => wrl (sda A λa A↦?_)
     refine qa (hK14 _ _ (wp_ret (hret _ _ (en1 A rfl (qf rfl) ?_))))
     exact ⟨by rw [kj (.inr (.inr (.inr (.inl (fun e => hb13' (by rw [e]))))))], M.bel⟩
    ·
     have hb13' := bne_eq_false_iff_eq.1 hb13
     refine sdc A zy hb13 λa A↦?_
     refine sdk (v := .bool false) A λa A↦?_
     refine sdm A λa A↦?_
     refine sdo (v := .pointer (some ⟨g2, 10, none⟩)) A (qb LiS_fld_31_5 rfl rfl) λa A↦?_
     refine sdo A (qs M LiS_is1_22 rfl 1 rfl rfl) λa A↦?_
     refine sdo A (qw Tryd.underlying22 rfl) λa A↦?_
     refine sdo (v := .pointer (some ⟨g4, 10, none⟩)) A (qb LiS_fld_31_5 rfl rfl) λa A↦?_
     refine sdo A (qs M LiS_is1_22 rfl 0 rfl rfl) λa A↦?_
     refine sdo A (qw Tryd.underlying22 rfl) λa A↦?_
     rcases tf ((((t.ts.length : Nat) : Int) != ((u.ts.length : Nat) : Int))) with hb15 | hb15
     ·
      have hb15' := bne_iff_ne.1 hb15
      refine sdc A zy hb15 λa A↦?_
      refine sdk (v := .bool true) A λa A↦?_
      refine sdm A λa A↦?_
      iterate 6 refine qj A rfl rfl rfl λa A↦?_
      refine sdk (v := .bool true) A λa A↦?_
      refine qa (hK7 _ _ (wp_cond_true (A.ev rfl) ?_))
      refine wsk fun K16 hK16 => wrl (sda A λa A↦?_)
      refine qa (hK16 _ _ (wp_ret (hret _ _ (en1 A rfl (qf rfl) ?_))))
      exact ⟨by rw [kj (.inr (.inr (.inr (.inr (.inl (fun e => hb15' (by rw [e])))))))], M.bel⟩
     ·
      have hb15' := bne_eq_false_iff_eq.1 hb15
      refine sdc A zy hb15 λa A↦?_
      refine sdk (v := .bool false) A λa A↦?_
      refine sdm A λa A↦?_
      refine sdo (v := .pointer (some ⟨g2, 2, none⟩)) A (qb LiS_fld_31_2 rfl rfl) λa A↦?_
      refine sdo A (za M LiS_isS_28 rfl 1 rfl (cs := [.bool t.d.y.q.b1, .slice t.d.y.o1 t.d.y.q.t1.length t.d.y.c1, .slice t.d.y.o2 t.d.y.q.q1.length t.d.y.c2, .bool t.d.y.q.b2, .slice t.d.y.o3 t.d.y.q.t2.length t.d.y.c3, .slice t.d.y.o4 t.d.y.q.q2.length t.d.y.c4]) rfl rfl) λa A↦?_
      refine sdo (v := .pointer (some ⟨g4, 2, none⟩)) A (qb LiS_fld_31_2 rfl rfl) λa A↦?_
      refine sdo A (za M LiS_isS_28 rfl 0 rfl (cs := [.bool u.d.y.q.b1, .slice u.d.y.o1 u.d.y.q.t1.length u.d.y.c1, .slice u.d.y.o2 u.d.y.q.q1.length u.d.y.c2, .bool u.d.y.q.b2, .slice u.d.y.o3 u.d.y.q.t2.length u.d.y.c3, .slice u.d.y.o4 u.d.y.q.q2.length u.d.y.c4]) rfl rfl) λa A↦?_
      rcases tf (SQ2 t u) with hb17 | hb17
      ·
       refine gcl A M (ef rfl rfl) (qcf (Dt.keep M.bel _ ht) (Dt.keep M.bel _ hu) hb17) fun w19 hb18 M a A => ?_
       refine sdo (v := .bool false) A (zm rfl zv) λa A↦?_
       refine sdk (v := .bool false) A λa A↦?_
       refine qa (hK7 _ _ (wp_cond_false (A.ev rfl) ?_))
       refine wp_skip (hK6 _ _ (wsk fun K20 hK20 => wsk fun K21 hK21 => wrl (sda A λa A↦?_)))
       refine qa (hK21 _ _ (wp_block (jg (fun m_ a w1 => ∃ (i : Nat), m_ = 1 + (t.d.rl.length - i) ∧ (i ≤ t.d.rl.length ∧ ∀ j, j < i → t.d.rl.getD j 0 = u.d.rl.getD j 0) ∧ Sl a 89 [(0, .agg (t.d.cells t.ts.length).toArray), (1, .agg (u.d.cells u.ts.length).toArray), (2, .pointer (some ⟨g2, 0, none⟩)), (3, .pointer (some ⟨g4, 0, none⟩)), (5, .int .i64 (((i : Nat) : Int))), (7, .pointer (some ⟨g2, 0, none⟩)), (8, .int .i64 t.d.k), (9, .pointer (some ⟨g4, 0, none⟩)), (10, .int .i64 u.d.k), (11, .bool false), (12, .bool false), (13, .pointer (some ⟨g2, 1, none⟩)), (14, .int .i64 t.d.n), (15, .pointer (some ⟨g4, 1, none⟩)), (16, .int .i64 u.d.n), (17, .bool false), (18, .bool false), (19, .bool false), (20, .pointer (some ⟨g2, 8, none⟩)), (21, .string t.d.s), (22, .pointer (some ⟨g4, 8, none⟩)), (23, .string u.d.s), (24, .bool false), (25, .bool false), (26, .bool false), (27, .pointer (some ⟨g2, 9, none⟩)), (28, .slice t.d.ro t.d.rl.length t.d.rc), (29, .int .i64 (((t.d.rl.length : Nat) : Int))), (30, .pointer (some ⟨g4, 9, none⟩)), (31, .slice u.d.ro u.d.rl.length u.d.rc), (32, .int .i64 (((u.d.rl.length : Nat) : Int))), (33, .bool false), (34, .bool false), (35, .bool false), (36, .pointer (some ⟨g2, 10, none⟩)), (37, .slice t.d.lo t.ts.length t.d.lc), (38, .int .i64 (((t.ts.length : Nat) : Int))), (39, .pointer (some ⟨g4, 10, none⟩)), (40, .slice u.d.lo u.ts.length u.d.lc), (41, .int .i64 (((u.ts.length : Nat) : Int))), (42, .bool false), (43, .bool false), (44, .bool false), (45, .pointer (some ⟨g2, 2, none⟩)), (46, .agg #[.bool t.d.y.q.b1, .slice t.d.y.o1 t.d.y.q.t1.length t.d.y.c1, .slice t.d.y.o2 t.d.y.q.q1.length t.d.y.c2, .bool t.d.y.q.b2, .slice t.d.y.o3 t.d.y.q.t2.length t.d.y.c3, .slice t.d.y.o4 t.d.y.q.q2.length t.d.y.c4]), (47, .pointer (some ⟨g4, 2, none⟩)), (48, .agg #[.bool u.d.y.q.b1, .slice u.d.y.o1 u.d.y.q.t1.length u.d.y.c1, .slice u.d.y.o2 u.d.y.q.q1.length u.d.y.c2, .bool u.d.y.q.b2, .slice u.d.y.o3 u.d.y.q.t2.length u.d.y.c3, .slice u.d.y.o4 u.d.y.q.q2.length u.d.y.c4]), (49, .bool true), (50, .bool false), (51, .bool false)] ∧ Mg w w1 (.obj g4 (.cells (u.d.cells u.ts.length).toArray 31) :: .obj g2 (.cells (t.d.cells t.ts.length).toArray 31) :: [])) _ ⟨0, rfl, ⟨Nat.zero_le _, fun j hj => absurd hj (Nat.not_lt_zero _)⟩, A.keep _ (by repeat' constructor), M⟩ ?_)))
       clear M A
       rintro m_ a w22 ⟨i, rfl, hinv24, A, M⟩ K23 hK23
       obtain ⟨hi0, hin8⟩ := hinv24
       refine wsk fun K25 hK25 => wsk fun K26 hK26 => wrl (sdm A λa A↦?_)
       refine sdo (v := .pointer (some ⟨g2, 9, none⟩)) A (qb LiS_fld_31_4 rfl rfl) λa A↦?_
       refine sdo A (qs M LiS_is1_29 rfl 1 rfl rfl) λa A↦?_
       refine sdo A (qw Tryd.underlying29 rfl) λa A↦?_
       rcases tf (decide (((i : Nat) : Int) < ((t.d.rl.length : Nat) : Int))) with hb27 | hb27
       ·
        have hb27' := of_decide_eq_true hb27
        refine sdc A zq hb27 λa A↦?_
        refine qa (hK26 _ _ (wp_cond_true (A.ev rfl) ?_))
        refine wp_skip (hK25 _ _ (wsk fun K28 hK28 => wp_block (wsk fun K29 hK29 => vz (S := fun w1 => Mg w w1 (.obj g4 (.cells (u.d.cells u.ts.length).toArray 31) :: .obj g2 (.cells (t.d.cells t.ts.length).toArray 31) :: [])) (by kernel_rfl) ?_)))
        replace M := M.drew
        refine qk (v := .pointer (some ⟨g2, 9, none⟩)) A 0 rfl rfl rfl rfl hP (M.sub (cc (cc (List.nil_sublist _)))) (fun w1 M => qb LiS_fld_31_4 rfl rfl) λa A↦?_
        refine qk A 1 rfl rfl rfl rfl hP (M.sub (cc (cc (List.nil_sublist _)))) (fun w1 M => qs M LiS_is1_29 rfl 1 rfl rfl) λa A↦?_
        refine qk A 2 rfl rfl rfl rfl hP (M.sub (cc (cc (List.nil_sublist _)))) (fun w1 M => qz rfl) λa A↦?_
        obtain ⟨bt, ot, ht1, ht2, ht3⟩ := qoe (i := i) (Dt.okT ht).1.raw (by omega)
        refine qk (v := .pointer (some ⟨bt, ot + i, none⟩)) A 3 rfl rfl rfl rfl hP (M.sub (cc (cc (List.nil_sublist _)))) (fun w1 M => jv (k := i) Tryd.underlying29 (by kernel_rfl) rfl rfl rfl ht1 (by omega)) λa A↦?_
        refine qk A 4 rfl rfl rfl rfl hP (M.sub (cc (cc (List.nil_sublist _)))) (fun w1 M => qna M ht2 (ht3 i (by omega)) LiS_is1_5 rfl) λa A↦?_
        refine qk (v := .pointer (some ⟨g4, 9, none⟩)) A 5 rfl rfl rfl rfl hP (M.sub (cc (cc (List.nil_sublist _)))) (fun w1 M => qb LiS_fld_31_4 rfl rfl) λa A↦?_
        refine qk A 6 rfl rfl rfl rfl hP (M.sub (cc (cc (List.nil_sublist _)))) (fun w1 M => qs M LiS_is1_29 rfl 0 rfl rfl) λa A↦?_
        refine qk A 7 rfl rfl rfl rfl hP (M.sub (cc (cc (List.nil_sublist _)))) (fun w1 M => qz rfl) λa A↦?_
        obtain ⟨bu, ou, hu1, hu2, hu3⟩ := qoe (i := i) (Dt.okT hu).1.raw (by omega)
        refine qk (v := .pointer (some ⟨bu, ou + i, none⟩)) A 8 rfl rfl rfl rfl hP (M.sub (cc (cc (List.nil_sublist _)))) (fun w1 M => jv (k := i) Tryd.underlying29 (by kernel_rfl) rfl rfl rfl hu1 (by omega)) λa A↦?_
        refine qk A 9 rfl rfl rfl rfl hP (M.sub (cc (cc (List.nil_sublist _)))) (fun w1 M => qna M hu2 (hu3 i (by omega)) LiS_is1_5 rfl) λa A↦?_
        rcases tf (((((t.d.rl.getD i 0).toNat : Nat) : Int) != (((u.d.rl.getD i 0).toNat : Nat) : Int))) with hb30 | hb30
        ·
         have hb30' := bne_iff_ne.1 hb30
         refine qk (v := .bool true) A 10 rfl rfl rfl rfl hP (M.sub (cc (cc (List.nil_sublist _)))) (fun w1 M => qh rfl rfl (fun w => (zy w).trans (by rw [hb30]))) λa A↦?_
         refine xn (by kernel_rfl) ?_
         refine hK29 _ _ (wp_cond_true (A.ev rfl) ?_)
         refine wsk fun K31 hK31 => wrl (sda A λa A↦?_)
         refine qa (hK31 _ _ (wp_ret (hret _ _ (en1 A rfl (qf rfl) ?_))))
         exact ⟨by rw [kj (.inr (.inr (.inr (.inl (qyd hb30')))))], M.bel⟩
        ·
         have hb30' := bne_eq_false_iff_eq.1 hb30
         refine qk (v := .bool false) A 10 rfl rfl rfl rfl hP (M.sub (cc (cc (List.nil_sublist _)))) (fun w1 M => qh rfl rfl (fun w => (zy w).trans (by rw [hb30]))) λa A↦?_
         refine xn (by kernel_rfl) ?_
         refine hK29 _ _ (wp_cond_false (A.ev rfl) ?_)
         refine wp_skip (hK28 _ _ (wrl (sdm A λa A↦?_)))
         refine sdo (v := .int .i64 (((i + 1 : Nat) : Int))) A (qh rfl rfl (fun w => (xb (vt (by omega) (by omega)) w).trans (by rw [show (((i : Nat) : Int) + 1 : Int) = ((i + 1 : Nat) : Int) from by omega]))) λa A↦?_
         refine sda A λa A↦?_
         refine qa ?_
         refine hK23 _ _ _ (by omega) ⟨i + 1, rfl, ⟨by omega, fun j hj => if h9 : j < i then hin8 j h9 else by have h8 : j = i := (by omega); subst h8; exact qye hb30'⟩, A.keep _ (by repeat' constructor), M⟩
       ·
        have hb27' := of_decide_eq_false hb27
        refine sdc A zq hb27 λa A↦?_
        refine qa (hK26 _ _ (wp_cond_false (A.ev rfl) ?_))
        refine wp_exit (hK20 _ _ (wsk fun K32 hK32 => wsk fun K33 hK33 => wrl (sda A λa A↦?_)))
        refine qa (hK33 _ _ (wp_block ?_))
        have hrl : t.d.rl = u.d.rl := qrc (by omega) (fun j hj => hin8 j (by omega))
        have hsy := qud hb8' hb10' hb12' hrl (by omega) hb17
        refine jg (fun m_ a w1 => ∃ (j : Nat), m_ = 1 + (t.ts.length - j) ∧ (j ≤ t.ts.length ∧ ve (t.ts.map Dt.tr) (u.ts.map Dt.tr) = ve ((t.ts.map Dt.tr).drop j) ((u.ts.map Dt.tr).drop j)) ∧ Sl a 89 [(0, .agg (t.d.cells t.ts.length).toArray), (1, .agg (u.d.cells u.ts.length).toArray), (2, .pointer (some ⟨g2, 0, none⟩)), (3, .pointer (some ⟨g4, 0, none⟩)), (5, .int .i64 (((i : Nat) : Int))), (6, .int .i64 (((j : Nat) : Int))), (7, .pointer (some ⟨g2, 0, none⟩)), (8, .int .i64 t.d.k), (9, .pointer (some ⟨g4, 0, none⟩)), (10, .int .i64 u.d.k), (11, .bool false), (12, .bool false), (13, .pointer (some ⟨g2, 1, none⟩)), (14, .int .i64 t.d.n), (15, .pointer (some ⟨g4, 1, none⟩)), (16, .int .i64 u.d.n), (17, .bool false), (18, .bool false), (19, .bool false), (20, .pointer (some ⟨g2, 8, none⟩)), (21, .string t.d.s), (22, .pointer (some ⟨g4, 8, none⟩)), (23, .string u.d.s), (24, .bool false), (25, .bool false), (26, .bool false), (27, .pointer (some ⟨g2, 9, none⟩)), (28, .slice t.d.ro t.d.rl.length t.d.rc), (29, .int .i64 (((t.d.rl.length : Nat) : Int))), (30, .pointer (some ⟨g4, 9, none⟩)), (31, .slice u.d.ro u.d.rl.length u.d.rc), (32, .int .i64 (((u.d.rl.length : Nat) : Int))), (33, .bool false), (34, .bool false), (35, .bool false), (36, .pointer (some ⟨g2, 10, none⟩)), (37, .slice t.d.lo t.ts.length t.d.lc), (38, .int .i64 (((t.ts.length : Nat) : Int))), (39, .pointer (some ⟨g4, 10, none⟩)), (40, .slice u.d.lo u.ts.length u.d.lc), (41, .int .i64 (((u.ts.length : Nat) : Int))), (42, .bool false), (43, .bool false), (44, .bool false), (45, .pointer (some ⟨g2, 2, none⟩)), (46, .agg #[.bool t.d.y.q.b1, .slice t.d.y.o1 t.d.y.q.t1.length t.d.y.c1, .slice t.d.y.o2 t.d.y.q.q1.length t.d.y.c2, .bool t.d.y.q.b2, .slice t.d.y.o3 t.d.y.q.t2.length t.d.y.c3, .slice t.d.y.o4 t.d.y.q.q2.length t.d.y.c4]), (47, .pointer (some ⟨g4, 2, none⟩)), (48, .agg #[.bool u.d.y.q.b1, .slice u.d.y.o1 u.d.y.q.t1.length u.d.y.c1, .slice u.d.y.o2 u.d.y.q.q1.length u.d.y.c2, .bool u.d.y.q.b2, .slice u.d.y.o3 u.d.y.q.t2.length u.d.y.c3, .slice u.d.y.o4 u.d.y.q.q2.length u.d.y.c4]), (49, .bool true), (50, .bool false), (51, .bool false), (52, .int .i64 (((i : Nat) : Int))), (53, .pointer (some ⟨g2, 9, none⟩)), (54, .slice t.d.ro t.d.rl.length t.d.rc), (55, .int .i64 (((t.d.rl.length : Nat) : Int))), (56, .bool false)] ∧ Mg w w1 (.obj g4 (.cells (u.d.cells u.ts.length).toArray 31) :: .obj g2 (.cells (t.d.cells t.ts.length).toArray 31) :: [])) _ ⟨0, rfl, ⟨Nat.zero_le _, rfl⟩, A.keep _ (by repeat' constructor), M⟩ ?_
        clear M A
        rintro m_ a w34 ⟨j, rfl, hinv36, A, M⟩ K35 hK35
        obtain ⟨hi1, hin9⟩ := hinv36
        refine wsk fun K37 hK37 => wsk fun K38 hK38 => wrl (sdm A λa A↦?_)
        refine sdo (v := .pointer (some ⟨g2, 10, none⟩)) A (qb LiS_fld_31_5 rfl rfl) λa A↦?_
        refine sdo A (qs M LiS_is1_22 rfl 1 rfl rfl) λa A↦?_
        refine sdo A (qw Tryd.underlying22 rfl) λa A↦?_
        rcases tf (decide (((j : Nat) : Int) < ((t.ts.length : Nat) : Int))) with hb39 | hb39
        ·
         have hb39' := of_decide_eq_true hb39
         refine sdc A zq hb39 λa A↦?_
         refine qa (hK38 _ _ (wp_cond_true (A.ev rfl) ?_))
         refine wp_skip (hK37 _ _ (wsk fun K40 hK40 => wp_block (wsk fun K41 hK41 => ?_)))
         obtain ⟨t1, bt1, ot1, it1, mt1, rt1_, lt1, Ht1⟩ := qpa ht (i := j) (by omega)
         obtain ⟨u1, bu1, ou1, iu1, mu1, ru1_, lu1, Hu1⟩ := qpa hu (i := j) (by omega)
         refine vz (S := fun w1 => Mg w w1 (.obj g4 (.cells (u.d.cells u.ts.length).toArray 31) :: .obj g2 (.cells (t.d.cells t.ts.length).toArray 31) :: [])) (by kernel_rfl) ?_
         replace M := M.drew
         refine qk (v := .pointer (some ⟨g2, 10, none⟩)) A 0 rfl rfl rfl rfl hP (M.sub (cc (cc (List.nil_sublist _)))) (fun w1 M => qb LiS_fld_31_5 rfl rfl) λa A↦?_
         refine qk A 1 rfl rfl rfl rfl hP (M.sub (cc (cc (List.nil_sublist _)))) (fun w1 M => qs M LiS_is1_22 rfl 1 rfl rfl) λa A↦?_
         refine qk A 2 rfl rfl rfl rfl hP (M.sub (cc (cc (List.nil_sublist _)))) (fun w1 M => qz rfl) λa A↦?_
         refine qk (v := .pointer (some ⟨bt1, ot1 + j * 11, none⟩)) A 3 rfl rfl rfl rfl hP (M.sub (cc (cc (List.nil_sublist _)))) (fun w1 M => zp (k := j) Tryd.underlying22 (by kernel_rfl) rfl rfl rfl lt1 (by omega)) λa A↦?_
         refine qk A 4 rfl rfl rfl rfl hP (M.sub (cc (cc (List.nil_sublist _)))) (fun w1 M => zd M Ht1 LiS_isS_31 rfl rfl) λa A↦?_
         refine qk (v := .pointer (some ⟨g4, 10, none⟩)) A 5 rfl rfl rfl rfl hP (M.sub (cc (cc (List.nil_sublist _)))) (fun w1 M => qb LiS_fld_31_5 rfl rfl) λa A↦?_
         refine qk A 6 rfl rfl rfl rfl hP (M.sub (cc (cc (List.nil_sublist _)))) (fun w1 M => qs M LiS_is1_22 rfl 0 rfl rfl) λa A↦?_
         refine qk A 7 rfl rfl rfl rfl hP (M.sub (cc (cc (List.nil_sublist _)))) (fun w1 M => qz rfl) λa A↦?_
         refine qk (v := .pointer (some ⟨bu1, ou1 + j * 11, none⟩)) A 8 rfl rfl rfl rfl hP (M.sub (cc (cc (List.nil_sublist _)))) (fun w1 M => zp (k := j) Tryd.underlying22 (by kernel_rfl) rfl rfl rfl lu1 (by omega)) λa A↦?_
         refine qk A 9 rfl rfl rfl rfl hP (M.sub (cc (cc (List.nil_sublist _)))) (fun w1 M => zd M Hu1 LiS_isS_31 rfl rfl) λa A↦?_
         rcases tf (kl t1.tr u1.tr) with hb42 | hb42
         ·
          refine je (by kernel_rfl) (xz A 10 rfl rfl rfl rfl (ze rfl rfl (fun w => by kernel_rfl)) ((hb42 ▸ ih (by have := qne mt1; omega) (Dt.keep M.bel _ rt1_) (Dt.keep M.bel _ ru1_))) ?_)
          rintro _ w44 ⟨rfl, hb43⟩
          replace M := M.call hb43
          refine ⟨_, rfl, (M.sub (cc (cc (List.nil_sublist _)))), ?_⟩
          intro a A
          refine qk (v := .bool false) A 11 rfl rfl rfl rfl hP (M.sub (cc (cc (List.nil_sublist _)))) (fun w1 M => zm rfl zv) λa A↦?_
          refine xn (by kernel_rfl) ?_
          refine hK41 _ _ (wp_cond_false (A.ev rfl) ?_)
          refine wp_skip (hK40 _ _ (wrl (sdm A λa A↦?_)))
          refine sdo (v := .int .i64 (((j + 1 : Nat) : Int))) A (qh rfl rfl (fun w => (xb (vt (by omega) (by omega)) w).trans (by rw [show (((j : Nat) : Int) + 1 : Int) = ((j + 1 : Nat) : Int) from by omega]))) λa A↦?_
          refine sda A λa A↦?_
          refine qa ?_
          refine hK35 _ _ _ (by omega) ⟨j + 1, rfl, ⟨by omega, by rw [hin9, qji it1 iu1, hb42, Bool.true_and]⟩, A.keep _ (by repeat' constructor), M⟩
         ·
          refine je (by kernel_rfl) (xz A 10 rfl rfl rfl rfl (ze rfl rfl (fun w => by kernel_rfl)) ((hb42 ▸ ih (by have := qne mt1; omega) (Dt.keep M.bel _ rt1_) (Dt.keep M.bel _ ru1_))) ?_)
          rintro _ w46 ⟨rfl, hb45⟩
          replace M := M.call hb45
          refine ⟨_, rfl, (M.sub (cc (cc (List.nil_sublist _)))), ?_⟩
          intro a A
          refine qk (v := .bool true) A 11 rfl rfl rfl rfl hP (M.sub (cc (cc (List.nil_sublist _)))) (fun w1 M => zm rfl zv) λa A↦?_
          refine xn (by kernel_rfl) ?_
          refine hK41 _ _ (wp_cond_true (A.ev rfl) ?_)
          refine wsk fun K47 hK47 => wrl (sda A λa A↦?_)
          refine qa (hK47 _ _ (wp_ret (hret _ _ (en1 A rfl (qf rfl) ?_))))
          exact ⟨by rw [hsy, hin9, qji it1 iu1, hb42]; rfl, M.bel⟩
        ·
         have hb39' := of_decide_eq_false hb39
         refine sdc A zq hb39 λa A↦?_
         refine qa (hK38 _ _ (wp_cond_false (A.ev rfl) ?_))
         refine wp_exit (hK32 _ _ (wsk fun K48 hK48 => wrl (sda A λa A↦?_)))
         refine qa (hK48 _ _ (wp_ret (hret _ _ (en1 A rfl (qf rfl) ?_))))
         exact ⟨by rw [hsy, hin9, qrb (by omega)], M.bel⟩
      ·
       refine gcl A M (ef rfl rfl) (qcf (Dt.keep M.bel _ ht) (Dt.keep M.bel _ hu) hb17) fun w50 hb49 M a A => ?_
       refine sdo (v := .bool true) A (zm rfl zv) λa A↦?_
       refine sdk (v := .bool true) A λa A↦?_
       refine qa (hK7 _ _ (wp_cond_true (A.ev rfl) ?_))
       refine wsk fun K51 hK51 => wrl (sda A λa A↦?_)
       refine qa (hK51 _ _ (wp_ret (hret _ _ (en1 A rfl (qf rfl) ?_))))
       exact ⟨by rw [kj (.inr (.inr (.inr (.inr (.inr hb17)))))], M.bel⟩
   ·
    have hb12' := of_decide_eq_false hb12
    refine sdo (v := .bool true) A (qh rfl rfl (fun w => (qib Tryd.underlying9 w).trans (by rw [hb12] <;> rfl))) λa A↦?_
    refine sdk (v := .bool true) A λa A↦?_
    refine sdm A λa A↦?_
    iterate 7 refine qj A rfl rfl rfl λa A↦?_
    refine sdk (v := .bool true) A λa A↦?_
    refine sdm A λa A↦?_
    iterate 7 refine qj A rfl rfl rfl λa A↦?_
    refine sdk (v := .bool true) A λa A↦?_
    refine sdm A λa A↦?_
    iterate 6 refine qj A rfl rfl rfl λa A↦?_
    refine sdk (v := .bool true) A λa A↦?_
    refine qa (hK7 _ _ (wp_cond_true (A.ev rfl) ?_))
    refine wsk fun K52 hK52 => wrl (sda A λa A↦?_)
    refine qa (hK52 _ _ (wp_ret (hret _ _ (en1 A rfl (qf rfl) ?_))))
    exact ⟨by rw [kj (.inr (.inr (.inl hb12')))], M.bel⟩
theorem vl : ∀ n, RSames n
 | 0 => fun h => absurd h (Nat.not_lt_zero _)
 | n + 1 => qka (vl n)
theorem ja : ∀ a b : List Tr, zx (a ++ b) = zx a + zx b
  | [], b => by simp [zx]
  | t :: a, b => by rw [List.cons_append, zx, zx, ja a b]; omega
theorem qcg : ∀ a : List Tr, zx a.reverse = zx a
  | [] => rfl
  | t :: a => by rw [List.reverse_cons, ja, qcg a, zx, zx, zx]; omega
/-- A list is sound. -/
def OkL (L : List Tr) : Prop := L.all (kk 2) = true ∧ zx L + L.length + 1 ≤ 20000 ∧ L.all (jt qg) = true
theorem jo (L : List Tr) : qp qg (qr L nilT) = true ↔ OkL L := by
  rw [qcb]
  have h1 : kk 1 nilT = true := by rfl
  have h2 : jt qg nilT = true := by rfl
  have h3 : vr nilT = 1 := by rfl
  rw [h3]
  unfold OkL
  constructor
  · rintro ⟨⟨a, _⟩, b, c, _⟩; exact ⟨a, b, c⟩
  · rintro ⟨a, b, c⟩; exact ⟨⟨a, h1⟩, b, c, h2⟩
theorem OkL.of {L M : List Tr} (h : OkL L) (hm : ∀ x ∈ M, x ∈ L) (hn : zx M + M.length ≤ zx L + L.length) : OkL M := ⟨List.all_eq_true.2 fun x hx => List.all_eq_true.1 h.1 x (hm x hx), by have := h.2.1; omega, List.all_eq_true.2 fun x hx => List.all_eq_true.1 h.2.2 x (hm x hx)⟩
theorem qgi : qp qg jj = false := by rfl
theorem qof {A : List Tr} (h : OkL A) : ofS A = qr A nilT := by unfold ofS; rw [ku ((jo A).2 h)]
theorem um {A : List Tr} (h : qp qg (ofS A) = true) : OkL A ∧ ofS A = qr A nilT := by
  by_cases hc : qp qg (qr A nilT) = true
  · exact ⟨(jo A).1 hc, qof ((jo A).1 hc)⟩
  · unfold ofS at h
    rw [qgf (Bool.eq_false_iff.2 hc), qgi] at h
    cases h
theorem qyf {p q : Tr} : jf [p, q] = if (qp qg p && qp qg q) = true then (match zk p with | none => (jj, 10) | some P => fitS P q) else (jj, 2) := by
  unfold jf
  by_cases h : (qp qg p && qp qg q) = true
  · rw [if_pos h, if_neg (by simpa using h), if_neg (by simp)]
    show (match zt [p] with | none => _ | some xs => _) = _
    rw [zt, zt]
    cases zk p with
    | none => rfl
    | some P => simp only [List.append_nil]; rfl
  · rw [if_neg h, if_pos (by simpa using h)]
theorem qmi {P Q : List Tr} (hP : OkL P) (hQ : OkL Q) : jf [qr P nilT, qr Q nilT] = fitS (P ++ Q) nilT := by
  rw [qyf, (jo P).2 hP, (jo Q).2 hQ, if_pos (show (true && true) = true from rfl), jl]
  show fitS P (qr Q nilT) = _
  unfold fitS
  rw [← jq]
theorem qgj {P Q : List Tr} (h : OkL (P ++ Q)) : jf [qr P nilT, qr Q nilT] = (qr (P ++ Q) nilT, 0) := by
  have hP : OkL P := h.of (fun x hx => List.mem_append_left _ hx) (by rw [ja, List.length_append]; omega)
  have hQ : OkL Q := h.of (fun x hx => List.mem_append_right _ hx) (by rw [ja, List.length_append]; omega)
  rw [qmi hP hQ, ku ((jo _).2 h)]
theorem qee {p q : Tr} (h : (jf [p, q]).2 = 0) : (qp qg p = true ∧ qp qg q = true) ∧ ∃ P, zk p = some P ∧ qp qg (qr P q) = true ∧ jf [p, q] = (qr P q, 0) := by
  rw [qyf] at h ⊢
  by_cases hc : (qp qg p && qp qg q) = true
  · rw [if_pos hc] at h ⊢
    rw [Bool.and_eq_true] at hc
    cases ha : zk p with
    | none => rw [ha] at h; cases h
    | some P =>
      rw [ha] at h
      simp only at h
      by_cases hs : qp qg (qr P q) = true
      · exact ⟨hc, P, rfl, hs, by simp only; rw [ku hs]⟩
      · rw [qgf (Bool.eq_false_iff.2 hs)] at h; cases h
  · rw [if_neg hc] at h; cases h
theorem qwf {A B C : List Tr} (h : OkL (A ++ B ++ C)) : jf [qr A nilT, qr B nilT, qr C nilT] = (qr (A ++ B ++ C) nilT, 0) := by
  have hA : OkL A := h.of (fun x hx => List.mem_append_left _ (List.mem_append_left _ hx)) (by simp only [ja, List.length_append]; omega)
  have hB : OkL B := h.of (fun x hx => List.mem_append_left _ (List.mem_append_right _ hx)) (by simp only [ja, List.length_append]; omega)
  have hC : OkL C := h.of (fun x hx => List.mem_append_right _ hx) (by simp only [ja, List.length_append]; omega)
  unfold jf
  rw [if_neg (by simp [(jo A).2 hA, (jo B).2 hB, (jo C).2 hC]), if_neg (by simp)]
  show (match zt [qr A nilT, qr B nilT] with | none => _ | some xs => fitS xs (qr C nilT)) = _
  rw [zt, zt, zt, jl, jl]
  simp only [List.append_nil]
  rw [ku (by rw [← jq]; exact (jo _).2 h), ← jq]
theorem qha {A : List Tr} (h : OkL A) : ux (qr A nilT) = (qr A.reverse nilT, 0) := by
  unfold ux
  rw [if_neg (by rw [(jo A).2 h]; decide), jl]
theorem qwg {A B : List Tr} {n : Int} (h : OkL (A ++ B)) (hn : n = A.length) : ye (qr (A ++ B) nilT) n = (qr B nilT, 0) := by
  unfold ye
  rw [if_neg (by rw [(jo _).2 h]; decide), jl]
  show (if _ then _ else _) = _
  rw [if_neg (by rw [List.length_append]; omega), hn, Int.toNat_natCast, List.drop_left]
theorem qmj {A B C : List Tr} (h1 : (jf [ofS A, ofS B]).2 = 0) (h2 : (jf [(jf [ofS A, ofS B]).1, ofS C]).2 = 0) :
    (ye (jf [(jf [ofS A, ofS B]).1, ofS C]).1 ((A.length : Int) + B.length)).2 = 0 ∧ (jf [(jf [ofS A, ofS B]).1, ofS C]).1 = (jf [ofS A, (jf [ofS B, ofS C]).1]).1 ∧ (jf [(jf [ofS A, ofS B]).1, ofS C]).1 = (jf [ofS A, ofS B, ofS C]).1 ∧ (ye (jf [(jf [ofS A, ofS B]).1, ofS C]).1 ((A.length : Int) + B.length)).1 = ofS C ∧ (ux (jf [ofS A, ofS B]).1).1 = (jf [(ux (ofS B)).1, (ux (ofS A)).1]).1 := by
  obtain ⟨⟨sA, sB⟩, P, hP, hs, he⟩ := qee h1
  obtain ⟨oA, eA⟩ := um sA
  obtain ⟨oB, eB⟩ := um sB
  rw [eA, jl] at hP
  cases hP
  rw [eB] at hs
  rw [eA, eB] at he h2 ⊢
  rw [← jq] at hs he
  have oAB := (jo _).1 hs
  rw [he] at h2 ⊢
  simp only at h2 ⊢
  obtain ⟨⟨_, sC⟩, P, hP, hs2, he2⟩ := qee h2
  obtain ⟨oC, eC⟩ := um sC
  rw [jl] at hP
  cases hP
  rw [eC] at hs2 he2 ⊢
  rw [← jq] at hs2 he2
  have oABC := (jo _).1 hs2
  have oBC : OkL (B ++ C) := oABC.of (fun x hx => by rw [List.append_assoc]; exact List.mem_append_right _ hx) (by simp only [ja, List.length_append]; omega)
  have oR : OkL (B.reverse ++ A.reverse) := oAB.of (fun x hx => by rw [← List.reverse_append] at hx; exact List.mem_reverse.1 hx) (by simp only [ja, qcg, List.length_append, List.length_reverse]; omega)
  rw [he2, qgj oBC]
  simp only
  rw [qgj (by rw [← List.append_assoc]; exact oABC), qwf oABC, qwg (A := A ++ B) oABC (by rw [List.length_append]; omega), qha oAB, qha oA, qha oB]
  simp only
  rw [qgj oR, List.reverse_append, List.append_assoc]
  exact ⟨trivial, rfl, trivial, trivial, rfl⟩
/-! ### How much the answers hold -/
theorem qkb (xs : List Tr) (z : Tr) : (fitS xs z).1.bulk ≤ Tr.bulks xs + xs.length + z.bulk + 1 := by
  unfold fitS
  split
  · show (qr xs z).bulk ≤ _; rw [vi]; omega
  · show jj.bulk ≤ _; rw [show jj.bulk = 1 from rfl]; omega
theorem qyg : ∀ xs : List Tr, xs.length ≤ Tr.bulks xs
  | [] => Nat.le_refl _
  | t :: xs => by
    have := qyg xs
    have h2 : 1 ≤ t.bulk := by cases t; rw [xu]; omega
    rw [Tr.bulks, List.length_cons]; omega
theorem qad (xs : List Tr) : (ofS xs).bulk ≤ Tr.bulks xs + Tr.bulks xs + 2 := by
  have h1 := qkb xs nilT
  have h2 := qyg xs
  rw [show nilT.bulk = 1 from rfl] at h1
  unfold ofS
  omega
theorem qef : ∀ {L xs : List Tr}, zt L = some xs → Tr.bulks xs + xs.length ≤ Tr.bulks L
  | [], xs, h => by cases h; exact Nat.le_refl _
  | t :: L, xs, h => by
    rw [zt] at h
    cases h1 : zk t with
    | none => rw [h1] at h; cases h
    | some a =>
      cases h2 : zt L with
      | none => rw [h1, h2] at h; cases h
      | some b =>
        rw [h1, h2] at h
        cases h
        have h3 := xm h1
        have h4 := qef h2
        rw [jd, Tr.bulks, List.length_append]
        omega
theorem qrd {L : List Tr} (h : L ≠ []) : Tr.bulks (L.take (L.length - 1)) + (L.getD (L.length - 1) nilT).bulk = Tr.bulks L := by
  have hl : L.length - 1 < L.length := by have := List.length_pos_iff.2 h; omega
  conv => rhs; rw [← List.take_append_drop (L.length - 1) L, jd, List.drop_eq_getElem_cons hl, List.drop_of_length_le (by omega)]
  rw [List.getD_eq_getElem?_getD, List.getElem?_eq_getElem hl, Tr.bulks, Tr.bulks]
  rfl
theorem vx (L : List Tr) : (jf L).1.bulk ≤ Tr.bulks L + 1 := by
  unfold jf
  split
  · show jj.bulk ≤ _; rw [show jj.bulk = 1 from rfl]; omega
  · split
    · show nilT.bulk ≤ _; rw [show nilT.bulk = 1 from rfl]; omega
    · rename_i hne
      have hg := qrd hne
      cases hj : zt (L.take (L.length - 1)) with
      | none => show jj.bulk ≤ _; rw [show jj.bulk = 1 from rfl]; omega
      | some xs =>
        have h1 := qkb xs (L.getD (L.length - 1) nilT)
        have h2 := qef hj
        show (fitS xs _).1.bulk ≤ _
        omega
theorem qch (t : Tr) : (ux t).1.bulk ≤ t.bulk + 1 := by
  unfold ux
  split
  · show jj.bulk ≤ _; rw [show jj.bulk = 1 from rfl]; omega
  · cases h : zk t with
    | none => show jj.bulk ≤ _; rw [show jj.bulk = 1 from rfl]; omega
    | some xs =>
      have h1 := xm h
      have h2 : Tr.bulks xs.reverse = Tr.bulks xs := by
        have key : ∀ ts : List Tr, Tr.bulks ts.reverse = Tr.bulks ts := by
          intro ts
          induction ts with
          | nil => rfl
          | cons t ts ih => rw [List.reverse_cons, jd, ih, Tr.bulks, Tr.bulks, Tr.bulks]; omega
        exact key xs
      show (qr _ _).bulk ≤ _
      rw [vi, h2, List.length_reverse, show nilT.bulk = 1 from rfl]
      omega
/-! ### A fixed fact -/
def xa (k : Int) : Dt := .mk ⟨k, 0, ⟨Q6.zero, none, 0, none, 0, none, 0, none, 0⟩, ⟨#[]⟩, none, 0, [], none, 0⟩ []
theorem que : ux (ofS [(xa 2).tr, (xa 10).tr]) = (qr [(xa 10).tr, (xa 2).tr] nilT, 0) := by
  have h : OkL [(xa 2).tr, (xa 10).tr] := by
    unfold xa
    rw [Dt.tr_mk, Dt.tr_mk]
    exact ⟨by rfl, by decide, by rfl⟩
  rw [qof h, qha h]
  rfl
theorem quf (w : World) : ∀ t ∈ [xa 2, xa 10], t.rd w := fun t ht => by
  rcases List.mem_cons.1 ht with h | h
  · rw [h]; exact qac w 2 (by decide) (by decide)
  · rw [List.mem_singleton.1 h]; exact qac w 10 (by decide) (by decide)
theorem qre {t : Dt} {a b : Tr} (h : t.tr = .mk 8 0 Q6.zero ⟨#[]⟩ [] [a, b]) : t.d.k = 8 ∧ t.ts.length = 2 ∧ ∀ u, t.ts[0]? = some u → u.tr = a := by
  cases t with
  | mk d ts =>
    rw [Dt.tr_mk] at h
    injection h with h1 _ _ _ _ h2
    refine ⟨h1, ?_, fun u hu => ?_⟩
    · have := congrArg List.length h2; rw [List.length_map] at this; exact this
    · have := congrArg (fun l => l[0]?) h2
      simp only [List.getElem?_map] at this
      simp only [Dt.ts] at hu
      rw [hu] at this
      simpa using this
theorem LiJ_is1_22 : Is1 Tryd.prog 22 := ⟨⟨_, Tryd.underlying22, rfl⟩, by kernel_rfl⟩
theorem LiJ_is1_3 : Is1 Tryd.prog 3 := ⟨⟨_, Tryd.underlying3, rfl⟩, by kernel_rfl⟩
theorem LiJ_fld_31_0 : FieldAt Tryd.prog 31 0 0 := ⟨_, _, Tryd.underlying31, rfl, rfl, by kernel_rfl⟩
theorem LiJ_fld_31_5 : FieldAt Tryd.prog 31 5 10 := ⟨_, _, Tryd.underlying31, rfl, rfl, by kernel_rfl⟩
theorem LiJ_isS_31 : IsS Tryd.prog 31 11 := ⟨⟨_, Tryd.underlying31⟩, by kernel_rfl⟩
theorem ya {w : World} (hT : Tabs8 w) : Calls Tryd.prog 4 #[] w fun e w' => e = .returned (.bool true) ∧ Below w.heap.size w w' := by
 have M : Mg w w ([]) := Mg.start w
 refine qx (l := []) Tryd.func4 rfl Tryd.ntmps4 rfl rfl ?_
 intro Q hret hnorm hP a A
 refine wsk fun K1 hK1 => wrl (sda A λa A↦?_)
 refine qa (hK1 _ _ (wsk fun K2 hK2 => wrl (sdo (v := .agg #[.int .i64 2, .int .i64 0, .bool false, .slice none 0 0, .slice none 0 0, .bool false, .slice none 0 0, .slice none 0 0, .string (⟨#[]⟩), .slice none 0 0, .slice none 0 0]) A (zb rfl (fun w => by kernel_rfl)) λa A↦?_)))
 refine sdo (v := .agg #[.int .i64 10, .int .i64 0, .bool false, .slice none 0 0, .slice none 0 0, .bool false, .slice none 0 0, .slice none 0 0, .string (⟨#[]⟩), .slice none 0 0, .slice none 0 0]) A (zb rfl (fun w => by kernel_rfl)) λa A↦?_
 refine kd (e := 31) (sz := 11) (m := 2) (vs := cellsOf [xa 2, xa 10]) A M rfl rfl rfl (zh rfl (by kernel_rfl)) rfl rfl (.inl (by decide)) ?_
 intro g3 w4 M a A
 refine sct A (ef rfl rfl) (qgh (ts := [xa 2, xa 10]) (xw (M.has 0 rfl)).1 (quf _) (by decide) (hT.below M.bel)) ?_
 rintro _ w6 ⟨x, rfl, ⟨hrx, -, htx⟩, hb5⟩
 have hbx := qad [(xa 2).tr, (xa 10).tr]
 have hbx9 : Tr.bulks [(xa 2).tr, (xa 10).tr] = 2 := by rfl
 replace M := M.call hb5
 refine ⟨_, rfl, ?_⟩
 intro a A
 have hB1 := M.bel
 replace hT := hT.below M.bel
 replace M : Mg w6 w6 [] := Mg.start w6
 refine zn (vs := (qe.d.cells qe.ts.length)) (t := 31) A M rfl rfl rfl pg (ql (z := .agg (qe.d.cells qe.ts.length).toArray) (by kernel_rfl) rfl) (by decide) ?_
 intro g7 w8 M a A
 refine qt (us := (x.d.cells x.ts.length)) (L' := (.obj g7 (.cells (x.d.cells x.ts.length).toArray 31) :: [])) A M rfl rfl (qi rfl rfl rfl (by kernel_rfl) M 0 rfl rfl rfl) 0 rfl rfl rfl ?_
 intro w9 M
 refine qa (hK2 _ _ (wsk fun K10 hK10 => wrl (sdo A (za M LiJ_isS_31 rfl 0 rfl (cs := (x.d.cells x.ts.length)) rfl rfl) λa A↦?_)))
 refine sct A (ef rfl rfl) (vn (t := x) (Dt.keep M.bel _ hrx) (by have h9 : x.tr.bulk ≤ 6 := (by rw [htx]; show (ofS [(xa 2).tr, (xa 10).tr]).bulk ≤ 6; omega); omega) (hT.below M.bel)) ?_
 rintro _ w12 ⟨r, kr, rfl, ⟨hrr, -, htr⟩, hb11⟩
 replace M := M.call hb11
 refine ⟨_, rfl, ?_⟩
 intro a A
 have hB2 := hB1.trans (M.bel.mono hB1.size)
 replace hT := hT.below M.bel
 replace hrx := Dt.keep M.bel _ hrx
 have hHg7 := M.here 0 (cs := (x.d.cells x.ts.length)) rfl
 replace M : Mg w12 w12 [] := Mg.start w12
 refine sdm A λa A↦?_
 iterate 2 refine sdo A (qm (vs := [.agg (r.d.cells r.ts.length).toArray, .int .i64 kr]) rfl rfl) λa A↦?_
 refine zn (vs := (qe.d.cells qe.ts.length)) (t := 31) A M rfl rfl rfl pg (ql (z := .agg (qe.d.cells qe.ts.length).toArray) (by kernel_rfl) rfl) (by decide) ?_
 intro g13 w14 M a A
 refine qt (us := (r.d.cells r.ts.length)) (L' := (.obj g13 (.cells (r.d.cells r.ts.length).toArray 31) :: [])) A M rfl rfl (qi rfl rfl rfl (by kernel_rfl) M 0 rfl rfl rfl) 0 rfl rfl rfl ?_
 intro w15 M
 refine sda A λa A↦?_
 refine qa (hK10 _ _ (wsk fun K16 hK16 => ?_))
 have e9 : (r.tr, kr) = (qr [(xa 10).tr, (xa 2).tr] nilT, 0) := htr.trans (by rw [htx]; exact que)
 obtain ⟨f1, f2, f3⟩ := qre (congrArg Prod.fst e9)
 have f4 : kr = 0 := congrArg Prod.snd e9
 obtain ⟨r0, br0, or0, ir0, mr0, rr0_, lr0, Hr0⟩ := qpa hrr (i := 0) (by omega)
 have f5 : r0.d.k = 10 := by rw [← qxf, f3 _ ir0]; rfl
 refine wrl (sdm A λa A↦?_)
 refine sdo (v := .bool true) A (qh rfl rfl (fun w => (qn w).trans (by rw [show ((kr == 0)) = true from (beq_iff_eq.2 f4)]))) λa A↦?_
 refine sdm A λa A↦?_
 refine sdo (v := .pointer (some ⟨g13, 0, none⟩)) A (qb LiJ_fld_31_0 rfl rfl) λa A↦?_
 refine sdo A (qs M LiJ_is1_3 rfl 0 rfl rfl) λa A↦?_
 refine sdo (v := .bool true) A (qh rfl rfl (fun w => (qn w).trans (by rw [show ((r.d.k == 8)) = true from (beq_iff_eq.2 f1)]))) λa A↦?_
 refine sdk (v := .bool true) A λa A↦?_
 refine sdm A λa A↦?_
 refine sdo (v := .pointer (some ⟨g13, 10, none⟩)) A (qb LiJ_fld_31_5 rfl rfl) λa A↦?_
 refine sdo A (qs M LiJ_is1_22 rfl 0 rfl rfl) λa A↦?_
 refine sdo A (qw Tryd.underlying22 rfl) λa A↦?_
 refine sdo (v := .bool true) A (qh rfl rfl (fun w => (qn w).trans (by rw [show ((((r.ts.length : Nat) : Int) == 2)) = true from (beq_iff_eq.2 (by omega))]))) λa A↦?_
 refine sdk (v := .bool true) A λa A↦?_
 refine sdm A λa A↦?_
 refine sdo (v := .pointer (some ⟨g13, 10, none⟩)) A (qb LiJ_fld_31_5 rfl rfl) λa A↦?_
 refine sdo A (qs M LiJ_is1_22 rfl 0 rfl rfl) λa A↦?_
 refine sdo (v := .pointer (some ⟨br0, or0 + 0 * 11, none⟩)) A (zp (k := 0) Tryd.underlying22 (by kernel_rfl) rfl rfl rfl lr0 (by omega)) λa A↦?_
 refine sdo (v := .pointer (some ⟨br0, or0 + 0 * 11, none⟩)) A (qb LiJ_fld_31_0 rfl rfl) λa A↦?_
 refine sdo A (kw (j := 0) M Hr0 LiJ_is1_3 rfl rfl rfl) λa A↦?_
 refine sdo (v := .bool true) A (qh rfl rfl (fun w => (qn w).trans (by rw [show ((r0.d.k == 10)) = true from (beq_iff_eq.2 f5)]))) λa A↦?_
 refine sdk (v := .bool true) A λa A↦?_
 refine sda A λa A↦?_
 refine qa (hK16 _ _ (wp_ret (hret _ _ (en1 A rfl (qf rfl) ?_))))
 exact ⟨rfl, hB2.trans (M.bel.mono hB2.size)⟩
set_option maxHeartbeats 1000000 in
theorem qci {w : World} {sa sb sc : Option Addr} {ca cb cc : Nat} {la lb lc : List Dt} (hRa : Rt w sa la) (hDa : ∀ t ∈ la, t.rd w) (hRb : Rt w sb lb) (hDb : ∀ t ∈ lb, t.rd w) (hRc : Rt w sc lc) (hDc : ∀ t ∈ lc, t.rd w) (hT : Tabs8 w) (hba : Tr.bulks (la.map Dt.tr) + Tr.bulks (lb.map Dt.tr) + Tr.bulks (lc.map Dt.tr) ≤ 3145728) : Calls Tryd.prog 3 #[.slice sa la.length ca, .slice sb lb.length cb, .slice sc lc.length cc] w fun e w' => e = .returned (.bool true) ∧ Below w.heap.size w w' := by
 have hla := ji la
 have hlb := ji lb
 have hlc := ji lc
 have M : Mg w w ([]) := Mg.start w
 refine qx (l := [(0, .slice sa la.length ca), (1, .slice sb lb.length cb), (2, .slice sc lc.length cc)]) Tryd.func3 rfl Tryd.ntmps3 rfl rfl ?_
 intro Q hret hnorm hP a A
 refine wsk fun K1 hK1 => wrl (sda A λa A↦?_)
 refine qa (hK1 _ _ (wsk fun K2 hK2 => wsk fun K3 hK3 => wrl (sdm A λa A↦?_)))
 refine sdo A (qw Tryd.underlying22 rfl) λa A↦?_
 refine sdm A λa A↦?_
 refine sdo A (qw Tryd.underlying22 rfl) λa A↦?_
 refine sdo (v := .int .i64 (((la.length + lb.length : Nat) : Int))) A (qh rfl rfl (ar_add ((in_i64 (by omega) (by omega)).trans (by omega)))) λa A↦?_
 refine sdm A λa A↦?_
 refine sdo A (qw Tryd.underlying22 rfl) λa A↦?_
 refine sdo (v := .int .i64 (((la.length + lb.length + lc.length : Nat) : Int))) A (qh rfl rfl (ar_add ((in_i64 (by omega) (by omega)).trans (by omega)))) λa A↦?_
 rcases tf (decide (200 < ((la.length + lb.length + lc.length : Nat) : Int))) with hb4 | hb4
 ·
  have hb4' := of_decide_eq_true hb4
  refine sdc A vf hb4 λa A↦?_
  refine qa (hK3 _ _ (wp_cond_true (A.ev rfl) ?_))
  refine wsk fun K5 hK5 => wrl (sct A (ef rfl rfl) (ya (hT.below M.bel)) ?_)
  rintro _ w7 ⟨rfl, hb6⟩
  replace M := M.call hb6
  refine ⟨_, rfl, ?_⟩
  intro a A
  refine sda A λa A↦?_
  refine qa (hK5 _ _ (wp_ret (hret _ _ (en1 A rfl (qf rfl) ?_))))
  exact ⟨rfl, M.bel⟩
 ·
  have hb4' := of_decide_eq_false hb4
  refine sdc A vf hb4 λa A↦?_
  refine qa (hK3 _ _ (wp_cond_false (A.ev rfl) ?_))
  refine wp_skip (hK2 _ _ (wsk fun K8 hK8 => wrl (sdm A λa A↦?_)))
  refine sct A (ef rfl rfl) (qgh (hRa.below M.bel) (fun t ht => Dt.keep M.bel _ (hDa t ht)) (by omega) (hT.below M.bel)) ?_
  rintro _ w10 ⟨x, rfl, ⟨hrx, -, htx⟩, hb9⟩
  have hbx := qad (la.map Dt.tr)
  rw [← htx] at hbx
  replace M := M.call hb9
  refine ⟨_, rfl, ?_⟩
  intro a A
  have hB1 := M.bel
  replace hT := hT.below M.bel
  replace hRa := hRa.below M.bel
  replace hDa := fun t ht => Dt.keep M.bel _ (hDa t ht)
  replace hRb := hRb.below M.bel
  replace hDb := fun t ht => Dt.keep M.bel _ (hDb t ht)
  replace hRc := hRc.below M.bel
  replace hDc := fun t ht => Dt.keep M.bel _ (hDc t ht)
  replace M : Mg w10 w10 [] := Mg.start w10
  refine sdm A λa A↦?_
  refine sct A (ef rfl rfl) (qgh (hRb.below M.bel) (fun t ht => Dt.keep M.bel _ (hDb t ht)) (by omega) (hT.below M.bel)) ?_
  rintro _ w12 ⟨y, rfl, ⟨hry, -, hty⟩, hb11⟩
  have hby := qad (lb.map Dt.tr)
  rw [← hty] at hby
  replace M := M.call hb11
  refine ⟨_, rfl, ?_⟩
  intro a A
  have hB2 := hB1.trans (M.bel.mono hB1.size)
  replace hT := hT.below M.bel
  replace hRa := hRa.below M.bel
  replace hDa := fun t ht => Dt.keep M.bel _ (hDa t ht)
  replace hRb := hRb.below M.bel
  replace hDb := fun t ht => Dt.keep M.bel _ (hDb t ht)
  replace hRc := hRc.below M.bel
  replace hDc := fun t ht => Dt.keep M.bel _ (hDc t ht)
  replace hrx := Dt.keep M.bel _ hrx
  replace M : Mg w12 w12 [] := Mg.start w12
  refine sdm A λa A↦?_
  refine sct A (ef rfl rfl) (qgh (hRc.below M.bel) (fun t ht => Dt.keep M.bel _ (hDc t ht)) (by omega) (hT.below M.bel)) ?_
  rintro _ w14 ⟨z, rfl, ⟨hrz, -, htz⟩, hb13⟩
  have hbz := qad (lc.map Dt.tr)
  rw [← htz] at hbz
  replace M := M.call hb13
  refine ⟨_, rfl, ?_⟩
  intro a A
  have hB3 := hB2.trans (M.bel.mono hB2.size)
  replace hT := hT.below M.bel
  replace hRa := hRa.below M.bel
  replace hDa := fun t ht => Dt.keep M.bel _ (hDa t ht)
  replace hRb := hRb.below M.bel
  replace hDb := fun t ht => Dt.keep M.bel _ (hDb t ht)
  replace hRc := hRc.below M.bel
  replace hDc := fun t ht => Dt.keep M.bel _ (hDc t ht)
  replace hrx := Dt.keep M.bel _ hrx
  replace hry := Dt.keep M.bel _ hry
  replace M : Mg w14 w14 [] := Mg.start w14
  refine zn (vs := (qe.d.cells qe.ts.length)) (t := 31) A M rfl rfl rfl pg (ql (z := .agg (qe.d.cells qe.ts.length).toArray) (by kernel_rfl) rfl) (by decide) ?_
  intro g15 w16 M a A
  refine zn (vs := (qe.d.cells qe.ts.length)) (t := 31) A M rfl rfl rfl pg (ql (z := .agg (qe.d.cells qe.ts.length).toArray) (by kernel_rfl) rfl) (by decide) ?_
  intro g17 w18 M a A
  refine zn (vs := (qe.d.cells qe.ts.length)) (t := 31) A M rfl rfl rfl pg (ql (z := .agg (qe.d.cells qe.ts.length).toArray) (by kernel_rfl) rfl) (by decide) ?_
  intro g19 w20 M a A
  refine qt (us := (x.d.cells x.ts.length)) (L' := (.obj g19 (.cells (qe.d.cells qe.ts.length).toArray 31) :: .obj g17 (.cells (qe.d.cells qe.ts.length).toArray 31) :: .obj g15 (.cells (x.d.cells x.ts.length).toArray 31) :: [])) A M rfl rfl (qi rfl rfl rfl (by kernel_rfl) M 2 rfl rfl rfl) 2 rfl rfl rfl ?_
  intro w21 M
  refine qt (us := (y.d.cells y.ts.length)) (L' := (.obj g19 (.cells (qe.d.cells qe.ts.length).toArray 31) :: .obj g17 (.cells (y.d.cells y.ts.length).toArray 31) :: .obj g15 (.cells (x.d.cells x.ts.length).toArray 31) :: [])) A M rfl rfl (qi rfl rfl rfl (by kernel_rfl) M 1 rfl rfl rfl) 1 rfl rfl rfl ?_
  intro w22 M
  refine qt (us := (z.d.cells z.ts.length)) (L' := (.obj g19 (.cells (z.d.cells z.ts.length).toArray 31) :: .obj g17 (.cells (y.d.cells y.ts.length).toArray 31) :: .obj g15 (.cells (x.d.cells x.ts.length).toArray 31) :: [])) A M rfl rfl (qi rfl rfl rfl (by kernel_rfl) M 0 rfl rfl rfl) 0 rfl rfl rfl ?_
  intro w23 M
  refine qa (hK8 _ _ (wsk fun K24 hK24 => wrl (sdo A (za M LiJ_isS_31 rfl 2 rfl (cs := (x.d.cells x.ts.length)) rfl rfl) λa A↦?_)))
  refine sdo A (za M LiJ_isS_31 rfl 1 rfl (cs := (y.d.cells y.ts.length)) rfl rfl) λa A↦?_
  refine kd (e := 31) (sz := 11) (m := 2) (vs := cellsOf [x, y]) A M rfl rfl rfl (zh rfl (by kernel_rfl)) rfl rfl (.inl (by decide)) ?_
  intro g25 w26 M a A
  refine sct A (ef rfl rfl) (xx (ts := [x, y]) (xw (M.has 0 rfl)).1 (fun t ht => by simp only [List.mem_cons, List.not_mem_nil, or_false] at ht; rcases ht with rfl | rfl <;> exact Dt.keep M.bel _ (by assumption)) (by simp) (by simp only [List.map_cons, List.map_nil, Tr.bulks]; omega) (hT.below M.bel)) ?_
  rintro _ w28 ⟨xy, kxy, rfl, ⟨hrxy, -, htxy⟩, hb27⟩
  replace htxy : (xy.tr, kxy) = jf [x.tr, y.tr] := htxy
  have hbxy := vx [x.tr, y.tr]
  rw [← htxy] at hbxy
  simp only [Tr.bulks] at hbxy
  replace M := M.call hb27
  refine ⟨_, rfl, ?_⟩
  intro a A
  have hB4 := hB3.trans (M.bel.mono hB3.size)
  replace hT := hT.below M.bel
  replace hRa := hRa.below M.bel
  replace hDa := fun t ht => Dt.keep M.bel _ (hDa t ht)
  replace hRb := hRb.below M.bel
  replace hDb := fun t ht => Dt.keep M.bel _ (hDb t ht)
  replace hRc := hRc.below M.bel
  replace hDc := fun t ht => Dt.keep M.bel _ (hDc t ht)
  replace hrx := Dt.keep M.bel _ hrx
  replace hry := Dt.keep M.bel _ hry
  replace hrz := Dt.keep M.bel _ hrz
  have hHg19 := M.here 1 (cs := (z.d.cells z.ts.length)) rfl
  have hHg17 := M.here 2 (cs := (y.d.cells y.ts.length)) rfl
  have hHg15 := M.here 3 (cs := (x.d.cells x.ts.length)) rfl
  replace M : Mg w28 w28 [] := Mg.start w28
  refine sdm A λa A↦?_
  iterate 2 refine sdo A (qm (vs := [.agg (xy.d.cells xy.ts.length).toArray, .int .i64 kxy]) rfl rfl) λa A↦?_
  refine zn (vs := (qe.d.cells qe.ts.length)) (t := 31) A M rfl rfl rfl pg (ql (z := .agg (qe.d.cells qe.ts.length).toArray) (by kernel_rfl) rfl) (by decide) ?_
  intro g29 w30 M a A
  refine qt (us := (xy.d.cells xy.ts.length)) (L' := (.obj g29 (.cells (xy.d.cells xy.ts.length).toArray 31) :: [])) A M rfl rfl (qi rfl rfl rfl (by kernel_rfl) M 0 rfl rfl rfl) 0 rfl rfl rfl ?_
  intro w31 M
  refine sda A λa A↦?_
  refine qa (hK24 _ _ (wsk fun K32 hK32 => wrl (sdo A (za M LiJ_isS_31 rfl 0 rfl (cs := (xy.d.cells xy.ts.length)) rfl rfl) λa A↦?_)))
  refine sdo A (zd M hHg19 LiJ_isS_31 rfl rfl) λa A↦?_
  refine kd (e := 31) (sz := 11) (m := 2) (vs := cellsOf [xy, z]) A M rfl rfl rfl (zh rfl (by kernel_rfl)) rfl rfl (.inl (by decide)) ?_
  intro g33 w34 M a A
  refine sct A (ef rfl rfl) (xx (ts := [xy, z]) (xw (M.has 0 rfl)).1 (fun t ht => by simp only [List.mem_cons, List.not_mem_nil, or_false] at ht; rcases ht with rfl | rfl <;> exact Dt.keep M.bel _ (by assumption)) (by simp) (by simp only [List.map_cons, List.map_nil, Tr.bulks]; omega) (hT.below M.bel)) ?_
  rintro _ w36 ⟨le, kle, rfl, ⟨hrle, -, htle⟩, hb35⟩
  replace htle : (le.tr, kle) = jf [xy.tr, z.tr] := htle
  have hble := vx [xy.tr, z.tr]
  rw [← htle] at hble
  simp only [Tr.bulks] at hble
  replace M := M.call hb35
  refine ⟨_, rfl, ?_⟩
  intro a A
  have hB5 := hB4.trans (M.bel.mono hB4.size)
  replace hT := hT.below M.bel
  replace hHg19 := hHg19.below M.bel
  replace hHg17 := hHg17.below M.bel
  replace hHg15 := hHg15.below M.bel
  replace hRa := hRa.below M.bel
  replace hDa := fun t ht => Dt.keep M.bel _ (hDa t ht)
  replace hRb := hRb.below M.bel
  replace hDb := fun t ht => Dt.keep M.bel _ (hDb t ht)
  replace hRc := hRc.below M.bel
  replace hDc := fun t ht => Dt.keep M.bel _ (hDc t ht)
  replace hrx := Dt.keep M.bel _ hrx
  replace hry := Dt.keep M.bel _ hry
  replace hrz := Dt.keep M.bel _ hrz
  replace hrxy := Dt.keep M.bel _ hrxy
  have hHg29 := M.here 1 (cs := (xy.d.cells xy.ts.length)) rfl
  replace M : Mg w36 w36 [] := Mg.start w36
  refine sdm A λa A↦?_
  iterate 2 refine sdo A (qm (vs := [.agg (le.d.cells le.ts.length).toArray, .int .i64 kle]) rfl rfl) λa A↦?_
  refine zn (vs := (qe.d.cells qe.ts.length)) (t := 31) A M rfl rfl rfl pg (ql (z := .agg (qe.d.cells qe.ts.length).toArray) (by kernel_rfl) rfl) (by decide) ?_
  intro g37 w38 M a A
  refine qt (us := (le.d.cells le.ts.length)) (L' := (.obj g37 (.cells (le.d.cells le.ts.length).toArray 31) :: [])) A M rfl rfl (qi rfl rfl rfl (by kernel_rfl) M 0 rfl rfl rfl) 0 rfl rfl rfl ?_
  intro w39 M
  refine sda A λa A↦?_
  refine qa (hK32 _ _ (wsk fun K40 hK40 => wsk fun K41 hK41 => wrl (sct A (ef rfl rfl) (ya (hT.below M.bel)) ?_)))
  rintro _ w43 ⟨rfl, hb42⟩
  replace M := M.call hb42
  refine ⟨_, rfl, ?_⟩
  intro a A
  refine sdo (v := .bool false) A (zm rfl zv) λa A↦?_
  iterate 2 refine sdm A λa A↦?_
  rcases tf ((kxy != 0)) with hb44 | hb44
  ·
   have hb44' := bne_iff_ne.1 hb44
   refine sdc A zy hb44 λa A↦?_
   refine sdk (v := .bool true) A λa A↦?_
   refine sdm A λa A↦?_
   iterate 2 refine qj A rfl rfl rfl λa A↦?_
   refine sdk (v := .bool true) A λa A↦?_
   refine qa (hK41 _ _ (wp_cond_true (A.ev rfl) ?_))
   refine wsk fun K45 hK45 => wrl (sct A (ef rfl rfl) (ya (hT.below M.bel)) ?_)
   rintro _ w47 ⟨rfl, hb46⟩
   replace M := M.call hb46
   refine ⟨_, rfl, ?_⟩
   intro a A
   refine sda A λa A↦?_
   refine qa (hK45 _ _ (wp_ret (hret _ _ (en1 A rfl (qf rfl) ?_))))
   exact ⟨rfl, hB5.trans (M.bel.mono hB5.size)⟩
  ·
   have hb44' := bne_eq_false_iff_eq.1 hb44
   refine sdc A zy hb44 λa A↦?_
   refine sdk (v := .bool false) A λa A↦?_
   iterate 2 refine sdm A λa A↦?_
   rcases tf ((kle != 0)) with hb48 | hb48
   ·
    have hb48' := bne_iff_ne.1 hb48
    refine sdc A zy hb48 λa A↦?_
    refine sdk (v := .bool true) A λa A↦?_
    refine qa (hK41 _ _ (wp_cond_true (A.ev rfl) ?_))
    refine wsk fun K49 hK49 => wrl (sct A (ef rfl rfl) (ya (hT.below M.bel)) ?_)
    rintro _ w51 ⟨rfl, hb50⟩
    replace M := M.call hb50
    refine ⟨_, rfl, ?_⟩
    intro a A
    refine sda A λa A↦?_
    refine qa (hK49 _ _ (wp_ret (hret _ _ (en1 A rfl (qf rfl) ?_))))
    exact ⟨rfl, hB5.trans (M.bel.mono hB5.size)⟩
   ·
    have hb48' := bne_eq_false_iff_eq.1 hb48
    refine sdc A zy hb48 λa A↦?_
    refine sdk (v := .bool false) A λa A↦?_
    refine qa (hK41 _ _ (wp_cond_false (A.ev rfl) ?_))
    refine wp_skip (hK40 _ _ (wsk fun K52 hK52 => wrl (sdo A (zd M hHg17 LiJ_isS_31 rfl rfl) λa A↦?_)))
    refine sdo A (zd M hHg19 LiJ_isS_31 rfl rfl) λa A↦?_
    refine kd (e := 31) (sz := 11) (m := 2) (vs := cellsOf [y, z]) A M rfl rfl rfl (zh rfl (by kernel_rfl)) rfl rfl (.inl (by decide)) ?_
    intro g53 w54 M a A
    refine sct A (ef rfl rfl) (xx (ts := [y, z]) (xw (M.has 0 rfl)).1 (fun t ht => by simp only [List.mem_cons, List.not_mem_nil, or_false] at ht; rcases ht with rfl | rfl <;> exact Dt.keep M.bel _ (by assumption)) (by simp) (by simp only [List.map_cons, List.map_nil, Tr.bulks]; omega) (hT.below M.bel)) ?_
    rintro _ w56 ⟨yz, kyz, rfl, ⟨hryz, -, htyz⟩, hb55⟩
    replace htyz : (yz.tr, kyz) = jf [y.tr, z.tr] := htyz
    have hbyz := vx [y.tr, z.tr]
    rw [← htyz] at hbyz
    simp only [Tr.bulks] at hbyz
    replace M := M.call hb55
    refine ⟨_, rfl, ?_⟩
    intro a A
    have hB6 := hB5.trans (M.bel.mono hB5.size)
    replace hT := hT.below M.bel
    replace hHg19 := hHg19.below M.bel
    replace hHg17 := hHg17.below M.bel
    replace hHg15 := hHg15.below M.bel
    replace hHg29 := hHg29.below M.bel
    replace hRa := hRa.below M.bel
    replace hDa := fun t ht => Dt.keep M.bel _ (hDa t ht)
    replace hRb := hRb.below M.bel
    replace hDb := fun t ht => Dt.keep M.bel _ (hDb t ht)
    replace hRc := hRc.below M.bel
    replace hDc := fun t ht => Dt.keep M.bel _ (hDc t ht)
    replace hrx := Dt.keep M.bel _ hrx
    replace hry := Dt.keep M.bel _ hry
    replace hrz := Dt.keep M.bel _ hrz
    replace hrxy := Dt.keep M.bel _ hrxy
    replace hrle := Dt.keep M.bel _ hrle
    have hHg37 := M.here 1 (cs := (le.d.cells le.ts.length)) rfl
    replace M : Mg w56 w56 [] := Mg.start w56
    refine sdm A λa A↦?_
    iterate 2 refine sdo A (qm (vs := [.agg (yz.d.cells yz.ts.length).toArray, .int .i64 kyz]) rfl rfl) λa A↦?_
    refine zn (vs := (qe.d.cells qe.ts.length)) (t := 31) A M rfl rfl rfl pg (ql (z := .agg (qe.d.cells qe.ts.length).toArray) (by kernel_rfl) rfl) (by decide) ?_
    intro g57 w58 M a A
    refine qt (us := (yz.d.cells yz.ts.length)) (L' := (.obj g57 (.cells (yz.d.cells yz.ts.length).toArray 31) :: [])) A M rfl rfl (qi rfl rfl rfl (by kernel_rfl) M 0 rfl rfl rfl) 0 rfl rfl rfl ?_
    intro w59 M
    refine sda A λa A↦?_
    refine qa (hK52 _ _ (wsk fun K60 hK60 => wrl (sdo A (zd M hHg15 LiJ_isS_31 rfl rfl) λa A↦?_)))
    refine sdo A (za M LiJ_isS_31 rfl 0 rfl (cs := (yz.d.cells yz.ts.length)) rfl rfl) λa A↦?_
    refine kd (e := 31) (sz := 11) (m := 2) (vs := cellsOf [x, yz]) A M rfl rfl rfl (zh rfl (by kernel_rfl)) rfl rfl (.inl (by decide)) ?_
    intro g61 w62 M a A
    refine sct A (ef rfl rfl) (xx (ts := [x, yz]) (xw (M.has 0 rfl)).1 (fun t ht => by simp only [List.mem_cons, List.not_mem_nil, or_false] at ht; rcases ht with rfl | rfl <;> exact Dt.keep M.bel _ (by assumption)) (by simp) (by simp only [List.map_cons, List.map_nil, Tr.bulks]; omega) (hT.below M.bel)) ?_
    rintro _ w64 ⟨ri, kri, rfl, ⟨hrri, -, htri⟩, hb63⟩
    replace htri : (ri.tr, kri) = jf [x.tr, yz.tr] := htri
    have hbri := vx [x.tr, yz.tr]
    rw [← htri] at hbri
    simp only [Tr.bulks] at hbri
    replace M := M.call hb63
    refine ⟨_, rfl, ?_⟩
    intro a A
    have hB7 := hB6.trans (M.bel.mono hB6.size)
    replace hT := hT.below M.bel
    replace hHg19 := hHg19.below M.bel
    replace hHg17 := hHg17.below M.bel
    replace hHg15 := hHg15.below M.bel
    replace hHg29 := hHg29.below M.bel
    replace hHg37 := hHg37.below M.bel
    replace hRa := hRa.below M.bel
    replace hDa := fun t ht => Dt.keep M.bel _ (hDa t ht)
    replace hRb := hRb.below M.bel
    replace hDb := fun t ht => Dt.keep M.bel _ (hDb t ht)
    replace hRc := hRc.below M.bel
    replace hDc := fun t ht => Dt.keep M.bel _ (hDc t ht)
    replace hrx := Dt.keep M.bel _ hrx
    replace hry := Dt.keep M.bel _ hry
    replace hrz := Dt.keep M.bel _ hrz
    replace hrxy := Dt.keep M.bel _ hrxy
    replace hrle := Dt.keep M.bel _ hrle
    replace hryz := Dt.keep M.bel _ hryz
    have hHg57 := M.here 1 (cs := (yz.d.cells yz.ts.length)) rfl
    replace M : Mg w64 w64 [] := Mg.start w64
    refine sdm A λa A↦?_
    iterate 2 refine sdo A (qm (vs := [.agg (ri.d.cells ri.ts.length).toArray, .int .i64 kri]) rfl rfl) λa A↦?_
    refine zn (vs := (qe.d.cells qe.ts.length)) (t := 31) A M rfl rfl rfl pg (ql (z := .agg (qe.d.cells qe.ts.length).toArray) (by kernel_rfl) rfl) (by decide) ?_
    intro g65 w66 M a A
    refine qt (us := (ri.d.cells ri.ts.length)) (L' := (.obj g65 (.cells (ri.d.cells ri.ts.length).toArray 31) :: [])) A M rfl rfl (qi rfl rfl rfl (by kernel_rfl) M 0 rfl rfl rfl) 0 rfl rfl rfl ?_
    intro w67 M
    refine sda A λa A↦?_
    refine qa (hK60 _ _ (wsk fun K68 hK68 => wrl (sdo A (zd M hHg15 LiJ_isS_31 rfl rfl) λa A↦?_)))
    refine sdo A (zd M hHg17 LiJ_isS_31 rfl rfl) λa A↦?_
    refine sdo A (zd M hHg19 LiJ_isS_31 rfl rfl) λa A↦?_
    refine kd (e := 31) (sz := 11) (m := 3) (vs := cellsOf [x, y, z]) A M rfl rfl rfl (zh rfl (by kernel_rfl)) rfl rfl (.inl (by decide)) ?_
    intro g69 w70 M a A
    refine sct A (ef rfl rfl) (xx (ts := [x, y, z]) (xw (M.has 0 rfl)).1 (fun t ht => by simp only [List.mem_cons, List.not_mem_nil, or_false] at ht; rcases ht with rfl | rfl | rfl <;> exact Dt.keep M.bel _ (by assumption)) (by simp) (by simp only [List.map_cons, List.map_nil, Tr.bulks]; omega) (hT.below M.bel)) ?_
    rintro _ w72 ⟨al, kal, rfl, ⟨hral, -, htal⟩, hb71⟩
    replace htal : (al.tr, kal) = jf [x.tr, y.tr, z.tr] := htal
    have hbal := vx [x.tr, y.tr, z.tr]
    rw [← htal] at hbal
    simp only [Tr.bulks] at hbal
    replace M := M.call hb71
    refine ⟨_, rfl, ?_⟩
    intro a A
    have hB8 := hB7.trans (M.bel.mono hB7.size)
    replace hT := hT.below M.bel
    replace hHg19 := hHg19.below M.bel
    replace hHg17 := hHg17.below M.bel
    replace hHg15 := hHg15.below M.bel
    replace hHg29 := hHg29.below M.bel
    replace hHg37 := hHg37.below M.bel
    replace hHg57 := hHg57.below M.bel
    replace hRa := hRa.below M.bel
    replace hDa := fun t ht => Dt.keep M.bel _ (hDa t ht)
    replace hRb := hRb.below M.bel
    replace hDb := fun t ht => Dt.keep M.bel _ (hDb t ht)
    replace hRc := hRc.below M.bel
    replace hDc := fun t ht => Dt.keep M.bel _ (hDc t ht)
    replace hrx := Dt.keep M.bel _ hrx
    replace hry := Dt.keep M.bel _ hry
    replace hrz := Dt.keep M.bel _ hrz
    replace hrxy := Dt.keep M.bel _ hrxy
    replace hrle := Dt.keep M.bel _ hrle
    replace hryz := Dt.keep M.bel _ hryz
    replace hrri := Dt.keep M.bel _ hrri
    have hHg65 := M.here 1 (cs := (ri.d.cells ri.ts.length)) rfl
    replace M : Mg w72 w72 [] := Mg.start w72
    refine sdm A λa A↦?_
    iterate 2 refine sdo A (qm (vs := [.agg (al.d.cells al.ts.length).toArray, .int .i64 kal]) rfl rfl) λa A↦?_
    refine zn (vs := (qe.d.cells qe.ts.length)) (t := 31) A M rfl rfl rfl pg (ql (z := .agg (qe.d.cells qe.ts.length).toArray) (by kernel_rfl) rfl) (by decide) ?_
    intro g73 w74 M a A
    refine qt (us := (al.d.cells al.ts.length)) (L' := (.obj g73 (.cells (al.d.cells al.ts.length).toArray 31) :: [])) A M rfl rfl (qi rfl rfl rfl (by kernel_rfl) M 0 rfl rfl rfl) 0 rfl rfl rfl ?_
    intro w75 M
    refine sda A λa A↦?_
    refine qa (hK68 _ _ (wsk fun K76 hK76 => wrl (sdo A (zd M hHg37 LiJ_isS_31 rfl rfl) λa A↦?_)))
    refine sdm A λa A↦?_
    refine sdo A (qw Tryd.underlying22 rfl) λa A↦?_
    refine sdm A λa A↦?_
    refine sdo A (qw Tryd.underlying22 rfl) λa A↦?_
    refine sdo (v := .int .i64 (((la.length + lb.length : Nat) : Int))) A (qh rfl rfl (ar_add ((in_i64 (by omega) (by omega)).trans (by omega)))) λa A↦?_
    refine sct A (ef rfl rfl) (qub (t := le) (Dt.keep M.bel _ hrle) (by omega) (hT.below M.bel)) ?_
    rintro _ w78 ⟨tl, ktl, rfl, ⟨hrtl, -, httl⟩, hb77⟩
    replace M := M.call hb77
    refine ⟨_, rfl, ?_⟩
    intro a A
    have hB9 := hB8.trans (M.bel.mono hB8.size)
    replace hT := hT.below M.bel
    replace hHg19 := hHg19.below M.bel
    replace hHg17 := hHg17.below M.bel
    replace hHg15 := hHg15.below M.bel
    replace hHg29 := hHg29.below M.bel
    replace hHg37 := hHg37.below M.bel
    replace hHg57 := hHg57.below M.bel
    replace hHg65 := hHg65.below M.bel
    replace hRa := hRa.below M.bel
    replace hDa := fun t ht => Dt.keep M.bel _ (hDa t ht)
    replace hRb := hRb.below M.bel
    replace hDb := fun t ht => Dt.keep M.bel _ (hDb t ht)
    replace hRc := hRc.below M.bel
    replace hDc := fun t ht => Dt.keep M.bel _ (hDc t ht)
    replace hrx := Dt.keep M.bel _ hrx
    replace hry := Dt.keep M.bel _ hry
    replace hrz := Dt.keep M.bel _ hrz
    replace hrxy := Dt.keep M.bel _ hrxy
    replace hrle := Dt.keep M.bel _ hrle
    replace hryz := Dt.keep M.bel _ hryz
    replace hrri := Dt.keep M.bel _ hrri
    replace hral := Dt.keep M.bel _ hral
    have hHg73 := M.here 0 (cs := (al.d.cells al.ts.length)) rfl
    replace M : Mg w78 w78 [] := Mg.start w78
    refine sdm A λa A↦?_
    iterate 2 refine sdo A (qm (vs := [.agg (tl.d.cells tl.ts.length).toArray, .int .i64 ktl]) rfl rfl) λa A↦?_
    refine zn (vs := (qe.d.cells qe.ts.length)) (t := 31) A M rfl rfl rfl pg (ql (z := .agg (qe.d.cells qe.ts.length).toArray) (by kernel_rfl) rfl) (by decide) ?_
    intro g79 w80 M a A
    refine qt (us := (tl.d.cells tl.ts.length)) (L' := (.obj g79 (.cells (tl.d.cells tl.ts.length).toArray 31) :: [])) A M rfl rfl (qi rfl rfl rfl (by kernel_rfl) M 0 rfl rfl rfl) 0 rfl rfl rfl ?_
    intro w81 M
    refine sda A λa A↦?_
    refine qa (hK76 _ _ (wsk fun K82 hK82 => wrl (sdo A (zd M hHg29 LiJ_isS_31 rfl rfl) λa A↦?_)))
    refine sct A (ef rfl rfl) (vn (t := xy) (Dt.keep M.bel _ hrxy) (by omega) (hT.below M.bel)) ?_
    rintro _ w84 ⟨rr, krr, rfl, ⟨hrrr, -, htrr⟩, hb83⟩
    have hbrr := qch xy.tr
    rw [← htrr] at hbrr
    simp only at hbrr
    replace M := M.call hb83
    refine ⟨_, rfl, ?_⟩
    intro a A
    have hB10 := hB9.trans (M.bel.mono hB9.size)
    replace hT := hT.below M.bel
    replace hHg19 := hHg19.below M.bel
    replace hHg17 := hHg17.below M.bel
    replace hHg15 := hHg15.below M.bel
    replace hHg29 := hHg29.below M.bel
    replace hHg37 := hHg37.below M.bel
    replace hHg57 := hHg57.below M.bel
    replace hHg65 := hHg65.below M.bel
    replace hHg73 := hHg73.below M.bel
    replace hRa := hRa.below M.bel
    replace hDa := fun t ht => Dt.keep M.bel _ (hDa t ht)
    replace hRb := hRb.below M.bel
    replace hDb := fun t ht => Dt.keep M.bel _ (hDb t ht)
    replace hRc := hRc.below M.bel
    replace hDc := fun t ht => Dt.keep M.bel _ (hDc t ht)
    replace hrx := Dt.keep M.bel _ hrx
    replace hry := Dt.keep M.bel _ hry
    replace hrz := Dt.keep M.bel _ hrz
    replace hrxy := Dt.keep M.bel _ hrxy
    replace hrle := Dt.keep M.bel _ hrle
    replace hryz := Dt.keep M.bel _ hryz
    replace hrri := Dt.keep M.bel _ hrri
    replace hral := Dt.keep M.bel _ hral
    replace hrtl := Dt.keep M.bel _ hrtl
    have hHg79 := M.here 0 (cs := (tl.d.cells tl.ts.length)) rfl
    replace M : Mg w84 w84 [] := Mg.start w84
    refine sdm A λa A↦?_
    iterate 2 refine sdo A (qm (vs := [.agg (rr.d.cells rr.ts.length).toArray, .int .i64 krr]) rfl rfl) λa A↦?_
    refine zn (vs := (qe.d.cells qe.ts.length)) (t := 31) A M rfl rfl rfl pg (ql (z := .agg (qe.d.cells qe.ts.length).toArray) (by kernel_rfl) rfl) (by decide) ?_
    intro g85 w86 M a A
    refine qt (us := (rr.d.cells rr.ts.length)) (L' := (.obj g85 (.cells (rr.d.cells rr.ts.length).toArray 31) :: [])) A M rfl rfl (qi rfl rfl rfl (by kernel_rfl) M 0 rfl rfl rfl) 0 rfl rfl rfl ?_
    intro w87 M
    refine sda A λa A↦?_
    refine qa (hK82 _ _ (wsk fun K88 hK88 => wrl (sdo A (zd M hHg15 LiJ_isS_31 rfl rfl) λa A↦?_)))
    refine sct A (ef rfl rfl) (vn (t := x) (Dt.keep M.bel _ hrx) (by omega) (hT.below M.bel)) ?_
    rintro _ w90 ⟨rx, krx, rfl, ⟨hrrx, -, htrx⟩, hb89⟩
    have hbrx := qch x.tr
    rw [← htrx] at hbrx
    simp only at hbrx
    replace M := M.call hb89
    refine ⟨_, rfl, ?_⟩
    intro a A
    have hB11 := hB10.trans (M.bel.mono hB10.size)
    replace hT := hT.below M.bel
    replace hHg19 := hHg19.below M.bel
    replace hHg17 := hHg17.below M.bel
    replace hHg15 := hHg15.below M.bel
    replace hHg29 := hHg29.below M.bel
    replace hHg37 := hHg37.below M.bel
    replace hHg57 := hHg57.below M.bel
    replace hHg65 := hHg65.below M.bel
    replace hHg73 := hHg73.below M.bel
    replace hHg79 := hHg79.below M.bel
    replace hRa := hRa.below M.bel
    replace hDa := fun t ht => Dt.keep M.bel _ (hDa t ht)
    replace hRb := hRb.below M.bel
    replace hDb := fun t ht => Dt.keep M.bel _ (hDb t ht)
    replace hRc := hRc.below M.bel
    replace hDc := fun t ht => Dt.keep M.bel _ (hDc t ht)
    replace hrx := Dt.keep M.bel _ hrx
    replace hry := Dt.keep M.bel _ hry
    replace hrz := Dt.keep M.bel _ hrz
    replace hrxy := Dt.keep M.bel _ hrxy
    replace hrle := Dt.keep M.bel _ hrle
    replace hryz := Dt.keep M.bel _ hryz
    replace hrri := Dt.keep M.bel _ hrri
    replace hral := Dt.keep M.bel _ hral
    replace hrtl := Dt.keep M.bel _ hrtl
    replace hrrr := Dt.keep M.bel _ hrrr
    have hHg85 := M.here 0 (cs := (rr.d.cells rr.ts.length)) rfl
    replace M : Mg w90 w90 [] := Mg.start w90
    refine sdm A λa A↦?_
    iterate 2 refine sdo A (qm (vs := [.agg (rx.d.cells rx.ts.length).toArray, .int .i64 krx]) rfl rfl) λa A↦?_
    refine zn (vs := (qe.d.cells qe.ts.length)) (t := 31) A M rfl rfl rfl pg (ql (z := .agg (qe.d.cells qe.ts.length).toArray) (by kernel_rfl) rfl) (by decide) ?_
    intro g91 w92 M a A
    refine qt (us := (rx.d.cells rx.ts.length)) (L' := (.obj g91 (.cells (rx.d.cells rx.ts.length).toArray 31) :: [])) A M rfl rfl (qi rfl rfl rfl (by kernel_rfl) M 0 rfl rfl rfl) 0 rfl rfl rfl ?_
    intro w93 M
    refine sda A λa A↦?_
    refine qa (hK88 _ _ (wsk fun K94 hK94 => wrl (sdo A (zd M hHg17 LiJ_isS_31 rfl rfl) λa A↦?_)))
    refine sct A (ef rfl rfl) (vn (t := y) (Dt.keep M.bel _ hry) (by omega) (hT.below M.bel)) ?_
    rintro _ w96 ⟨ry, kry, rfl, ⟨hrry, -, htry⟩, hb95⟩
    have hbry := qch y.tr
    rw [← htry] at hbry
    simp only at hbry
    replace M := M.call hb95
    refine ⟨_, rfl, ?_⟩
    intro a A
    have hB12 := hB11.trans (M.bel.mono hB11.size)
    replace hT := hT.below M.bel
    replace hHg19 := hHg19.below M.bel
    replace hHg17 := hHg17.below M.bel
    replace hHg15 := hHg15.below M.bel
    replace hHg29 := hHg29.below M.bel
    replace hHg37 := hHg37.below M.bel
    replace hHg57 := hHg57.below M.bel
    replace hHg65 := hHg65.below M.bel
    replace hHg73 := hHg73.below M.bel
    replace hHg79 := hHg79.below M.bel
    replace hHg85 := hHg85.below M.bel
    replace hRa := hRa.below M.bel
    replace hDa := fun t ht => Dt.keep M.bel _ (hDa t ht)
    replace hRb := hRb.below M.bel
    replace hDb := fun t ht => Dt.keep M.bel _ (hDb t ht)
    replace hRc := hRc.below M.bel
    replace hDc := fun t ht => Dt.keep M.bel _ (hDc t ht)
    replace hrx := Dt.keep M.bel _ hrx
    replace hry := Dt.keep M.bel _ hry
    replace hrz := Dt.keep M.bel _ hrz
    replace hrxy := Dt.keep M.bel _ hrxy
    replace hrle := Dt.keep M.bel _ hrle
    replace hryz := Dt.keep M.bel _ hryz
    replace hrri := Dt.keep M.bel _ hrri
    replace hral := Dt.keep M.bel _ hral
    replace hrtl := Dt.keep M.bel _ hrtl
    replace hrrr := Dt.keep M.bel _ hrrr
    replace hrrx := Dt.keep M.bel _ hrrx
    have hHg91 := M.here 0 (cs := (rx.d.cells rx.ts.length)) rfl
    replace M : Mg w96 w96 [] := Mg.start w96
    refine sdm A λa A↦?_
    iterate 2 refine sdo A (qm (vs := [.agg (ry.d.cells ry.ts.length).toArray, .int .i64 kry]) rfl rfl) λa A↦?_
    refine zn (vs := (qe.d.cells qe.ts.length)) (t := 31) A M rfl rfl rfl pg (ql (z := .agg (qe.d.cells qe.ts.length).toArray) (by kernel_rfl) rfl) (by decide) ?_
    intro g97 w98 M a A
    refine qt (us := (ry.d.cells ry.ts.length)) (L' := (.obj g97 (.cells (ry.d.cells ry.ts.length).toArray 31) :: [])) A M rfl rfl (qi rfl rfl rfl (by kernel_rfl) M 0 rfl rfl rfl) 0 rfl rfl rfl ?_
    intro w99 M
    refine sda A λa A↦?_
    refine qa (hK94 _ _ (wsk fun K100 hK100 => wrl (sdo A (za M LiJ_isS_31 rfl 0 rfl (cs := (ry.d.cells ry.ts.length)) rfl rfl) λa A↦?_)))
    refine sdo A (zd M hHg91 LiJ_isS_31 rfl rfl) λa A↦?_
    refine kd (e := 31) (sz := 11) (m := 2) (vs := cellsOf [ry, rx]) A M rfl rfl rfl (zh rfl (by kernel_rfl)) rfl rfl (.inl (by decide)) ?_
    intro g101 w102 M a A
    refine sct A (ef rfl rfl) (xx (ts := [ry, rx]) (xw (M.has 0 rfl)).1 (fun t ht => by simp only [List.mem_cons, List.not_mem_nil, or_false] at ht; rcases ht with rfl | rfl <;> exact Dt.keep M.bel _ (by assumption)) (by simp) (by simp only [List.map_cons, List.map_nil, Tr.bulks]; omega) (hT.below M.bel)) ?_
    rintro _ w104 ⟨ot, kot, rfl, ⟨hrot, -, htot⟩, hb103⟩
    replace htot : (ot.tr, kot) = jf [ry.tr, rx.tr] := htot
    have hbot := vx [ry.tr, rx.tr]
    rw [← htot] at hbot
    simp only [Tr.bulks] at hbot
    replace M := M.call hb103
    refine ⟨_, rfl, ?_⟩
    intro a A
    have hB13 := hB12.trans (M.bel.mono hB12.size)
    replace hT := hT.below M.bel
    replace hHg19 := hHg19.below M.bel
    replace hHg17 := hHg17.below M.bel
    replace hHg15 := hHg15.below M.bel
    replace hHg29 := hHg29.below M.bel
    replace hHg37 := hHg37.below M.bel
    replace hHg57 := hHg57.below M.bel
    replace hHg65 := hHg65.below M.bel
    replace hHg73 := hHg73.below M.bel
    replace hHg79 := hHg79.below M.bel
    replace hHg85 := hHg85.below M.bel
    replace hHg91 := hHg91.below M.bel
    replace hRa := hRa.below M.bel
    replace hDa := fun t ht => Dt.keep M.bel _ (hDa t ht)
    replace hRb := hRb.below M.bel
    replace hDb := fun t ht => Dt.keep M.bel _ (hDb t ht)
    replace hRc := hRc.below M.bel
    replace hDc := fun t ht => Dt.keep M.bel _ (hDc t ht)
    replace hrx := Dt.keep M.bel _ hrx
    replace hry := Dt.keep M.bel _ hry
    replace hrz := Dt.keep M.bel _ hrz
    replace hrxy := Dt.keep M.bel _ hrxy
    replace hrle := Dt.keep M.bel _ hrle
    replace hryz := Dt.keep M.bel _ hryz
    replace hrri := Dt.keep M.bel _ hrri
    replace hral := Dt.keep M.bel _ hral
    replace hrtl := Dt.keep M.bel _ hrtl
    replace hrrr := Dt.keep M.bel _ hrrr
    replace hrrx := Dt.keep M.bel _ hrrx
    replace hrry := Dt.keep M.bel _ hrry
    have hHg97 := M.here 1 (cs := (ry.d.cells ry.ts.length)) rfl
    replace M : Mg w104 w104 [] := Mg.start w104
    refine sdm A λa A↦?_
    iterate 2 refine sdo A (qm (vs := [.agg (ot.d.cells ot.ts.length).toArray, .int .i64 kot]) rfl rfl) λa A↦?_
    refine zn (vs := (qe.d.cells qe.ts.length)) (t := 31) A M rfl rfl rfl pg (ql (z := .agg (qe.d.cells qe.ts.length).toArray) (by kernel_rfl) rfl) (by decide) ?_
    intro g105 w106 M a A
    refine qt (us := (ot.d.cells ot.ts.length)) (L' := (.obj g105 (.cells (ot.d.cells ot.ts.length).toArray 31) :: [])) A M rfl rfl (qi rfl rfl rfl (by kernel_rfl) M 0 rfl rfl rfl) 0 rfl rfl rfl ?_
    intro w107 M
    refine sda A λa A↦?_
    refine qa (hK100 _ _ (wsk fun K108 hK108 => ?_))
    have q1 : (jf [ofS (la.map Dt.tr), ofS (lb.map Dt.tr)]).2 = 0 := by rw [← htx, ← hty, ← htxy]; exact hb44'
    have q2 : xy.tr = (jf [ofS (la.map Dt.tr), ofS (lb.map Dt.tr)]).1 := by rw [← htx, ← hty, ← htxy]
    have q3 : (jf [(jf [ofS (la.map Dt.tr), ofS (lb.map Dt.tr)]).1, ofS (lc.map Dt.tr)]).2 = 0 := by rw [← q2, ← htz, ← htle]; exact hb48'
    obtain ⟨m1, m2, m3, m4, m5⟩ := qmj q1 q3
    rw [← q2, ← htz, ← htle] at m1 m2 m3 m4
    rw [← htx, ← hty, ← htyz] at m2
    rw [← htri] at m2
    rw [← htx, ← hty, ← htal] at m3
    rw [← q2, ← htrr, ← htx, ← hty, ← htrx, ← htry] at m5
    rw [← htot] at m5
    simp only [List.length_map] at m1 m4
    rw [show ((la.length : Int) + (lb.length : Int)) = ((la.length + lb.length : Nat) : Int) by omega, ← httl] at m1 m4
    simp only at m1 m2 m3 m4 m5
    refine wrl (sdm A λa A↦?_)
    refine sdo (v := .bool true) A (qh rfl rfl (fun w => (qn w).trans (by rw [show ((ktl == 0)) = true from (beq_iff_eq.2 m1)]))) λa A↦?_
    refine sdm A λa A↦?_
    refine sdo A (zd M hHg37 LiJ_isS_31 rfl rfl) λa A↦?_
    refine sdo A (zd M hHg65 LiJ_isS_31 rfl rfl) λa A↦?_
    refine gcl A M (ef rfl rfl) ((((ud le.tr ri.tr).2 m2) ▸ vl (le.tr.bulk + 1) (t := le) (u := ri) (Nat.lt_succ_self _) (Dt.keep M.bel _ hrle) (Dt.keep M.bel _ hrri))) fun w110 hb109 M a A => ?_
    refine sdk (v := .bool true) A λa A↦?_
    refine sdm A λa A↦?_
    refine sdo A (zd M hHg37 LiJ_isS_31 rfl rfl) λa A↦?_
    refine sdo A (zd M hHg73 LiJ_isS_31 rfl rfl) λa A↦?_
    refine gcl A M (ef rfl rfl) ((((ud le.tr al.tr).2 m3) ▸ vl (le.tr.bulk + 1) (t := le) (u := al) (Nat.lt_succ_self _) (Dt.keep M.bel _ hrle) (Dt.keep M.bel _ hral))) fun w112 hb111 M a A => ?_
    refine sdk (v := .bool true) A λa A↦?_
    refine sdm A λa A↦?_
    refine sdo A (zd M hHg79 LiJ_isS_31 rfl rfl) λa A↦?_
    refine sdo A (zd M hHg19 LiJ_isS_31 rfl rfl) λa A↦?_
    refine gcl A M (ef rfl rfl) ((((ud tl.tr z.tr).2 m4) ▸ vl (tl.tr.bulk + 1) (t := tl) (u := z) (Nat.lt_succ_self _) (Dt.keep M.bel _ hrtl) (Dt.keep M.bel _ hrz))) fun w114 hb113 M a A => ?_
    refine sdk (v := .bool true) A λa A↦?_
    refine sdm A λa A↦?_
    refine sdo A (zd M hHg85 LiJ_isS_31 rfl rfl) λa A↦?_
    refine sdo A (za M LiJ_isS_31 rfl 0 rfl (cs := (ot.d.cells ot.ts.length)) rfl rfl) λa A↦?_
    refine gcl A M (ef rfl rfl) ((((ud rr.tr ot.tr).2 m5) ▸ vl (rr.tr.bulk + 1) (t := rr) (u := ot) (Nat.lt_succ_self _) (Dt.keep M.bel _ hrrr) (Dt.keep M.bel _ hrot))) fun w116 hb115 M a A => ?_
    refine sdk (v := .bool true) A λa A↦?_
    refine sda A λa A↦?_
    refine qa (hK108 _ _ (wp_ret (hret _ _ (en1 A rfl (qf rfl) ?_))))
    exact ⟨rfl, hB13.trans (M.bel.mono hB13.size)⟩
end Go.Proofs.YtnemkamkjfokaaaDoor.G
namespace Go.Proofs.YtnemkamkjfokaaaDoor
set_option linter.unusedVariables false

section
variable {H : Type}
theorem qkc (d : DataW H) : 0 < Rows.uptoBulk d := by
  unfold Rows.uptoBulk
  split <;> omega
theorem qkd : ∀ l : List (DataW H), l.length ≤ Rows.uptoBulkAll l
  | [] => by simp
  | d :: l => by
    have h1 := qkc d
    have h2 := qkd l
    simp only [Rows.uptoBulkAll, List.length_cons]
    omega
theorem qke (xs ys : List (DataW H)) : xs.length ≤ Rows.uptoBulk (.slice xs ys) := by
  have := qkd xs
  simp only [Rows.uptoBulk]
  omega
theorem yw {d : DataW H} : ∀ {l : List (DataW H)}, d ∈ l → Rows.uptoBulk d ≤ Rows.uptoBulkAll l
  | c :: l, h => by
    simp only [Rows.uptoBulkAll]
    rcases List.mem_cons.1 h with rfl | h
    · omega
    · have := yw h
      omega
theorem qhb {l : List (DataW H)} (hk : Rows.uptoSmall H l = true) {j : Nat} {d : DataW H} (hd : l[j]? = some d) : Rows.uptoBulk d ≤ 1048576 :=
  Nat.le_trans (yw (List.mem_of_getElem? hd)) (of_decide_eq_true hk)
end
end Go.Proofs.YtnemkamkjfokaaaDoor
namespace Go.Proofs.YtnemkamkjfokaaaDoor.G
open Go.ChangeShapes Go.WideShapes Go.ChangeAt Go.RowKit Go.Joins Go.Deep
set_option linter.unusedVariables false
set_option linter.unusedSimpArgs false
set_option maxRecDepth 100000

section
variable {H : Type} {enc : TypeId × Value → H} {W : World}
end
theorem qrf {w : World} {x : Addr} {len cap : Nat} {zs : List Int} (hl : len ≤ cap) (hz : zs.length = cap)
    (hc : ∀ i, i < zs.length → w.cell? (x.add i) = some (.int .u8 (zs.getD i 0))) (hw : ∀ n ∈ zs, (Lit.int .u8 n).wf = true) :
    ∃ l : List UInt8, l.length = len ∧ Rb w (some x) l := by
  have hbd : ∀ n ∈ zs, 0 ≤ n ∧ n < 256 := by
    intro n hn
    have := bounds_u8 (hw n hn)
    omega
  refine ⟨(zs.take len).map b8, by rw [List.length_map, List.length_take]; omega, ⟨fun hne => ?_⟩⟩
  have hlen : ((zs.take len).map b8).length = len := by rw [List.length_map, List.length_take]; omega
  have h0 : 0 < len := by
    apply Classical.byContradiction
    intro h
    have : len = 0 := by omega
    subst this
    simp at hne
  obtain ⟨b, off, spot⟩ := x
  have hspot : spot = none := by
    have := hc 0 (by omega)
    simp only [World.cell?, Addr.add] at this
    split at this
    · cases spot with
      | none => rfl
      | some s => simp at this
    · cases this
  subst hspot
  have hcj : ∀ j, j < len → w.cell? ⟨b, off + j, none⟩ = some (.int .u8 (((((zs.take len).map b8).getD j 0).toNat : Nat) : Int)) := by
    intro j hj
    have h1 := hc j (by omega)
    rw [Addr.add_lit] at h1
    rw [h1]
    have hjz : j < zs.length := by omega
    have h2 := hbd zs[j] (List.getElem_mem hjz)
    have e1 : zs.getD j 0 = zs[j] := by simp [hjz]
    have e2 : ((zs.take len).map b8).getD j 0 = b8 zs[j] := by simp [List.getD_eq_getElem?_getD, hj, hjz]
    rw [e1, e2, qxa h2.1 h2.2]
  refine ⟨b, off, rfl, ?_, fun j hj => hcj j (by omega)⟩
  have := hcj 0 h0
  apply Classical.byContradiction
  intro h
  simp [World.cell?, Array.getElem?_eq_none (Nat.le_of_not_lt h)] at this
section
variable {H : Type} {enc : TypeId × Value → H} {W : World}
end
theorem Rb.take {w : World} {so : Option Addr} {l : List UInt8} (h : Rb w so l) (n : Nat) : Rb w so (l.take n) := by
  refine ⟨fun hne => ?_⟩
  obtain ⟨b, off, h1, h2, h3⟩ := h.pos (fun k => hne (by rw [k]; simp))
  refine ⟨b, off, h1, h2, fun j hj => ?_⟩
  rw [List.length_take] at hj
  rw [h3 j (by omega), List.getD_eq_getElem?_getD, List.getD_eq_getElem?_getD, List.getElem?_take_of_lt (by omega)]
section
variable {P : Program} {w : World} {l : List (Nat × Value)} {dst : Option Tmp} {ty : TypeId} {pos : String} {after : Array Edge} {guard : Option (Nat × Bool)}
end
def Nu.cells (y : Nu) : List Value := [.bool y.q.b1, .slice y.o1 y.q.t1.length y.c1, .slice y.o2 y.q.q1.length y.c2, .bool y.q.b2, .slice y.o3 y.q.t2.length y.c3, .slice y.o4 y.q.q2.length y.c4]
theorem qug {w : World} {b o : Nat} {v : Value} (h : w.cell? ⟨b, o, none⟩ = some v) : b < w.heap.size := by
  apply Classical.byContradiction
  intro k
  simp [World.cell?, Array.getElem?_eq_none (Nat.le_of_not_lt k)] at h
section
variable {H : Type} {enc : TypeId × Value → H} {W : World}
theorem qcj (l : List (DataW H)) : Rows.uptoBulk (.agg l) = Rows.uptoBulkAll l + 1 := by simp only [Rows.uptoBulk]
theorem qkf {fuel : Nat} {v : Value} {x : DataW H × List MemPlace} (h : DataW.trod enc Tryd.prog W 0 (fun _ => true) true fuel 29 [v] = some x) : ∃ so cap l, v = .slice so (l : List UInt8).length cap ∧ Rb W so l ∧ l.length ≤ cap ∧ cap ≤ 9223372036854775807 ∧ l.length ≤ Rows.uptoBulk x.1 := by
  rcases open_ints Tryd.underlying29 Tryd.underlying5 (by kernel_rfl) h with ⟨hcs, _⟩ | ⟨x, l, c, zs, hcs, _, hl, hm, hz, hx, hcell, hwz⟩
  · simp only [List.cons.injEq, and_true] at hcs
    subst hcs
    exact ⟨none, 0, [], rfl, ⟨fun k => absurd rfl k⟩, Nat.le_refl _, by decide, Nat.zero_le _⟩
  · simp only [List.cons.injEq, and_true] at hcs
    subst hcs
    obtain ⟨us, e, ha⟩ := qrf hl (by simpa using hz) hcell hwz
    subst e
    subst hx
    refine ⟨_, _, us, rfl, ha, hl, hm, ?_⟩
    simp only [if_true] at hz
    refine Nat.le_trans ?_ (qke _ _)
    simp only [lits, List.length_map, List.length_take, List.length_drop]
    omega
theorem uw {fuel : Nat} {v : Value} {x : DataW H × List MemPlace} (h : DataW.trod enc Tryd.prog W 0 (fun _ => true) true fuel 24 [v] = some x) : ∃ ao c l, v = .slice ao (l : List Nat).length c ∧ Arg W ao c l ∧ l.length ≤ Rows.uptoBulk x.1 := by
  rcases open_ints Tryd.underlying24 Tryd.underlying68 (by kernel_rfl) h with ⟨hcs, _⟩ | ⟨x, l, c, zs, hcs, _, hl, hm, hz, hx, hcell, hwz⟩
  · cases hcs
    exact ⟨none, 0, [], rfl, arg_nil W, Nat.zero_le _⟩
  · cases hcs
    obtain ⟨us, e, ha⟩ := arg_row hl hm (by simpa using hz) hcell hwz
    subst e
    subst hx
    refine ⟨_, _, us, rfl, ha, ?_⟩
    simp only [if_true] at hz
    refine Nat.le_trans ?_ (qke _ _)
    simp only [lits, List.length_map, List.length_take, List.length_drop]
    omega
theorem qeg {fuel : Nat} {v0 v1 v2 : Value} {x : DataW H × List MemPlace} (h : DataW.trod enc Tryd.prog W 0 (fun _ => true) true fuel 26 [v0, v1, v2] = some x) : ∃ b o1 c1 l1 o2 c2 l2, v0 = .bool b ∧ v1 = .slice o1 (l1 : List Nat).length c1 ∧ v2 = .slice o2 (l2 : List Nat).length c2 ∧ Arg W o1 c1 l1 ∧ Arg W o2 c2 l2 ∧ l1.length + l2.length ≤ Rows.uptoBulk x.1 := by
  obtain ⟨y0, y1, y2, n, hx, _, h0, h1, h2⟩ := trod_struct3 Tryd.underlying26 h
  have e0 : Tryd.prog.cellsOf 4 = 1 := by kernel_rfl
  have e1 : Tryd.prog.cellsOf 24 = 1 := by kernel_rfl
  simp only [e0, e1, List.drop_zero, List.take_succ_cons, List.take_zero, List.drop_succ_cons] at h0 h1 h2
  obtain ⟨b, rfl⟩ := trod_bool h0
  obtain ⟨o1, c1, l1, rfl, a1, k1⟩ := uw h1
  obtain ⟨o2, c2, l2, rfl, a2, k2⟩ := uw h2
  refine ⟨b, o1, c1, l1, o2, c2, l2, rfl, rfl, rfl, a1, a2, ?_⟩
  rw [hx, qcj]
  simp only [Rows.uptoBulkAll]
  omega
theorem qrg {fuel : Nat} {cs : List Value} {x : DataW H × List MemPlace} (hl : cs.length = 6) (h : DataW.trod enc Tryd.prog W 0 (fun _ => true) true fuel 28 cs = some x) :
    ∃ y : Nu, cs = y.cells ∧ y.nm W ∧ LenQ y.q ∧ y.q.t1.length + y.q.q1.length + (y.q.t2.length + y.q.q2.length) ≤ Rows.uptoBulk x.1 := by
  match cs, hl with
  | [v0, v1, v2, v3, v4, v5], _ =>
    obtain ⟨y0, y1, n, hx, _, h0, h1⟩ := trod_struct2 Tryd.underlying28 h
    have e : Tryd.prog.cellsOf 26 = 3 := by kernel_rfl
    simp only [e, List.drop_zero, List.take_succ_cons, List.take_zero, List.drop_succ_cons] at h0 h1
    obtain ⟨b1, o1, c1, l1, o2, c2, l2, rfl, rfl, rfl, a1, a2, k1⟩ := qeg h0
    obtain ⟨b2, o3, c3, l3, o4, c4, l4, rfl, rfl, rfl, a3, a4, k2⟩ := qeg h1
    refine ⟨⟨⟨b1, l1, l2, b2, l3, l4⟩, o1, c1, o2, c2, o3, c3, o4, c4⟩, rfl, ⟨⟨a1.rd, a1.nil, a1.caps⟩, ⟨a2.rd, a2.nil, a2.caps⟩, ⟨a3.rd, a3.nil, a3.caps⟩, ⟨a4.rd, a4.nil, a4.caps⟩⟩, ⟨a1.len, a2.len, a3.len, a4.len⟩, ?_⟩
    rw [hx, qcj]
    simp only [Rows.uptoBulkAll]
    omega
/-- One datum, as it lies in a row of cells; and a list of them. -/
def OpenD (H : Type) (enc : TypeId × Value → H) (W : World) (fuel : Nat) : Prop := ∀ (cs : List Value) (x : DataW H × List MemPlace), DataW.trod enc Tryd.prog W 0 (fun _ => true) true fuel 31 cs = some x → ∃ t : Dt, cs = t.cells ∧ t.rd W ∧ t.tr.bulk ≤ Rows.uptoBulk x.1
theorem qda {fuel : Nat} {v : Value} {x : DataW H × List MemPlace} (ih : ∀ n, n < fuel → OpenD H enc W n) (h : DataW.trod enc Tryd.prog W 0 (fun _ => true) true fuel 22 [v] = some x) :
    ∃ lo lc ts, v = .slice lo (ts : List Dt).length lc ∧ ts.length ≤ lc ∧ lc ≤ 9223372036854775807 ∧ Rt W lo ts ∧ (∀ t ∈ ts, t.rd W) ∧ Tr.bulks (ts.map Dt.tr) ≤ Rows.uptoBulk x.1 := by
  rcases DataW.trod_slice Tryd.underlying22 h with ⟨hcs, _⟩ | ⟨a, len, cap, elems, rest, n, hf, hcs, hx, _, hl, hm, hlen, hel, _, _⟩
  · simp only [List.cons.injEq, and_true] at hcs
    subst hcs
    exact ⟨none, 0, [], rfl, Nat.le_refl _, by decide, fun k => absurd rfl k, fun _ k => by simp at k, Nat.zero_le _⟩
  · simp only [List.cons.injEq, and_true] at hcs
    subst hcs
    rw [show Tryd.prog.cellsOf 31 = 11 from by kernel_rfl] at hel
    have each : ∀ i, ∃ t : Dt, i < len → t.rd W ∧ (∀ j v, t.cells[j]? = some v → W.cell? ((a.add (i * 11)).add j) = some v) ∧ ∃ y, elems[i]? = some y ∧ t.tr.bulk ≤ Rows.uptoBulk y.1 := by
      intro i
      by_cases hi : i < len
      · have h1 := hel i hi
        rw [List.getElem?_eq_getElem (by omega)] at h1
        obtain ⟨cs, h2, h3⟩ := Option.bind_eq_some_iff.1 h1
        obtain ⟨_, hlc, hcell⟩ := World.cells?_some h2
        obtain ⟨t, rfl, hr, hb⟩ := ih n (by omega) cs _ h3
        exact ⟨t, fun _ => ⟨hr, fun j v hj => by rw [hcell j (by have := (List.getElem?_eq_some_iff.1 hj).1; rw [hlc] at this; exact this)]; exact hj, _, List.getElem?_eq_getElem (by omega), hb⟩⟩
      · exact ⟨.mk ⟨0, 0, ⟨⟨false, [], [], false, [], []⟩, none, 0, none, 0, none, 0, none, 0⟩, ⟨#[]⟩, none, 0, [], none, 0⟩ [], fun k => absurd k hi⟩
    obtain ⟨F, hF⟩ := Classical.skolem.1 each
    have hget : ∀ (j : Nat) (q : Dt), ((List.range len).map F)[j]? = some q → j < len ∧ q = F j := by
      intro j q hq
      rw [List.getElem?_map] at hq
      obtain ⟨y, h1, h2⟩ := Option.map_eq_some_iff.1 hq
      obtain ⟨h3, h4⟩ := List.getElem?_eq_some_iff.1 h1
      rw [List.length_range] at h3
      rw [List.getElem_range] at h4
      subst h4
      exact ⟨h3, h2.symm⟩
    refine ⟨some a, cap, (List.range len).map F, by simp, by simpa using hl, hm, fun hne => ?_, fun t ht => ?_, ?_⟩
    · have hn : 0 < len := by
        apply Classical.byContradiction
        intro k
        exact hne (by rw [show len = 0 from by omega]; rfl)
      obtain ⟨b, off, spot⟩ := a
      have h0 := (hF 0 hn).2.1 0 _ rfl
      have hspot : spot = none := by simpa [Addr.add] using World.cell?_spot h0
      subst hspot
      refine ⟨b, off, rfl, fun i t hi => ?_⟩
      obtain ⟨hlt, rfl⟩ := hget i t hi
      have hat : ∀ j v, (F i).cells[j]? = some v → W.cell? ⟨b, off + i * 11 + j, none⟩ = some v := fun j v hj => by
        have := (hF i hlt).2.1 j v hj
        rwa [Addr.add_lit, Addr.add_lit] at this
      exact ⟨qug (hat 0 _ rfl), hat⟩
    · obtain ⟨j, hj⟩ := List.mem_iff_getElem?.1 ht
      obtain ⟨h1, rfl⟩ := hget j t hj
      exact (hF j h1).1
    · rw [hx]
      have key : ∀ m, m ≤ len → Tr.bulks (((List.range m).map F).map Dt.tr) ≤ Rows.uptoBulkAll ((elems.map (·.1)).take m) := by
        intro m
        induction m with
        | zero => intro _; simp [Tr.bulks]
        | succ m ih2 =>
          intro hm2
          have hs : ∀ (l : List Tr) (t : Tr), Tr.bulks (l ++ [t]) = Tr.bulks l + t.bulk := by
            intro l t
            induction l with
            | nil => simp [Tr.bulks]
            | cons u l ih3 => simp only [List.cons_append, Tr.bulks, ih3]; omega
          have hu : ∀ (l : List (DataW H)) (d : DataW H), Rows.uptoBulkAll (l ++ [d]) = Rows.uptoBulkAll l + Rows.uptoBulk d := by
            intro l d
            induction l with
            | nil => simp [Rows.uptoBulkAll]
            | cons u l ih3 => simp only [List.cons_append, Rows.uptoBulkAll, ih3]; omega
          obtain ⟨_, _, y, hy, hb⟩ := hF m (by omega)
          have := ih2 (by omega)
          rw [List.range_succ, List.map_append, List.map_append, List.take_add_one, List.getElem?_map, hy]
          simp only [List.map_cons, List.map_nil, Option.map_some, Option.toList_some]
          rw [hs, hu]
          omega
      have h1 := key len (Nat.le_refl _)
      rw [List.take_of_length_le (by rw [List.length_map]; omega)] at h1
      simp only [Rows.uptoBulk]
      omega
theorem qwh : ∀ fuel, OpenD H enc W fuel := by
  intro fuel
  induction fuel using Nat.strongRecOn with
  | ind fuel ih =>
    intro cs x h
    obtain ⟨xs, n, hfu, hx, hl, hxl, hf⟩ := DataW.trod_struct Tryd.underlying31 h
    rw [show Tryd.prog.cellsOf 31 = 11 from by kernel_rfl] at hl
    match cs, hl with
    | [v0, v1, v2, v3, v4, v5, v6, v7, v8, v9, v10], _ =>
      match xs, hxl with
      | [x0, x1, x2, x3, x4, x5], _ =>
        have g0 := hf 0 _ rfl
        have g1 := hf 1 _ rfl
        have g2 := hf 2 _ rfl
        have g3 := hf 3 _ rfl
        have g4 := hf 4 _ rfl
        have g5 := hf 5 _ rfl
        have c1 : Tryd.prog.cellsOf 3 = 1 := by kernel_rfl
        have c2 : Tryd.prog.cellsOf 28 = 6 := by kernel_rfl
        have c3 : Tryd.prog.cellsOf 9 = 1 := by kernel_rfl
        have c4 : Tryd.prog.cellsOf 29 = 1 := by kernel_rfl
        have c5 : Tryd.prog.cellsOf 22 = 1 := by kernel_rfl
        simp only [c1, c2, c3, c4, c5, List.drop_zero, List.take_succ_cons, List.take_zero, List.drop_succ_cons, List.getElem?_cons_zero, List.getElem?_cons_succ] at g0 g1 g2 g3 g4 g5
        obtain ⟨k, e0, _, w0⟩ := DataW.trod_int Tryd.underlying3 g0
        obtain ⟨m, e1, _, w1⟩ := DataW.trod_int Tryd.underlying3 g1
        obtain ⟨y, e2, hy, hq, b2⟩ := qrg rfl g2
        obtain ⟨s, e3, hs, hsm⟩ := DataW.trod_string Tryd.underlying9 g3
        obtain ⟨ro, rc, rl, e4, hr, hrc, hrm, b4⟩ := qkf g4
        obtain ⟨lo, lc, ts, e5, hlc, hlm, hrt, hrd, b5⟩ := qda (fun n' hn' => ih n' (by omega)) g5
        have bk := bounds_i64 w0
        have bm := bounds_i64 w1
        refine ⟨.mk ⟨k, m, y, s, ro, rc, rl, lo, lc⟩ ts, ?_, ?_, ?_⟩
        · injection e0 with f0
          injection e1 with f1
          injection e3 with f3
          injection e2 with e20 g
          injection g with e21 g
          injection g with e22 g
          injection g with e23 g
          injection g with e24 g
          injection g with e25 g
          subst f0 f1 f3 e4 e5 e20 e21 e22 e23 e24 e25
          rfl
        · rw [Dt.rd_iff]
          exact ⟨⟨hy, hq, hr, hrc, hrm, bk.1, bk.2, bm.1, bm.2, hsm⟩, hlc, hlm, hrt, hrd⟩
        · rw [Dt.tr_mk, xu, hx, qcj]
          have h3 : Rows.uptoBulk x3.1 = s.size + 1 := by
            rw [hs]
            rw [show Rows.uptoBulk (DataW.lit (H := H) (.string s.data.toList)) = s.data.toList.length + 1 from by simp only [Rows.uptoBulk], Array.length_toList]
            rfl
          simp only [List.map_cons, List.map_nil, Rows.uptoBulkAll]
          have := qkc x0.1
          omega
theorem un {base : Nat} {v : Value} {d : DataW H} {p : List MemPlace} (hv : Value.okWide Tryd.prog W .any base 22 v) (h : DataW.Trod enc Tryd.prog W 0 (fun _ => true) true 22 v d p) :
    ∃ lo lc ts, v = .slice lo (ts : List Dt).length lc ∧ ts.length ≤ lc ∧ Rt W lo ts ∧ (∀ t ∈ ts, t.rd W) ∧ Tr.bulks (ts.map Dt.tr) ≤ Rows.uptoBulk d := by
  obtain ⟨a, n, c, rfl⟩ := okWide_slice Tryd.underlying22 hv
  obtain ⟨fuel, hf⟩ := h
  obtain ⟨lo, lc, ts, e, h1, _, h2, h3, h4⟩ := qda (v := .slice a n c) (fun n _ => qwh n) hf
  exact ⟨lo, lc, ts, e, h1, h2, h3, h4⟩
end
end Go.Proofs.YtnemkamkjfokaaaDoor.G
