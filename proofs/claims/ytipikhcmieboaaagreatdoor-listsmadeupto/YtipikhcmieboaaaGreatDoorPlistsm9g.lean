/- Walks of Of, Append, Tail and Reverse. Walks of the document's sameness and order of numbers. The same trees. The walk of the document's utf8. Units of a text as rows; when a text has no bad byte. Walks of the document's Sound. The walk of the document's Sound. The walk of the document's sameness of data. What joins say, of lists as they are. Walks of the document's lists. Walks of the document's Of, Reverse, Tail and Append. The walk of the law of joined lists. The walk of the law of lists that are made. What a bound on the bulk of what is read gives. Transcoders that come in as arguments. -/
import Derived.Test.YtipikhcmieboaaaGreatDoorPlistsm9f
import Derived.Test.YtipikhcmieboaaaGreatDoorPlistsm9c
import Derived.Test.YtipikhcmieboaaaGreatDoorPlistsm9d
import Derived.Test.YtipikhcmieboaaaGreatDoorProg
import Derived.Lib.ConvBytes
import Derived.Test.YtipikhcmieboaaaGreatDoorRows
import Derived.WalkKit
import Derived.ProofKit
import Derived.OpenShut
import Derived.ChangeOld
import Derived.Lib.SmallJoins
import Derived.Deep.Strs
namespace Go.Proofs.YtipikhcmieboaaaGreatDoor.G
open Go.RowKit
set_option linter.unusedVariables false
set_option linter.unusedSimpArgs false
set_option maxRecDepth 100000
theorem LiG_isS_30 : IsS Tryz.prog 30 11 := ⟨⟨_, Tryz.underlying30⟩, by kernel_rfl⟩
theorem zch {w0 w : World} {g9 c9 : Nat} {ys : List Dt} {T : List Ck} (hl : ys.length ≤ 1000000000) (hne : ys ≠ []) (hM0 : Mg w0 w (.row 30 11 (.slice (some ⟨g9, 0, none⟩) ys.length c9) ys.length (cellsOf ys) :: T)) : Calls Tryz.prog 41 #[.slice (some ⟨g9, 0, none⟩) ys.length c9] w fun e w' => e = .returned (.tuple #[]) ∧ Mg w0 w' (.row 30 11 (.slice (some ⟨g9, 0, none⟩) ys.length c9) ys.length (cellsOf ys.reverse) :: T) := by
 have hpos : 0 < ys.length := List.length_pos_iff.2 hne
 have M : Mg w0 w (.row 30 11 (.slice (some ⟨g9, 0, none⟩) ys.length c9) ys.length (cellsOf ys) :: T) := hM0
 refine qp (l := [(0, .slice (some ⟨g9, 0, none⟩) ys.length c9)]) Tryz.func41 rfl Tryz.ntmps41 rfl rfl ?_
 intro Q hret hnorm hP a A
 refine wsk fun K1 hK1 => wrl (sdm A λa A↦?_)
 refine sdo A (qs Tryz.underlying22 rfl) λa A↦?_
 refine sdo (v := .int .i64 (((ys.length : Nat) : Int) - 1 - ((0 : Nat) : Int))) A (qg rfl rfl (ar_sub ((in_i64 (by omega) (by omega)).trans (by omega)))) λa A↦?_
 iterate 2 refine sda A λa A↦?_
 refine qa (hK1 _ _ (wp_block (zx (fun m_ a w1 => ∃ (i : Nat) (zs : List Dt), m_ = 1 + (ys.length - i) ∧ (i ≤ ys.length ∧ RevI ys zs i) ∧ Sl a 28 [(0, .slice (some ⟨g9, 0, none⟩) ys.length c9), (2, .int .i64 (((i : Nat) : Int))), (3, .int .i64 (((ys.length : Nat) : Int) - 1 - ((i : Nat) : Int))), (4, .slice (some ⟨g9, 0, none⟩) ys.length c9), (5, .int .i64 (((ys.length : Nat) : Int))), (6, .int .i64 (((ys.length : Nat) : Int) - 1 - ((0 : Nat) : Int)))] ∧ Mg w0 w1 (.row 30 11 (.slice (some ⟨g9, 0, none⟩) ys.length c9) ys.length (cellsOf zs) :: T)) _ ⟨0, ys, rfl, ⟨Nat.zero_le _, qze ys⟩, A.keep _ (by repeat' constructor), M⟩ ?_)))
 clear M A
 rintro m_ a w2 ⟨i, zs, rfl, hinv4, A, M⟩ K3 hK3
 obtain ⟨hi0, hrv⟩ := hinv4
 refine wsk fun K5 hK5 => wsk fun K6 hK6 => wrl ?_
 iterate 2 refine sdm A λa A↦?_
 rcases tf (decide (((i : Nat) : Int) < ((ys.length : Nat) : Int) - 1 - ((i : Nat) : Int))) with hb7 | hb7
 ·
  have hb7' := of_decide_eq_true hb7
  refine sdc A zf hb7 λa A↦?_
  refine qa (hK6 _ _ (wp_cond_true (A.ev rfl) ?_))
  refine wp_skip (hK5 _ _ (wsk fun K8 hK8 => wp_block ?_))
  have hzl := hrv.1
  obtain ⟨a1, hza⟩ : ∃ a, zs[i]? = some a := ⟨_, List.getElem?_eq_getElem (by omega)⟩
  obtain ⟨b1, hzb⟩ : ∃ b, zs[ys.length - 1 - i]? = some b := ⟨_, List.getElem?_eq_getElem (by omega)⟩
  refine xv (S := fun w1 => Mg w0 w1 ([])) (by kernel_rfl) ?_
  replace M := M.drew
  refine qm A 0 rfl rfl rfl rfl hP (M.sub (cn (List.nil_sublist _))) (fun w1 M => zd rfl) λa A↦?_
  refine qm A 1 rfl rfl rfl rfl hP (M.sub (cn (List.nil_sublist _))) (fun w1 M => zd rfl) λa A↦?_
  refine qm A 2 rfl rfl rfl rfl hP (M.sub (cn (List.nil_sublist _))) (fun w1 M => zd rfl) λa A↦?_
  refine qm A 3 rfl rfl rfl rfl hP (M.sub (cn (List.nil_sublist _))) (fun w1 M => zd rfl) λa A↦?_
  refine qm A 4 rfl rfl rfl rfl hP (M.sub (cn (List.nil_sublist _))) (fun w1 M => zd rfl) λa A↦?_
  refine qm A 5 rfl rfl rfl rfl hP (M.sub (cn (List.nil_sublist _))) (fun w1 M => zd rfl) λa A↦?_
  refine qm (v := .pointer (some ⟨g9, (ys.length - 1 - i) * 11, none⟩)) A 6 rfl rfl rfl rfl hP (M.sub (cn (List.nil_sublist _))) (fun w1 M => jk (k := (ys.length - 1 - i)) Tryz.underlying22 (by kernel_rfl) rfl rfl (by omega) (by omega)) λa A↦?_
  refine qm A 8 rfl rfl rfl rfl hP (M.sub (cn (List.nil_sublist _))) (fun w1 M => zd rfl) λa A↦?_
  refine qm A 9 rfl rfl rfl rfl hP (M.sub (cn (List.nil_sublist _))) (fun w1 M => zd rfl) λa A↦?_
  refine qm (v := .pointer (some ⟨g9, i * 11, none⟩)) A 10 rfl rfl rfl rfl hP (M.sub (cn (List.nil_sublist _))) (fun w1 M => jk (k := i) Tryz.underlying22 (by kernel_rfl) rfl rfl (by omega) (by omega)) λa A↦?_
  refine qfj (rs := [7, 11]) (by kernel_rfl) (by simp) ⟨?_, ?_, trivial⟩
  ·
   refine qbg A 7 rfl rfl rfl rfl (ya (o := (ys.length - 1 - i) * 11) (cs := b1.d.cells b1.ts.length) M 0 rfl LiG_isS_30 (xh hzb) rfl rfl) (M.sub (cn (List.nil_sublist _))) λa A↦?_
   refine zv (by kernel_rfl) (qbg A 11 rfl rfl rfl rfl (ya (o := i * 11) (cs := a1.d.cells a1.ts.length) M 0 rfl LiG_isS_30 (xh hza) rfl rfl) (M.sub (cn (List.nil_sublist _))) ?_)
   intro a A
   refine qm (v := .pointer (some ⟨g9, i * 11, none⟩)) A 12 rfl rfl rfl rfl hP (M.sub (cn (List.nil_sublist _))) (fun w1 M => jk (k := i) Tryz.underlying22 (by kernel_rfl) rfl rfl (by omega) (by omega)) λa A↦?_
   refine zv (by kernel_rfl) (uq (us := cellsOf (zs.set i b1)) (L' := (.row 30 11 (.slice (some ⟨g9, 0, none⟩) ys.length c9) ys.length (cellsOf (zs.set i b1)) :: T)) A M 13 rfl rfl rfl (uf (cs := b1.d.cells b1.ts.length) rfl rfl rfl (by kernel_rfl) M 0 rfl (by show _ + 11 ≤ _; omega) (xn b1)) 0 rfl (ug (by rw [hzl]; omega) rfl) rfl ?_)
   intro w9 M
   refine ⟨(M.sub (cn (List.nil_sublist _))), ?_⟩
   refine qm (v := .pointer (some ⟨g9, (ys.length - 1 - i) * 11, none⟩)) A 14 rfl rfl rfl rfl hP (M.sub (cn (List.nil_sublist _))) (fun w1 M => jk (k := (ys.length - 1 - i)) Tryz.underlying22 (by kernel_rfl) rfl rfl (by omega) (by omega)) λa A↦?_
   refine zv (by kernel_rfl) (uq (us := cellsOf ((zs.set i b1).set (ys.length - 1 - i) a1)) (L' := (.row 30 11 (.slice (some ⟨g9, 0, none⟩) ys.length c9) ys.length (cellsOf ((zs.set i b1).set (ys.length - 1 - i) a1)) :: T)) A M 15 rfl rfl rfl (uf (cs := a1.d.cells a1.ts.length) rfl rfl rfl (by kernel_rfl) M 0 rfl (by show _ + 11 ≤ _; omega) (xn a1)) 0 rfl (ug (by rw [List.length_set, hzl]; omega) rfl) rfl ?_)
   intro w10 M
   refine ⟨(M.sub (cn (List.nil_sublist _))), ?_⟩
   refine jo (by kernel_rfl) ?_
   refine hK8 _ _ (wrl (sdm A λa A↦?_))
   refine sdo (v := .int .i64 (((i + 1 : Nat) : Int))) A (qg rfl rfl (ar_add ((in_i64 (by omega) (by omega)).trans (by omega)))) λa A↦?_
   refine sdm A λa A↦?_
   refine sdo (v := .int .i64 (((ys.length : Nat) : Int) - 1 - ((i + 1 : Nat) : Int))) A (qg rfl rfl (ar_sub ((in_i64 (by omega) (by omega)).trans (by omega)))) λa A↦?_
   iterate 2 refine sda A λa A↦?_
   refine qa ?_
   refine hK3 _ _ _ (by omega) ⟨i + 1, ((zs.set i b1).set (ys.length - 1 - i) a1), rfl, ⟨by omega, qlj hrv (by omega) hza hzb⟩, A.keep _ (by repeat' constructor), M⟩
  ·
   refine qbg A 11 rfl rfl rfl rfl (ya (o := i * 11) (cs := a1.d.cells a1.ts.length) M 0 rfl LiG_isS_30 (xh hza) rfl rfl) (M.sub (cn (List.nil_sublist _))) λa A↦?_
   refine zv (by kernel_rfl) (qbg A 7 rfl rfl rfl rfl (ya (o := (ys.length - 1 - i) * 11) (cs := b1.d.cells b1.ts.length) M 0 rfl LiG_isS_30 (xh hzb) rfl rfl) (M.sub (cn (List.nil_sublist _))) ?_)
   intro a A
   refine qm (v := .pointer (some ⟨g9, i * 11, none⟩)) A 12 rfl rfl rfl rfl hP (M.sub (cn (List.nil_sublist _))) (fun w1 M => jk (k := i) Tryz.underlying22 (by kernel_rfl) rfl rfl (by omega) (by omega)) λa A↦?_
   refine zv (by kernel_rfl) (uq (us := cellsOf (zs.set i b1)) (L' := (.row 30 11 (.slice (some ⟨g9, 0, none⟩) ys.length c9) ys.length (cellsOf (zs.set i b1)) :: T)) A M 13 rfl rfl rfl (uf (cs := b1.d.cells b1.ts.length) rfl rfl rfl (by kernel_rfl) M 0 rfl (by show _ + 11 ≤ _; omega) (xn b1)) 0 rfl (ug (by rw [hzl]; omega) rfl) rfl ?_)
   intro w11 M
   refine ⟨(M.sub (cn (List.nil_sublist _))), ?_⟩
   refine qm (v := .pointer (some ⟨g9, (ys.length - 1 - i) * 11, none⟩)) A 14 rfl rfl rfl rfl hP (M.sub (cn (List.nil_sublist _))) (fun w1 M => jk (k := (ys.length - 1 - i)) Tryz.underlying22 (by kernel_rfl) rfl rfl (by omega) (by omega)) λa A↦?_
   refine zv (by kernel_rfl) (uq (us := cellsOf ((zs.set i b1).set (ys.length - 1 - i) a1)) (L' := (.row 30 11 (.slice (some ⟨g9, 0, none⟩) ys.length c9) ys.length (cellsOf ((zs.set i b1).set (ys.length - 1 - i) a1)) :: T)) A M 15 rfl rfl rfl (uf (cs := a1.d.cells a1.ts.length) rfl rfl rfl (by kernel_rfl) M 0 rfl (by show _ + 11 ≤ _; omega) (xn a1)) 0 rfl (ug (by rw [List.length_set, hzl]; omega) rfl) rfl ?_)
   intro w12 M
   refine ⟨(M.sub (cn (List.nil_sublist _))), ?_⟩
   refine jo (by kernel_rfl) ?_
   refine hK8 _ _ (wrl (sdm A λa A↦?_))
   refine sdo (v := .int .i64 (((i + 1 : Nat) : Int))) A (qg rfl rfl (ar_add ((in_i64 (by omega) (by omega)).trans (by omega)))) λa A↦?_
   refine sdm A λa A↦?_
   refine sdo (v := .int .i64 (((ys.length : Nat) : Int) - 1 - ((i + 1 : Nat) : Int))) A (qg rfl rfl (ar_sub ((in_i64 (by omega) (by omega)).trans (by omega)))) λa A↦?_
   iterate 2 refine sda A λa A↦?_
   refine qa ?_
   refine hK3 _ _ _ (by omega) ⟨i + 1, ((zs.set i b1).set (ys.length - 1 - i) a1), rfl, ⟨by omega, qlj hrv (by omega) hza hzb⟩, A.keep _ (by repeat' constructor), M⟩
 ·
  have hb7' := of_decide_eq_false hb7
  refine sdc A zf hb7 λa A↦?_
  refine qa (hK6 _ _ (wp_cond_false (A.ev rfl) ?_))
  refine wp_exit (hnorm _ _ (uy (v := .tuple #[]) A rfl .nil rfl ?_))
  rw [zcg hrv (by omega)] at M
  exact ⟨rfl, M⟩
theorem zgb {w0 w : World} {so9 : Option Addr} {c9 : Nat} {T : List Ck} (hM0 : Mg w0 w (.row 30 11 (.slice so9 ([] : List Dt).length c9) ([] : List Dt).length (cellsOf []) :: T)) : Calls Tryz.prog 41 #[.slice so9 (([] : List Dt).length) c9] w fun e w' => e = .returned (.tuple #[]) ∧ Mg w0 w' (.row 30 11 (.slice so9 ([] : List Dt).length c9) ([] : List Dt).length (cellsOf ([] : List Dt).reverse) :: T) := by
 have M : Mg w0 w (.row 30 11 (.slice so9 (([] : List Dt).length) c9) (([] : List Dt).length) (cellsOf []) :: T) := hM0
 refine qp (l := [(0, .slice so9 (([] : List Dt).length) c9)]) Tryz.func41 rfl Tryz.ntmps41 rfl rfl ?_
 intro Q hret hnorm hP a A
 refine wsk fun K1 hK1 => wrl (sdm A λa A↦?_)
 refine sdo A (qs Tryz.underlying22 rfl) λa A↦?_
 refine sdo (v := .int .i64 (-1)) A (qg rfl rfl (ar_sub (by rfl))) λa A↦?_
 iterate 2 refine sda A λa A↦?_
 refine qa (hK1 _ _ (wp_block (wp_loop_rounds 12 ?_)))
 refine qgb fun K2 hK2 => ?_
 refine wsk fun K3 hK3 => wsk fun K4 hK4 => wrl ?_
 iterate 2 refine sdm A λa A↦?_
 refine sdo (v := .bool false) A (qg rfl rfl (fun w => by kernel_rfl)) λa A↦?_
 refine qa (hK4 _ _ (wp_cond_false (A.ev rfl) ?_))
 refine wp_exit (hnorm _ _ (uy (v := .tuple #[]) A rfl .nil rfl ?_))
 exact ⟨rfl, M⟩
theorem zgc {w0 w : World} {so9 : Option Addr} {c9 : Nat} {ys : List Dt} {T : List Ck} (hl : ys.length ≤ 1000000000) (hM0 : Mg w0 w (.row 30 11 (.slice so9 ys.length c9) ys.length (cellsOf ys) :: T)) : Calls Tryz.prog 41 #[.slice so9 ys.length c9] w fun e w' => e = .returned (.tuple #[]) ∧ Mg w0 w' (.row 30 11 (.slice so9 ys.length c9) ys.length (cellsOf ys.reverse) :: T) := by
 by_cases h : ys = []
 ·
  subst h; exact zgb hM0
 ·
  obtain ⟨g, c, e⟩ := qha (hM0.has 0 rfl) (fun k => h (List.length_eq_zero_iff.1 k))
  cases e
  exact zch hl h hM0
theorem qsa {w : World} {so : Option Addr} {ca : Nat} {ts : List Dt} (hR : Rt w so ts) (hD : ∀ t ∈ ts, t.rd w) (V : ∀ t ∈ ts, qr qi t.tr = true) (hb : Tr.bulks (ts.map Dt.tr) ≤ 1000000000) (h : (jh (ts.map Dt.tr)).isSome = true) : Calls Tryz.prog 36 #[.slice so ts.length ca] w fun e w' => ∃ so' ca' ys J, e = .returned (.tuple #[.slice so' (ys : List Dt).length ca', .int .i64 0]) ∧ (jh (ts.map Dt.tr) = some J ∧ (ys.map Dt.tr = J ∨ (20000 < ys.length ∧ 20000 < J.length)) ∧ (∀ x ∈ ys, x.rd w) ∧ Tr.bulks (ys.map Dt.tr) ≤ Tr.bulks (ts.map Dt.tr)) ∧ Mg w w' [.row 30 11 (.slice so' ys.length ca') ys.length (cellsOf ys)] := by
 refine (qma hR hD V hb).mono ?_
 rintro e w' (h1 | ⟨_, h2, _⟩)
 ·
  exact h1
 ·
  rw [h2] at h; cases h
theorem qsb {w : World} {so : Option Addr} {ca : Nat} {ts : List Dt} (hR : Rt w so ts) (hD : ∀ t ∈ ts, t.rd w) (V : ∀ t ∈ ts, qr qi t.tr = true) (hb : Tr.bulks (ts.map Dt.tr) ≤ 1000000000) (h : (jh (ts.map Dt.tr)).isSome = false) : Calls Tryz.prog 36 #[.slice so ts.length ca] w fun e w' => e = .returned (.tuple #[.slice none 0 0, .int .i64 10]) ∧ Below w.heap.size w w' := by
 refine (qma hR hD V hb).mono ?_
 rintro e w' (⟨_, _, ys, J, _, h1, _⟩ | ⟨h1, _, h3⟩)
 ·
  rw [h1.1] at h; cases h
 ·
  exact ⟨h1, h3⟩
theorem yt {α : Type} {x : Option α} (h : x.isSome = false) : x = none := Option.isNone_iff_eq_none.1 (Option.isSome_eq_false_iff.1 h)
theorem qpa {ts : List Dt} (h : (ts.all fun t => qr qi t.tr) = true) : ∀ t ∈ ts, qr qi t.tr = true := List.all_eq_true.1 h
theorem of_any {w : World} {so : Option Addr} {ca : Nat} {ts : List Dt} (hR : Rt w so ts) (hD : ∀ t ∈ ts, t.rd w) (hb : Tr.bulks (ts.map Dt.tr) ≤ 300000000) (hT : Tabs8 w) : Calls Tryz.prog 17 #[.slice so ts.length ca] w fun e w' => ∃ t2 : Dt, e = .returned (.agg (t2.d.cells t2.ts.length).toArray) ∧ (t2.rd w' ∧ t2.at_ (w.heap.size ≤ ·) ∧ t2.tr = ofS (ts.map Dt.tr)) ∧ Below w.heap.size w w' := by
 have hnb : zw.tr.bulk = 1 := by rw [xw]; rfl
 have M : Mg w w ([]) := Mg.start w
 refine qp (l := [(0, .slice so ts.length ca)]) Tryz.func17 rfl Tryz.ntmps17 rfl rfl ?_
 intro Q hret hnorm hP a A
 refine wsk fun K1 hK1 => wrl (zr (vs := (qe.d.cells qe.ts.length)) (t := 30) A M rfl rfl rfl pg (qt (z := .agg (qe.d.cells qe.ts.length).toArray) (by kernel_rfl) rfl) (by decide) ?_)
 intro g2 w3 M a A
 refine qa (hK1 _ _ (wsk fun K4 hK4 => wrl (sdm A λa A↦?_)))
 refine gcl A M (ef rfl rfl) (qoh) fun w6 hb5 M a A => ?_
 have hlt7 := (Ck.lt (M.has 0 rfl) g2 rfl).2
 have hzt2 := M.bel.size
 refine sct A (ef rfl rfl) (qee (u := zw) (hR.below M.bel) (fun t ht => Dt.keep M.bel _ (hD t ht)) (yn _) (by omega) (hT.below M.bel)) ?_
 rintro _ w9 ⟨t2, k2, rfl, ⟨hrt2, hat2, htt2⟩, hb8⟩
 replace M := M.call hb8
 refine ⟨_, rfl, ?_⟩
 intro a A
 refine sdm A λa A↦?_
 iterate 2 refine sdo A (qn (vs := [.agg (t2.d.cells t2.ts.length).toArray, .int .i64 k2]) rfl rfl) λa A↦?_
 refine qoa (vs := (qe.d.cells qe.ts.length)) (t := 30) A M rfl rfl rfl pg (qt (z := .agg (qe.d.cells qe.ts.length).toArray) (by kernel_rfl) rfl) (by decide) ?_
 intro g10 w11 M hg12 hb13 a A
 have hnt2g10 := Dt.at_mono (q := (· ≠ g10)) (fun b hb => by intro e; omega) _ (Dt.at_lt _ hrt2)
 replace hrt2 := Dt.keep hb13 _ hrt2
 refine ji (us := (t2.d.cells t2.ts.length)) (L' := (.obj g10 (.cells (t2.d.cells t2.ts.length).toArray 30) :: .obj g2 (.cells (qe.d.cells qe.ts.length).toArray 30) :: [])) A M rfl rfl (qk rfl rfl rfl (by kernel_rfl) M 0 rfl rfl rfl) 0 rfl rfl rfl ?_
 intro w14 M hK15
 replace hrt2 := Dt.kept hK15 _ hrt2 hnt2g10
 refine sda A λa A↦?_
 refine qa (hK4 _ _ (wsk fun K16 hK16 => wrl (sdo A (zi M LiG_isS_30 rfl 0 rfl (cs := (t2.d.cells t2.ts.length)) rfl rfl) λa A↦?_)))
 refine ji (us := (t2.d.cells t2.ts.length)) (L' := (.obj g10 (.cells (t2.d.cells t2.ts.length).toArray 30) :: .obj g2 (.cells (t2.d.cells t2.ts.length).toArray 30) :: [])) A M rfl rfl (qk rfl rfl rfl (by kernel_rfl) M 1 rfl rfl rfl) 1 rfl rfl rfl ?_
 intro w17 M hK18
 replace hrt2 := Dt.kept hK18 _ hrt2 (Dt.at_mono (fun b hb => by rintro rfl; omega) _ hat2)
 refine qa (hK16 _ _ (wp_ret (hret _ _ (en1 A rfl (qw M LiG_isS_30 rfl 1 rfl (cs := [.int .i64 t2.d.k, .int .i64 t2.d.n, .bool t2.d.y.q.b1, .slice t2.d.y.o1 t2.d.y.q.t1.length t2.d.y.c1, .slice t2.d.y.o2 t2.d.y.q.q1.length t2.d.y.c2, .bool t2.d.y.q.b2, .slice t2.d.y.o3 t2.d.y.q.t2.length t2.d.y.c3, .slice t2.d.y.o4 t2.d.y.q.q2.length t2.d.y.c4, .string t2.d.s, .slice t2.d.ro t2.d.rl.length t2.d.rc, .slice t2.d.lo t2.ts.length t2.d.lc]) rfl rfl) ?_))))
 exact ⟨t2, rfl, ⟨hrt2, Dt.at_mono (fun b hb => Nat.le_trans hzt2 hb) _ hat2, by unfold ofS; rw [← xw, ← htt2]⟩, M.bel⟩
theorem quh {w : World} {so : Option Addr} {ca : Nat} {ts : List Dt} (hR : Rt w so ts) (hD : ∀ t ∈ ts, t.rd w) (hca : ts.length ≤ ca) (hb : Tr.bulks (ts.map Dt.tr) ≤ 100000000) (hT : Tabs8 w) : Calls Tryz.prog 9 #[.slice so ts.length ca] w fun e w' => ∃ (t2 : Dt) (k : Int), e = .returned (.tuple #[.agg (t2.d.cells t2.ts.length).toArray, .int .i64 k]) ∧ (t2.rd w' ∧ t2.at_ (w.heap.size ≤ ·) ∧ (t2.tr, k) = qia (ts.map Dt.tr)) ∧ Below w.heap.size w w' := by
 have hbl := jn ts
 have M : Mg w w ([]) := Mg.start w
 refine qp (l := [(0, .slice so ts.length ca)]) Tryz.func9 rfl Tryz.ntmps9 rfl rfl ?_
 intro Q hret hnorm hP a A
 refine wsk fun K1 hK1 => wrl (zr (vs := (qe.d.cells qe.ts.length)) (t := 30) A M rfl rfl rfl pg (qt (z := .agg (qe.d.cells qe.ts.length).toArray) (by kernel_rfl) rfl) (by decide) ?_)
 intro g2 w3 M a A
 refine sda A λa A↦?_
 refine qa (hK1 _ _ (wsk fun K4 hK4 => wsk fun K5 hK5 => wrl (sdm A λa A↦?_)))
 rcases tf ((ts.all fun t => qr qi t.tr)) with hb6 | hb6
 ·
  refine gcl A M (ef rfl rfl) (ko (hR.below M.bel) (fun t ht => Dt.keep M.bel _ (hD t ht)) (by omega) (hT.below M.bel) hb6) fun w8 hb7 M a A => ?_
  refine sdo (v := .bool false) A (qz rfl zk) λa A↦?_
  refine qa (hK5 _ _ (wp_cond_false (A.ev rfl) ?_))
  refine wp_skip (hK4 _ _ (wsk fun K9 hK9 => wsk fun K10 hK10 => wrl (sdm A λa A↦?_)))
  refine sdo A (qs Tryz.underlying22 rfl) λa A↦?_
  rcases tf ((((ts.length : Nat) : Int) == 0)) with hb11 | hb11
  ·
   have hb11' := eq_of_beq hb11
   refine sdc A qj hb11 λa A↦?_
   refine qa (hK10 _ _ (wp_cond_true (A.ev rfl) ?_))
   refine wsk fun K12 hK12 => wrl (sct A (ef rfl rfl) (qoh) ?_)
   rintro _ w14 ⟨rfl, hb13⟩
   replace M := M.call hb13
   refine ⟨_, rfl, ?_⟩
   intro a A
   refine qx (us := (zw.d.cells zw.ts.length)) (L' := (.obj g2 (.cells (zw.d.cells zw.ts.length).toArray 30) :: [])) A M rfl rfl (qk rfl rfl rfl (by kernel_rfl) M 0 rfl rfl rfl) 0 rfl rfl rfl ?_
   intro w15 M
   refine sda A λa A↦?_
   refine qa (hK12 _ _ (wp_ret (hret _ _ (en2 A rfl (qw M LiG_isS_30 rfl 0 rfl (cs := [.int .i64 zw.d.k, .int .i64 zw.d.n, .bool zw.d.y.q.b1, .slice zw.d.y.o1 zw.d.y.q.t1.length zw.d.y.c1, .slice zw.d.y.o2 zw.d.y.q.q1.length zw.d.y.c2, .bool zw.d.y.q.b2, .slice zw.d.y.o3 zw.d.y.q.t2.length zw.d.y.c3, .slice zw.d.y.o4 zw.d.y.q.q2.length zw.d.y.c4, .string zw.d.s, .slice zw.d.ro zw.d.rl.length zw.d.rc, .slice zw.d.lo zw.ts.length zw.d.lc]) rfl rfl) (qf rfl) ?_))))
   have e9 : ts = [] := List.length_eq_zero_iff.1 (by omega)
   exact ⟨zw, 0, rfl, ⟨yn _, qff _, by rw [e9]; exact (Prod.ext xw rfl : (zw.tr, (0 : Int)) = (nilT, 0)).trans qrj.symm⟩, M.bel⟩
  ·
   have hb11' := ne_of_beq_false hb11
   refine sdc A qj hb11 λa A↦?_
   refine qa (hK10 _ _ (wp_cond_false (A.ev rfl) ?_))
   refine wp_skip (hK9 _ _ (wsk fun K16 hK16 => wrl (sdm A λa A↦?_)))
   refine sdo A (qs Tryz.underlying22 rfl) λa A↦?_
   refine sdo (v := .int .i64 (((ts.length - 1 : Nat) : Int))) A (qg rfl rfl (ar_sub ((in_i64 (by omega) (by omega)).trans (by omega)))) λa A↦?_
   refine sda A λa A↦?_
   refine qa (hK16 _ _ (wsk fun K17 hK17 => ?_))
   have hbt : Tr.bulks ((ts.take (ts.length - 1)).map Dt.tr) ≤ Tr.bulks (ts.map Dt.tr) := qaj _
   refine wrl ?_
   iterate 2 refine sdm A λa A↦?_
   refine sdo (v := .slice so ((ts.take (ts.length - 1)).length) ca) A (qxj (sz := 11) (hi := (ts.take (ts.length - 1)).length) Tryz.underlying22 (by kernel_rfl) rfl rfl (by rw [List.length_take]; omega) (by rw [List.length_take]; omega)) λa A↦?_
   rcases tf ((jh ((ts.take (ts.length - 1)).map Dt.tr)).isSome) with hb18 | hb18
   ·
    refine sct A (ef rfl rfl) (qsa ((hR.take _).below M.bel) (fun t ht => Dt.keep M.bel _ (hD t (List.mem_of_mem_take ht))) (fun t ht => qpa hb6 t (List.mem_of_mem_take ht)) (by omega) hb18) ?_
    rintro _ w20 ⟨so7, ca7, ys, J, rfl, ⟨hJ, hor, hy0, hyb⟩, hM7⟩
    have hy2 := hy0
    replace M : Mg w w20 (.row 30 11 (.slice so7 ys.length ca7) ys.length (cellsOf ys) :: .obj g2 (.cells (qe.d.cells qe.ts.length).toArray 30) :: []) := (M.both hM7 (zb (by simp) (qy ze)) (zb (by simp) (qy ze)))
    refine ⟨_, rfl, ?_⟩
    intro a A
    refine sdm A λa A↦?_
    iterate 2 refine sdo A (qn (vs := [.slice so7 ys.length ca7, .int .i64 0]) rfl rfl) λa A↦?_
    iterate 2 refine sda A λa A↦?_
    refine qa (hK17 _ _ (wsk fun K21 hK21 => wsk fun K22 hK22 => wrl (sdm A λa A↦?_)))
    refine sdo (v := .bool false) A (qg rfl rfl (fun w => by kernel_rfl)) λa A↦?_
    refine qa (hK22 _ _ (wp_cond_false (A.ev rfl) ?_))
    refine wp_skip (hK21 _ _ (wsk fun K23 hK23 => ?_))
    obtain ⟨t9, bt9, ot9, it9, mt9, rt9_, lt9, Ht9⟩ := qjh hR hD (i := (ts.length - 1)) (by omega)
    have hb9 := ke mt9
    refine wrl ?_
    iterate 3 refine sdm A λa A↦?_
    refine sdo (v := .pointer (some ⟨bt9, ot9 + (ts.length - 1) * 11, none⟩)) A (zj (k := (ts.length - 1)) Tryz.underlying22 (by kernel_rfl) rfl rfl rfl lt9 (by omega)) λa A↦?_
    refine sdo A (zp M Ht9 LiG_isS_30 rfl rfl) λa A↦?_
    have hlt24 := (Ck.lt (M.has 1 rfl) g2 rfl).2
    have hzt2 := M.bel.size
    refine sct A (ef rfl rfl) (qee (u := t9) (vj (M.has 0 rfl)).1 (fun t ht => Dt.keep hM7.bel _ (hy2 t ht)) (Dt.keep M.bel _ rt9_) (by omega) (hT.below M.bel)) ?_
    rintro _ w26 ⟨t2, k2, rfl, ⟨hrt2, hat2, htt2⟩, hb25⟩
    replace M := M.call hb25
    refine ⟨_, rfl, ?_⟩
    intro a A
    iterate 2 refine sdo A (qn (vs := [.agg (t2.d.cells t2.ts.length).toArray, .int .i64 k2]) rfl rfl) λa A↦?_
    refine ji (us := (t2.d.cells t2.ts.length)) (L' := (.row 30 11 (.slice so7 ys.length ca7) ys.length (cellsOf ys) :: .obj g2 (.cells (t2.d.cells t2.ts.length).toArray 30) :: [])) A M rfl rfl (qk rfl rfl rfl (by kernel_rfl) M 1 rfl rfl rfl) 1 rfl rfl rfl ?_
    intro w27 M hK28
    replace hrt2 := Dt.kept hK28 _ hrt2 (Dt.at_mono (fun b hb => by rintro rfl; omega) _ hat2)
    refine sda A λa A↦?_
    refine qa (hK23 _ _ (wp_ret (hret _ _ (en2 A rfl (qw M LiG_isS_30 rfl 1 rfl (cs := [.int .i64 t2.d.k, .int .i64 t2.d.n, .bool t2.d.y.q.b1, .slice t2.d.y.o1 t2.d.y.q.t1.length t2.d.y.c1, .slice t2.d.y.o2 t2.d.y.q.q1.length t2.d.y.c2, .bool t2.d.y.q.b2, .slice t2.d.y.o3 t2.d.y.q.t2.length t2.d.y.c3, .slice t2.d.y.o4 t2.d.y.q.q2.length t2.d.y.c4, .string t2.d.s, .slice t2.d.ro t2.d.rl.length t2.d.rc, .slice t2.d.lo t2.ts.length t2.d.lc]) rfl rfl) (qf rfl) ?_))))
    have e9 : qia (ts.map Dt.tr) = fitS (ys.map Dt.tr) t9.tr := by
     rw [qli hb6 it9 hJ]
     rcases hor with e | e
     ·
      rw [e]
     ·
      rw [qdf e.2, qdf (by rw [List.length_map]; exact e.1)]
    exact ⟨t2, k2, rfl, ⟨hrt2, Dt.at_mono (fun b hb => Nat.le_trans hzt2 hb) _ hat2, by rw [e9, ← htt2]⟩, M.bel⟩
   ·
    refine gcl A M (ef rfl rfl) (qsb ((hR.take _).below M.bel) (fun t ht => Dt.keep M.bel _ (hD t (List.mem_of_mem_take ht))) (fun t ht => qpa hb6 t (List.mem_of_mem_take ht)) (by omega) hb18) fun w30 hb29 M a A => ?_
    refine sdm A λa A↦?_
    iterate 2 refine sdo A (qn (vs := [.slice none 0 0, .int .i64 10]) rfl rfl) λa A↦?_
    iterate 2 refine sda A λa A↦?_
    refine qa (hK17 _ _ (wsk fun K31 hK31 => wsk fun K32 hK32 => wrl (sdm A λa A↦?_)))
    refine sdo (v := .bool true) A (qg rfl rfl (fun w => by kernel_rfl)) λa A↦?_
    refine qa (hK32 _ _ (wp_cond_true (A.ev rfl) ?_))
    refine wsk fun K33 hK33 => wrl (sdo (v := .agg (qe.d.cells qe.ts.length).toArray) A (za rfl (fun w => by kernel_rfl)) λa A↦?_)
    refine sdm A λa A↦?_
    refine qx (us := (qe.d.cells qe.ts.length)) (L' := (.obj g2 (.cells (qe.d.cells qe.ts.length).toArray 30) :: [])) A M rfl rfl (qk rfl rfl rfl (by kernel_rfl) M 0 rfl rfl rfl) 0 rfl rfl rfl ?_
    intro w34 M
    refine sda A λa A↦?_
    refine qa (hK33 _ _ (wp_ret (hret _ _ (en2 A rfl (qw M LiG_isS_30 rfl 0 rfl (cs := [.int .i64 0, .int .i64 0, .bool false, .slice none 0 0, .slice none 0 0, .bool false, .slice none 0 0, .slice none 0 0, .string (⟨#[]⟩), .slice none 0 0, .slice none 0 0]) rfl rfl) (qf rfl) ?_))))
    exact ⟨qe, 10, rfl, ⟨jc _, xi _, by rw [qlh hb6 (fun e => by rw [e] at hb11'; exact hb11' rfl) (yt hb18), jb]⟩, M.bel⟩
 ·
  refine gcl A M (ef rfl rfl) (ko (hR.below M.bel) (fun t ht => Dt.keep M.bel _ (hD t ht)) (by omega) (hT.below M.bel) hb6) fun w36 hb35 M a A => ?_
  refine sdo (v := .bool true) A (qz rfl zk) λa A↦?_
  refine qa (hK5 _ _ (wp_cond_true (A.ev rfl) ?_))
  refine wsk fun K37 hK37 => wrl (sdo (v := .agg (qe.d.cells qe.ts.length).toArray) A (za rfl (fun w => by kernel_rfl)) λa A↦?_)
  refine qx (us := (qe.d.cells qe.ts.length)) (L' := (.obj g2 (.cells (qe.d.cells qe.ts.length).toArray 30) :: [])) A M rfl rfl (qk rfl rfl rfl (by kernel_rfl) M 0 rfl rfl rfl) 0 rfl rfl rfl ?_
  intro w38 M
  refine sda A λa A↦?_
  refine qa (hK37 _ _ (wp_ret (hret _ _ (en2 A rfl (qw M LiG_isS_30 rfl 0 rfl (cs := [.int .i64 0, .int .i64 0, .bool false, .slice none 0 0, .slice none 0 0, .bool false, .slice none 0 0, .slice none 0 0, .string (⟨#[]⟩), .slice none 0 0, .slice none 0 0]) rfl rfl) (qf rfl) ?_))))
  exact ⟨qe, 2, rfl, ⟨jc _, xi _, by rw [qri hb6, jb]⟩, M.bel⟩
theorem qui {ts : List Dt} (i : Nat) : Tr.bulks ((ts.drop i).map Dt.tr) ≤ Tr.bulks (ts.map Dt.tr) := by
 conv => rhs; rw [← List.take_append_drop i ts, List.map_append, jr]
 omega
theorem qmb : ∀ ts : List Tr, Tr.bulks ts.reverse = Tr.bulks ts
 | [] => rfl
 | t :: ts => by rw [List.reverse_cons, jr, qmb ts, Tr.bulks, Tr.bulks, Tr.bulks]; omega
theorem quj {w : World} {so : Option Addr} {ca : Nat} {ys : List Dt} (hR : Rt w so ys.reverse) (hD : ∀ t ∈ ys.reverse, t.rd w) (hb : Tr.bulks (ys.reverse.map Dt.tr) ≤ 400000000) : Calls Tryz.prog 42 #[.slice so ys.length ca] w fun e w' => ∃ t2 : Dt, e = .returned (.agg (t2.d.cells t2.ts.length).toArray) ∧ (t2.rd w' ∧ t2.at_ (w.heap.size ≤ ·) ∧ t2.tr = zn (ys.reverse.map Dt.tr) nilT) ∧ Below w.heap.size w w' := by
 have := qid (ca := ca) hR hD hb
 rwa [List.length_reverse] at this
theorem zci {w : World} {t : Dt} (ht : t.rd w) (hb : t.tr.bulk ≤ 300000000) (hT : Tabs8 w) {n : Int} : Calls Tryz.prog 13 #[.agg (t.d.cells t.ts.length).toArray, .int .i64 n] w fun e w' => ∃ (t2 : Dt) (k : Int), e = .returned (.tuple #[.agg (t2.d.cells t2.ts.length).toArray, .int .i64 k]) ∧ (t2.rd w' ∧ t2.at_ (w.heap.size ≤ ·) ∧ (t2.tr, k) = yx t.tr n) ∧ Below w.heap.size w w' := by
 have M : Mg w w ([]) := Mg.start w
 refine qp (l := [(0, .agg (t.d.cells t.ts.length).toArray), (1, .int .i64 n)]) Tryz.func13 rfl Tryz.ntmps13 rfl rfl ?_
 intro Q hret hnorm hP a A
 refine wsk fun K1 hK1 => wrl (zr (vs := (t.d.cells t.ts.length)) (t := 30) A M rfl rfl rfl pg (zg rfl rfl) (by decide) ?_)
 intro g2 w3 M a A
 refine zr (vs := (qe.d.cells qe.ts.length)) (t := 30) A M rfl rfl rfl pg (qt (z := .agg (qe.d.cells qe.ts.length).toArray) (by kernel_rfl) rfl) (by decide) ?_
 intro g4 w5 M a A
 refine sda A λa A↦?_
 refine qa (hK1 _ _ (wsk fun K6 hK6 => wrl (sdo A (zi M LiG_isS_30 rfl 1 rfl (cs := (t.d.cells t.ts.length)) rfl rfl) λa A↦?_)))
 rcases tf (qr qi t.tr) with hb7 | hb7
 ·
  rcases tf ((zq t.tr).isSome) with hb9 | hb9
  ·
   refine sct A (ef rfl rfl) (qbc M.bel ht (by omega) (hT.below M.bel) hb7 hb9) ?_
   rintro _ w11 ⟨so7, ca7, ys, rfl, ⟨hy1, hy2, hy3⟩, hM7⟩
   have hyb := jl hy1
   replace M : Mg w w11 (.row 30 11 (.slice so7 ys.length ca7) ys.length (cellsOf ys) :: .obj g4 (.cells (qe.d.cells qe.ts.length).toArray 30) :: .obj g2 (.cells (t.d.cells t.ts.length).toArray 30) :: []) := (M.both hM7 (zb (by simp) (zb (by simp) (qy ze))) (zb (by simp) (qy ze)))
   refine ⟨_, rfl, ?_⟩
   intro a A
   refine sdm A λa A↦?_
   iterate 2 refine sdo A (qn (vs := [.slice so7 ys.length ca7, .int .i64 0]) rfl rfl) λa A↦?_
   iterate 2 refine sda A λa A↦?_
   refine qa (hK6 _ _ (wsk fun K12 hK12 => wp_block (wsk fun K13 hK13 => wrl (sdm A λa A↦?_))))
   refine sdo (v := .bool false) A (qg rfl rfl (fun w => by kernel_rfl)) λa A↦?_
   refine sda A λa A↦?_
   refine qa (hK13 _ _ (wp_cond_false (A.ev rfl) ?_))
   refine wsk fun K14 hK14 => wrl (sdm A λa A↦?_)
   rcases tf (decide (n < 0)) with hb15 | hb15
   ·
    have hb15' := of_decide_eq_true hb15
    refine sdc A zf hb15 λa A↦?_
    refine sdm A λa A↦?_
    iterate 4 refine qh A rfl rfl rfl λa A↦?_
    refine sdk (v := .bool true) A λa A↦?_
    refine sda A λa A↦?_
    refine qa (hK14 _ _ (wp_cond_true (A.ev rfl) ?_))
    refine wsk fun K16 hK16 => wrl (sdo (v := .agg (qe.d.cells qe.ts.length).toArray) A (za rfl (fun w => by kernel_rfl)) λa A↦?_)
    refine qx (us := (qe.d.cells qe.ts.length)) (L' := (.row 30 11 (.slice so7 ys.length ca7) ys.length (cellsOf ys) :: .obj g4 (.cells (qe.d.cells qe.ts.length).toArray 30) :: .obj g2 (.cells (t.d.cells t.ts.length).toArray 30) :: [])) A M rfl rfl (qk rfl rfl rfl (by kernel_rfl) M 1 rfl rfl rfl) 1 rfl rfl rfl ?_
    intro w17 M
    refine sda A λa A↦?_
    refine qa (hK16 _ _ (wp_ret (hret _ _ (en2 A rfl (qw M LiG_isS_30 rfl 1 rfl (cs := [.int .i64 0, .int .i64 0, .bool false, .slice none 0 0, .slice none 0 0, .bool false, .slice none 0 0, .slice none 0 0, .string (⟨#[]⟩), .slice none 0 0, .slice none 0 0]) rfl rfl) (qf rfl) ?_))))
    exact ⟨qe, 1, rfl, ⟨jc _, xi _, by unfold yx; rw [if_neg (by rw [hb7]; decide), hy1]; show _ = if _ then _ else _; rw [List.length_map, if_pos (by omega), jb]⟩, M.bel⟩
   ·
    have hb15' := of_decide_eq_false hb15
    refine sdc A zf hb15 λa A↦?_
    iterate 3 refine sdm A λa A↦?_
    refine sdo A (qs Tryz.underlying22 rfl) λa A↦?_
    rcases tf (decide (((ys.length : Nat) : Int) < n)) with hb18 | hb18
    ·
     have hb18' := of_decide_eq_true hb18
     refine sdc A je hb18 λa A↦?_
     refine sdk (v := .bool true) A λa A↦?_
     refine sda A λa A↦?_
     refine qa (hK14 _ _ (wp_cond_true (A.ev rfl) ?_))
     refine wsk fun K19 hK19 => wrl (sdo (v := .agg (qe.d.cells qe.ts.length).toArray) A (za rfl (fun w => by kernel_rfl)) λa A↦?_)
     refine qx (us := (qe.d.cells qe.ts.length)) (L' := (.row 30 11 (.slice so7 ys.length ca7) ys.length (cellsOf ys) :: .obj g4 (.cells (qe.d.cells qe.ts.length).toArray 30) :: .obj g2 (.cells (t.d.cells t.ts.length).toArray 30) :: [])) A M rfl rfl (qk rfl rfl rfl (by kernel_rfl) M 1 rfl rfl rfl) 1 rfl rfl rfl ?_
     intro w20 M
     refine sda A λa A↦?_
     refine qa (hK19 _ _ (wp_ret (hret _ _ (en2 A rfl (qw M LiG_isS_30 rfl 1 rfl (cs := [.int .i64 0, .int .i64 0, .bool false, .slice none 0 0, .slice none 0 0, .bool false, .slice none 0 0, .slice none 0 0, .string (⟨#[]⟩), .slice none 0 0, .slice none 0 0]) rfl rfl) (qf rfl) ?_))))
     exact ⟨qe, 1, rfl, ⟨jc _, xi _, by unfold yx; rw [if_neg (by rw [hb7]; decide), hy1]; show _ = if _ then _ else _; rw [List.length_map, if_pos (by omega), jb]⟩, M.bel⟩
    ·
     have hb18' := of_decide_eq_false hb18
     refine sdc A je hb18 λa A↦?_
     refine sdk (v := .bool false) A λa A↦?_
     refine sda A λa A↦?_
     refine qa (hK14 _ _ (wp_cond_false (A.ev rfl) ?_))
     refine wp_skip (hK12 _ _ (wsk fun K21 hK21 => wrl ?_))
     iterate 2 refine sdm A λa A↦?_
     refine sdo (v := .slice ((if ca7 = n.toNat then so7 else so7.map (·.add (n.toNat * 11)))) ((ys.drop n.toNat).length) ((ca7 - n.toNat))) A ((by rw [List.length_drop]; exact qcb (sz := 11) (lo := n.toNat) Tryz.underlying22 (by kernel_rfl) rfl rfl (by omega) (by omega))) λa A↦?_
     have hlt22 := (Ck.lt (M.has 1 rfl) g4 rfl).2
     have hlt23 := (Ck.lt (M.has 2 rfl) g2 rfl).2
     have hzt2 := M.bel.size
     refine sct A (ef rfl rfl) (qid ((vj (M.has 0 rfl)).1.drop ca7 n.toNat (qfd (M.has 0 rfl))) (fun t ht => Dt.keep M.bel _ (hy2 t (List.mem_of_mem_drop ht))) (by have h7 : Tr.bulks ((ys.drop n.toNat).map Dt.tr) ≤ Tr.bulks (ys.map Dt.tr) := qui _ ; omega)) ?_
     rintro _ w25 ⟨t2, rfl, ⟨hrt2, hat2, htt2⟩, hb24⟩
     replace M := M.call hb24
     refine ⟨_, rfl, ?_⟩
     intro a A
     refine ji (us := (t2.d.cells t2.ts.length)) (L' := (.row 30 11 (.slice so7 ys.length ca7) ys.length (cellsOf ys) :: .obj g4 (.cells (t2.d.cells t2.ts.length).toArray 30) :: .obj g2 (.cells (t.d.cells t.ts.length).toArray 30) :: [])) A M rfl rfl (qk rfl rfl rfl (by kernel_rfl) M 1 rfl rfl rfl) 1 rfl rfl rfl ?_
     intro w26 M hK27
     replace hrt2 := Dt.kept hK27 _ hrt2 (Dt.at_mono (fun b hb => by rintro rfl; omega) _ hat2)
     refine sda A λa A↦?_
     refine qa (hK21 _ _ (wp_ret (hret _ _ (en2 A rfl (qw M LiG_isS_30 rfl 1 rfl (cs := [.int .i64 t2.d.k, .int .i64 t2.d.n, .bool t2.d.y.q.b1, .slice t2.d.y.o1 t2.d.y.q.t1.length t2.d.y.c1, .slice t2.d.y.o2 t2.d.y.q.q1.length t2.d.y.c2, .bool t2.d.y.q.b2, .slice t2.d.y.o3 t2.d.y.q.t2.length t2.d.y.c3, .slice t2.d.y.o4 t2.d.y.q.q2.length t2.d.y.c4, .string t2.d.s, .slice t2.d.ro t2.d.rl.length t2.d.rc, .slice t2.d.lo t2.ts.length t2.d.lc]) rfl rfl) (qf rfl) ?_))))
     exact ⟨t2, 0, rfl, ⟨hrt2, Dt.at_mono (fun b hb => Nat.le_trans hzt2 hb) _ hat2, by unfold yx; rw [if_neg (by rw [hb7]; decide), hy1]; show _ = if _ then _ else _; rw [List.length_map, if_neg (by omega), htt2, List.map_drop]⟩, M.bel⟩
  ·
   refine gcl A M (ef rfl rfl) (qbd M.bel ht (by omega) (hT.below M.bel) hb7 hb9) fun w29 hb28 M a A => ?_
   refine sdm A λa A↦?_
   iterate 2 refine sdo A (qn (vs := [.slice none 0 0, .int .i64 10]) rfl rfl) λa A↦?_
   iterate 2 refine sda A λa A↦?_
   refine qa (hK6 _ _ (wsk fun K30 hK30 => wp_block (wsk fun K31 hK31 => wrl (sdm A λa A↦?_))))
   refine sdo (v := .bool true) A (qg rfl rfl (fun w => by kernel_rfl)) λa A↦?_
   refine sda A λa A↦?_
   refine qa (hK31 _ _ (wp_cond_true (A.ev rfl) ?_))
   refine wsk fun K32 hK32 => wrl (sdo (v := .agg (qe.d.cells qe.ts.length).toArray) A (za rfl (fun w => by kernel_rfl)) λa A↦?_)
   refine sdm A λa A↦?_
   refine qx (us := (qe.d.cells qe.ts.length)) (L' := (.obj g4 (.cells (qe.d.cells qe.ts.length).toArray 30) :: .obj g2 (.cells (t.d.cells t.ts.length).toArray 30) :: [])) A M rfl rfl (qk rfl rfl rfl (by kernel_rfl) M 0 rfl rfl rfl) 0 rfl rfl rfl ?_
   intro w33 M
   refine sda A λa A↦?_
   refine qa (hK32 _ _ (wp_ret (hret _ _ (en2 A rfl (qw M LiG_isS_30 rfl 0 rfl (cs := [.int .i64 0, .int .i64 0, .bool false, .slice none 0 0, .slice none 0 0, .bool false, .slice none 0 0, .slice none 0 0, .string (⟨#[]⟩), .slice none 0 0, .slice none 0 0]) rfl rfl) (qf rfl) ?_))))
   exact ⟨qe, 10, rfl, ⟨jc _, xi _, by unfold yx; rw [if_neg (by rw [hb7]; decide), yt hb9, jb]⟩, M.bel⟩
 ·
  refine gcl A M (ef rfl rfl) (qdg M.bel ht (by omega) (hT.below M.bel) hb7) fun w35 hb34 M a A => ?_
  refine sdm A λa A↦?_
  iterate 2 refine sdo A (qn (vs := [.slice none 0 0, .int .i64 2]) rfl rfl) λa A↦?_
  iterate 2 refine sda A λa A↦?_
  refine qa (hK6 _ _ (wsk fun K36 hK36 => wp_block (wsk fun K37 hK37 => wrl (sdm A λa A↦?_))))
  refine sdo (v := .bool true) A (qg rfl rfl (fun w => by kernel_rfl)) λa A↦?_
  refine sda A λa A↦?_
  refine qa (hK37 _ _ (wp_cond_true (A.ev rfl) ?_))
  refine wsk fun K38 hK38 => wrl (sdo (v := .agg (qe.d.cells qe.ts.length).toArray) A (za rfl (fun w => by kernel_rfl)) λa A↦?_)
  refine sdm A λa A↦?_
  refine qx (us := (qe.d.cells qe.ts.length)) (L' := (.obj g4 (.cells (qe.d.cells qe.ts.length).toArray 30) :: .obj g2 (.cells (t.d.cells t.ts.length).toArray 30) :: [])) A M rfl rfl (qk rfl rfl rfl (by kernel_rfl) M 0 rfl rfl rfl) 0 rfl rfl rfl ?_
  intro w39 M
  refine sda A λa A↦?_
  refine qa (hK38 _ _ (wp_ret (hret _ _ (en2 A rfl (qw M LiG_isS_30 rfl 0 rfl (cs := [.int .i64 0, .int .i64 0, .bool false, .slice none 0 0, .slice none 0 0, .bool false, .slice none 0 0, .slice none 0 0, .string (⟨#[]⟩), .slice none 0 0, .slice none 0 0]) rfl rfl) (qf rfl) ?_))))
  exact ⟨qe, 2, rfl, ⟨jc _, xi _, by unfold yx; rw [if_pos hb7, jb]⟩, M.bel⟩
theorem qef {w : World} {t : Dt} (ht : t.rd w) (hb : t.tr.bulk ≤ 300000000) (hT : Tabs8 w) : Calls Tryz.prog 11 #[.agg (t.d.cells t.ts.length).toArray] w fun e w' => ∃ (t2 : Dt) (k : Int), e = .returned (.tuple #[.agg (t2.d.cells t2.ts.length).toArray, .int .i64 k]) ∧ (t2.rd w' ∧ t2.at_ (w.heap.size ≤ ·) ∧ (t2.tr, k) = qib t.tr) ∧ Below w.heap.size w w' := by
 have M : Mg w w ([]) := Mg.start w
 refine qp (l := [(0, .agg (t.d.cells t.ts.length).toArray)]) Tryz.func11 rfl Tryz.ntmps11 rfl rfl ?_
 intro Q hret hnorm hP a A
 refine wsk fun K1 hK1 => wrl (zr (vs := (t.d.cells t.ts.length)) (t := 30) A M rfl rfl rfl pg (zg rfl rfl) (by decide) ?_)
 intro g2 w3 M a A
 refine zr (vs := (qe.d.cells qe.ts.length)) (t := 30) A M rfl rfl rfl pg (qt (z := .agg (qe.d.cells qe.ts.length).toArray) (by kernel_rfl) rfl) (by decide) ?_
 intro g4 w5 M a A
 refine sda A λa A↦?_
 refine qa (hK1 _ _ (wsk fun K6 hK6 => wrl (sdo A (zi M LiG_isS_30 rfl 1 rfl (cs := (t.d.cells t.ts.length)) rfl rfl) λa A↦?_)))
 rcases tf (qr qi t.tr) with hb7 | hb7
 ·
  rcases tf ((zq t.tr).isSome) with hb9 | hb9
  ·
   refine sct A (ef rfl rfl) (qbc M.bel ht (by omega) (hT.below M.bel) hb7 hb9) ?_
   rintro _ w11 ⟨so7, ca7, ys, rfl, ⟨hy1, hy2, hy3⟩, hM7⟩
   have hyb := jl hy1
   replace M : Mg w w11 (.row 30 11 (.slice so7 ys.length ca7) ys.length (cellsOf ys) :: .obj g4 (.cells (qe.d.cells qe.ts.length).toArray 30) :: .obj g2 (.cells (t.d.cells t.ts.length).toArray 30) :: []) := (M.both hM7 (zb (by simp) (zb (by simp) (qy ze))) (zb (by simp) (qy ze)))
   refine ⟨_, rfl, ?_⟩
   intro a A
   refine sdm A λa A↦?_
   iterate 2 refine sdo A (qn (vs := [.slice so7 ys.length ca7, .int .i64 0]) rfl rfl) λa A↦?_
   iterate 2 refine sda A λa A↦?_
   refine qa (hK6 _ _ (wsk fun K12 hK12 => wsk fun K13 hK13 => wrl (sdm A λa A↦?_)))
   refine sdo (v := .bool false) A (qg rfl rfl (fun w => by kernel_rfl)) λa A↦?_
   refine qa (hK13 _ _ (wp_cond_false (A.ev rfl) ?_))
   refine wp_skip (hK12 _ _ (wsk fun K14 hK14 => wrl (sdm A λa A↦?_)))
   refine sct A (ef rfl rfl) (zgc (by omega) M) ?_
   rintro _ w15 ⟨rfl, hM8⟩
   replace M : Mg w w15 (.row 30 11 (.slice so7 ys.length ca7) ys.length (cellsOf ys.reverse) :: .obj g4 (.cells (qe.d.cells qe.ts.length).toArray 30) :: .obj g2 (.cells (t.d.cells t.ts.length).toArray 30) :: []) := hM8
   refine ⟨_, rfl, ?_⟩
   intro a A
   refine qa (hK14 _ _ (wsk fun K16 hK16 => wrl (sdm A λa A↦?_)))
   have hlt17 := (Ck.lt (M.has 1 rfl) g4 rfl).2
   have hlt18 := (Ck.lt (M.has 2 rfl) g2 rfl).2
   have hzt2 := M.bel.size
   refine sct A (ef rfl rfl) (quj (vj (M.has 0 rfl)).1 (fun t ht => Dt.keep M.bel _ (hy2 t (List.mem_reverse.1 ht))) (by rw [List.map_reverse, qmb]; omega)) ?_
   rintro _ w20 ⟨t2, rfl, ⟨hrt2, hat2, htt2⟩, hb19⟩
   replace M := M.call hb19
   refine ⟨_, rfl, ?_⟩
   intro a A
   refine ji (us := (t2.d.cells t2.ts.length)) (L' := (.row 30 11 (.slice so7 ys.length ca7) ys.length (cellsOf ys.reverse) :: .obj g4 (.cells (t2.d.cells t2.ts.length).toArray 30) :: .obj g2 (.cells (t.d.cells t.ts.length).toArray 30) :: [])) A M rfl rfl (qk rfl rfl rfl (by kernel_rfl) M 1 rfl rfl rfl) 1 rfl rfl rfl ?_
   intro w21 M hK22
   replace hrt2 := Dt.kept hK22 _ hrt2 (Dt.at_mono (fun b hb => by rintro rfl; omega) _ hat2)
   refine sda A λa A↦?_
   refine qa (hK16 _ _ (wp_ret (hret _ _ (en2 A rfl (qw M LiG_isS_30 rfl 1 rfl (cs := [.int .i64 t2.d.k, .int .i64 t2.d.n, .bool t2.d.y.q.b1, .slice t2.d.y.o1 t2.d.y.q.t1.length t2.d.y.c1, .slice t2.d.y.o2 t2.d.y.q.q1.length t2.d.y.c2, .bool t2.d.y.q.b2, .slice t2.d.y.o3 t2.d.y.q.t2.length t2.d.y.c3, .slice t2.d.y.o4 t2.d.y.q.q2.length t2.d.y.c4, .string t2.d.s, .slice t2.d.ro t2.d.rl.length t2.d.rc, .slice t2.d.lo t2.ts.length t2.d.lc]) rfl rfl) (qf rfl) ?_))))
   exact ⟨t2, 0, rfl, ⟨hrt2, Dt.at_mono (fun b hb => Nat.le_trans hzt2 hb) _ hat2, by unfold qib; rw [if_neg (by rw [hb7]; decide), hy1]; rw [htt2, List.map_reverse]⟩, M.bel⟩
  ·
   refine gcl A M (ef rfl rfl) (qbd M.bel ht (by omega) (hT.below M.bel) hb7 hb9) fun w24 hb23 M a A => ?_
   refine sdm A λa A↦?_
   iterate 2 refine sdo A (qn (vs := [.slice none 0 0, .int .i64 10]) rfl rfl) λa A↦?_
   iterate 2 refine sda A λa A↦?_
   refine qa (hK6 _ _ (wsk fun K25 hK25 => wsk fun K26 hK26 => wrl (sdm A λa A↦?_)))
   refine sdo (v := .bool true) A (qg rfl rfl (fun w => by kernel_rfl)) λa A↦?_
   refine qa (hK26 _ _ (wp_cond_true (A.ev rfl) ?_))
   refine wsk fun K27 hK27 => wrl (sdo (v := .agg (qe.d.cells qe.ts.length).toArray) A (za rfl (fun w => by kernel_rfl)) λa A↦?_)
   refine sdm A λa A↦?_
   refine qx (us := (qe.d.cells qe.ts.length)) (L' := (.obj g4 (.cells (qe.d.cells qe.ts.length).toArray 30) :: .obj g2 (.cells (t.d.cells t.ts.length).toArray 30) :: [])) A M rfl rfl (qk rfl rfl rfl (by kernel_rfl) M 0 rfl rfl rfl) 0 rfl rfl rfl ?_
   intro w28 M
   refine sda A λa A↦?_
   refine qa (hK27 _ _ (wp_ret (hret _ _ (en2 A rfl (qw M LiG_isS_30 rfl 0 rfl (cs := [.int .i64 0, .int .i64 0, .bool false, .slice none 0 0, .slice none 0 0, .bool false, .slice none 0 0, .slice none 0 0, .string (⟨#[]⟩), .slice none 0 0, .slice none 0 0]) rfl rfl) (qf rfl) ?_))))
   exact ⟨qe, 10, rfl, ⟨jc _, xi _, by unfold qib; rw [if_neg (by rw [hb7]; decide), yt hb9, jb]⟩, M.bel⟩
 ·
  refine gcl A M (ef rfl rfl) (qdg M.bel ht (by omega) (hT.below M.bel) hb7) fun w30 hb29 M a A => ?_
  refine sdm A λa A↦?_
  iterate 2 refine sdo A (qn (vs := [.slice none 0 0, .int .i64 2]) rfl rfl) λa A↦?_
  iterate 2 refine sda A λa A↦?_
  refine qa (hK6 _ _ (wsk fun K31 hK31 => wsk fun K32 hK32 => wrl (sdm A λa A↦?_)))
  refine sdo (v := .bool true) A (qg rfl rfl (fun w => by kernel_rfl)) λa A↦?_
  refine qa (hK32 _ _ (wp_cond_true (A.ev rfl) ?_))
  refine wsk fun K33 hK33 => wrl (sdo (v := .agg (qe.d.cells qe.ts.length).toArray) A (za rfl (fun w => by kernel_rfl)) λa A↦?_)
  refine sdm A λa A↦?_
  refine qx (us := (qe.d.cells qe.ts.length)) (L' := (.obj g4 (.cells (qe.d.cells qe.ts.length).toArray 30) :: .obj g2 (.cells (t.d.cells t.ts.length).toArray 30) :: [])) A M rfl rfl (qk rfl rfl rfl (by kernel_rfl) M 0 rfl rfl rfl) 0 rfl rfl rfl ?_
  intro w34 M
  refine sda A λa A↦?_
  refine qa (hK33 _ _ (wp_ret (hret _ _ (en2 A rfl (qw M LiG_isS_30 rfl 0 rfl (cs := [.int .i64 0, .int .i64 0, .bool false, .slice none 0 0, .slice none 0 0, .bool false, .slice none 0 0, .slice none 0 0, .string (⟨#[]⟩), .slice none 0 0, .slice none 0 0]) rfl rfl) (qf rfl) ?_))))
  exact ⟨qe, 2, rfl, ⟨jc _, xi _, by unfold qib; rw [if_pos hb7, jb]⟩, M.bel⟩
end Go.Proofs.YtipikhcmieboaaaGreatDoor.G
namespace Go.Proofs.YtipikhcmieboaaaGreatDoor
open Go.RowKit
set_option linter.unusedVariables false
set_option linter.unusedSimpArgs false
set_option maxRecDepth 100000
theorem EqO_fld_27_0 : FieldAt Tryz.prog 27 0 0 := ⟨_, _, Tryz.underlying27, rfl, rfl, by kernel_rfl⟩
theorem EqO_fld_27_1 : FieldAt Tryz.prog 27 1 3 := ⟨_, _, Tryz.underlying27, rfl, rfl, by kernel_rfl⟩
theorem EqO_isS_25 : IsS Tryz.prog 25 3 := ⟨⟨_, Tryz.underlying25⟩, by kernel_rfl⟩
theorem qvb {w : World} {p q : Q6} {a1 a2 a3 a4 : Option Addr} {ac1 ac2 ac3 ac4 : Nat} (ha : Nm w p a1 ac1 a2 ac2 a3 ac3 a4 ac4) (hl : LenQ p) {u1 u2 u3 u4 : Option Addr} {uc1 uc2 uc3 uc4 : Nat} (hu : Nm w q u1 uc1 u2 uc2 u3 uc3 u4 uc4) (hm : LenQ q) {r : Bool} (hr : (vi p.b1 p.t1 p.q1 q.b1 q.t1 q.q1 && vi p.b2 p.t2 p.q2 q.b2 q.t2 q.q2) = r) : Calls Tryz.prog 43 #[zbb p a1 ac1 a2 ac2 a3 ac3 a4 ac4, zbb q u1 uc1 u2 uc2 u3 uc3 u4 uc4] w fun e w' => e = .returned (.bool r) ∧ Below w.heap.size w w' := by
 have S : St w w [] [(u4, q.q2), (u3, q.t2), (u2, q.q1), (u1, q.t1), (a4, p.q2), (a3, p.t2), (a2, p.q1), (a1, p.t1)] [] := ((((((((St.start w).addR ha.s1.rd).addR ha.s2.rd).addR ha.s3.rd).addR ha.s4.rd).addR hu.s1.rd).addR hu.s2.rd).addR hu.s3.rd).addR hu.s4.rd
 refine qp (l := [(0, .agg #[.bool p.b1, .slice a1 p.t1.length ac1, .slice a2 p.q1.length ac2, .bool p.b2, .slice a3 p.t2.length ac3, .slice a4 p.q2.length ac4]), (1, .agg #[.bool q.b1, .slice u1 q.t1.length uc1, .slice u2 q.q1.length uc2, .bool q.b2, .slice u3 q.t2.length uc3, .slice u4 q.q2.length uc4])]) Tryz.func43 rfl Tryz.ntmps43 rfl rfl ?_
 intro Q hret hnorm hP a A
 refine wsk fun K1 hK1 => wrl (kb A S rfl rfl rfl pg (zg rfl rfl) rfl ?_)
 intro g2 w3 S a A
 refine kb A S rfl rfl rfl pg (zg rfl rfl) rfl ?_
 intro g4 w5 S a A
 refine sda A λa A↦?_
 refine qa (hK1 _ _ (wsk fun K6 hK6 => wrl (sdo (v := .pointer (some ⟨g2, 0, none⟩)) A (qb EqO_fld_27_0 rfl rfl) λa A↦?_)))
 refine sdo A (vm S EqO_isS_25 rfl 1 rfl (cs := [.bool p.b1, .slice a1 p.t1.length ac1, .slice a2 p.q1.length ac2]) rfl rfl) λa A↦?_
 refine sdo (v := .pointer (some ⟨g4, 0, none⟩)) A (qb EqO_fld_27_0 rfl rfl) λa A↦?_
 refine sdo A (vm S EqO_isS_25 rfl 0 rfl (cs := [.bool q.b1, .slice u1 q.t1.length uc1, .slice u2 q.q1.length uc2]) rfl rfl) λa A↦?_
 rcases tf (vi p.b1 p.t1 p.q1 q.b1 q.t1 q.q1) with hb7 | hb7
 ·
  refine sct A (ef rfl rfl) (ku ⟨(S.rd 7 rfl), ha.s1.nil, ha.s1.cap⟩ ⟨(S.rd 6 rfl), ha.s2.nil, ha.s2.cap⟩ ⟨(S.rd 3 rfl), hu.s1.nil, hu.s1.cap⟩ ⟨(S.rd 2 rfl), hu.s2.nil, hu.s2.cap⟩ hl.l1 hl.l2 hm.l1 hm.l2 hb7) ?_
  rintro _ w9 ⟨rfl, hb8⟩
  replace S := S.call hb8
  refine ⟨_, rfl, ?_⟩
  intro a A
  refine sdm A λa A↦?_
  refine sdo (v := .pointer (some ⟨g2, 3, none⟩)) A (qb EqO_fld_27_1 rfl rfl) λa A↦?_
  refine sdo A (vm S EqO_isS_25 rfl 1 rfl (cs := [.bool p.b2, .slice a3 p.t2.length ac3, .slice a4 p.q2.length ac4]) rfl rfl) λa A↦?_
  refine sdo (v := .pointer (some ⟨g4, 3, none⟩)) A (qb EqO_fld_27_1 rfl rfl) λa A↦?_
  refine sdo A (vm S EqO_isS_25 rfl 0 rfl (cs := [.bool q.b2, .slice u3 q.t2.length uc3, .slice u4 q.q2.length uc4]) rfl rfl) λa A↦?_
  rcases tf (vi p.b2 p.t2 p.q2 q.b2 q.t2 q.q2) with hb10 | hb10
  ·
   refine sct A (ef rfl rfl) (ku ⟨(S.rd 5 rfl), ha.s3.nil, ha.s3.cap⟩ ⟨(S.rd 4 rfl), ha.s4.nil, ha.s4.cap⟩ ⟨(S.rd 1 rfl), hu.s3.nil, hu.s3.cap⟩ ⟨(S.rd 0 rfl), hu.s4.nil, hu.s4.cap⟩ hl.l3 hl.l4 hm.l3 hm.l4 hb10) ?_
   rintro _ w12 ⟨rfl, hb11⟩
   replace S := S.call hb11
   refine ⟨_, rfl, ?_⟩
   intro a A
   refine sdk (v := .bool true) A λa A↦?_
   refine sda A λa A↦?_
   refine qa (hK6 _ _ (wp_ret (hret _ _ (en1 A rfl (qf rfl) ?_))))
   subst hr
   exact ⟨by rw [hb7, hb10]; try rfl, S.bel⟩
  ·
   refine sct A (ef rfl rfl) (ku ⟨(S.rd 5 rfl), ha.s3.nil, ha.s3.cap⟩ ⟨(S.rd 4 rfl), ha.s4.nil, ha.s4.cap⟩ ⟨(S.rd 1 rfl), hu.s3.nil, hu.s3.cap⟩ ⟨(S.rd 0 rfl), hu.s4.nil, hu.s4.cap⟩ hl.l3 hl.l4 hm.l3 hm.l4 hb10) ?_
   rintro _ w14 ⟨rfl, hb13⟩
   replace S := S.call hb13
   refine ⟨_, rfl, ?_⟩
   intro a A
   refine sdk (v := .bool false) A λa A↦?_
   refine sda A λa A↦?_
   refine qa (hK6 _ _ (wp_ret (hret _ _ (en1 A rfl (qf rfl) ?_))))
   subst hr
   exact ⟨by rw [hb7, hb10]; try rfl, S.bel⟩
 ·
  refine sct A (ef rfl rfl) (ku ⟨(S.rd 7 rfl), ha.s1.nil, ha.s1.cap⟩ ⟨(S.rd 6 rfl), ha.s2.nil, ha.s2.cap⟩ ⟨(S.rd 3 rfl), hu.s1.nil, hu.s1.cap⟩ ⟨(S.rd 2 rfl), hu.s2.nil, hu.s2.cap⟩ hl.l1 hl.l2 hm.l1 hm.l2 hb7) ?_
  rintro _ w16 ⟨rfl, hb15⟩
  replace S := S.call hb15
  refine ⟨_, rfl, ?_⟩
  intro a A
  refine sdm A λa A↦?_
  iterate 5 refine qh A rfl rfl rfl λa A↦?_
  refine sdk (v := .bool false) A λa A↦?_
  refine sda A λa A↦?_
  refine qa (hK6 _ _ (wp_ret (hret _ _ (en1 A rfl (qf rfl) ?_))))
  subst hr
  exact ⟨by rw [hb7]; try rfl, S.bel⟩

end Go.Proofs.YtipikhcmieboaaaGreatDoor
namespace Go.Proofs.YtipikhcmieboaaaGreatDoor.G
open Go.RowKit
set_option linter.unusedVariables false
set_option linter.unusedSimpArgs false
/-! ### The same trees, by the document -/
mutual
def yy : Tr → Tr → Bool
  | .mk k n q s rl ts, u => (decide (k = u.k) && (decide (n = u.n) && (decide (s = u.s) && (decide (rl = u.rl) && (vi q.b1 q.t1 q.q1 u.q.b1 u.q.t1 u.q.q1 && vi q.b2 q.t2 q.q2 u.q.b2 u.q.t2 u.q.q2))))) && (decide (ts.length = u.ts.length) && ka ts u.ts)
def ka : List Tr → List Tr → Bool
  | [], _ => true
  | _ :: _, [] => true
  | t :: ts, u :: us => yy t u && ka ts us
end
theorem qzg {b b' : Bool} {t q t' q' : List Nat} : vi b t q b' t' q' = true ↔ b = b' ∧ t = t' ∧ q = q' := by
  unfold vi
  simp
theorem zdd (k n : Int) (q : Q6) (s : ByteArray) (rl : List UInt8) (ts : List Tr) (k' n' : Int) (q' : Q6) (s' : ByteArray) (rl' : List UInt8) (ts' : List Tr) : yy (.mk k n q s rl ts) (.mk k' n' q' s' rl' ts') = true ↔ k = k' ∧ n = n' ∧ q = q' ∧ s = s' ∧ rl = rl' ∧ ts.length = ts'.length ∧ ka ts ts' = true := by
  rw [yy]
  show ((decide (k = k') && (decide (n = n') && (decide (s = s') && (decide (rl = rl') && (vi q.b1 q.t1 q.q1 q'.b1 q'.t1 q'.q1 && vi q.b2 q.t2 q.q2 q'.b2 q'.t2 q'.q2))))) && (decide (ts.length = ts'.length) && ka ts ts')) = true ↔ _
  simp only [Bool.and_eq_true, decide_eq_true_eq, qzg]
  constructor
  · rintro ⟨⟨a, b, c, d, ⟨e1, e2, e3⟩, f1, f2, f3⟩, g, h⟩
    refine ⟨a, b, ?_, c, d, g, h⟩
    cases q; cases q'
    simp_all
  · rintro ⟨a, b, c, d, e, f, g⟩
    subst c
    exact ⟨⟨a, b, d, e, ⟨rfl, rfl, rfl⟩, rfl, rfl, rfl⟩, f, g⟩
theorem qsc {ts : List Tr} (h : ∀ t ∈ ts, ∀ u, yy t u = true ↔ t = u) : ∀ us : List Tr, ts.length = us.length → (ka ts us = true ↔ ts = us) := by
  induction ts with
  | nil =>
    intro us hl
    cases us with
    | nil => simp [ka]
    | cons u us => simp at hl
  | cons t ts ih =>
    intro us hl
    cases us with
    | nil => simp at hl
    | cons u us =>
      rw [ka, Bool.and_eq_true, h t List.mem_cons_self u, ih (fun x hx => h x (List.mem_cons_of_mem _ hx)) us (by simpa using hl)]
      simp
theorem uh : ∀ t u : Tr, yy t u = true ↔ t = u := by
  refine Tr.indT fun k n q s rl ts ih u => ?_
  obtain ⟨k', n', q', s', rl', ts'⟩ := u
  rw [zdd]
  constructor
  · rintro ⟨a, b, c, d, e, f, g⟩
    rw [a, b, c, d, e, (qsc ih ts' f).1 g]
  · intro h
    cases h
    exact ⟨rfl, rfl, rfl, rfl, rfl, rfl, (qsc ih ts rfl).2 rfl⟩
theorem qsd {ts us : List Dt} {i : Nat} {t u : Dt} (hi : ts[i]? = some t) (hj : us[i]? = some u) : ka ((ts.map Dt.tr).drop i) ((us.map Dt.tr).drop i) = (yy t.tr u.tr && ka ((ts.map Dt.tr).drop (i + 1)) ((us.map Dt.tr).drop (i + 1))) := by
  rw [yb hi, yb hj, ka]
theorem qzh {ts us : List Dt} {i : Nat} (h : ¬ i < ts.length) : ka ((ts.map Dt.tr).drop i) ((us.map Dt.tr).drop i) = true := by
  rw [um h, ka]
theorem qse (p r : Dt) : yy p.tr r.tr = ((decide (p.d.k = r.d.k) && (decide (p.d.n = r.d.n) && (decide (p.d.s = r.d.s) && (decide (p.d.rl = r.d.rl) && (vi p.d.y.q.b1 p.d.y.q.t1 p.d.y.q.q1 r.d.y.q.b1 r.d.y.q.t1 r.d.y.q.q1 && vi p.d.y.q.b2 p.d.y.q.t2 p.d.y.q.q2 r.d.y.q.b2 r.d.y.q.t2 r.d.y.q.q2))))) && (decide (p.ts.length = r.ts.length) && ka (p.ts.map Dt.tr) (r.ts.map Dt.tr))) := by
  rw [Dt.tr_eta p, Dt.tr_eta r, yy, List.length_map]
  show _ = (_ && (decide (p.ts.length = r.ts.length) && _))
  rw [show (Tr.mk r.d.k r.d.n r.d.y.q r.d.s r.d.rl (r.ts.map Dt.tr)).ts.length = r.ts.length from List.length_map _]
  rfl
def SQ2 (p r : Dt) : Bool := vi p.d.y.q.b1 p.d.y.q.t1 p.d.y.q.q1 r.d.y.q.b1 r.d.y.q.t1 r.d.y.q.q1 && vi p.d.y.q.b2 p.d.y.q.t2 p.d.y.q.q2 r.d.y.q.b2 r.d.y.q.t2 r.d.y.q.q2
theorem yv {p r : Dt} (h : p.d.k ≠ r.d.k ∨ p.d.n ≠ r.d.n ∨ p.d.s ≠ r.d.s ∨ p.d.rl ≠ r.d.rl ∨ p.ts.length ≠ r.ts.length ∨ SQ2 p r = false) : yy p.tr r.tr = false := by
  rw [qse]
  unfold SQ2 at h
  rcases h with h | h | h | h | h | h <;> simp [h]
theorem zde {p r : Dt} (h1 : p.d.k = r.d.k) (h2 : p.d.n = r.d.n) (h3 : p.d.s = r.d.s) (h4 : p.d.rl = r.d.rl) (h5 : p.ts.length = r.ts.length) (h6 : SQ2 p r = true) : yy p.tr r.tr = ka (p.ts.map Dt.tr) (r.ts.map Dt.tr) := by
  rw [qse]
  unfold SQ2 at h6
  rw [decide_eq_true h1, decide_eq_true h2, decide_eq_true h3, decide_eq_true h4, decide_eq_true h5, h6]
  simp
theorem qzi {a b : List UInt8} (hl : a.length = b.length) (h : ∀ j, j < a.length → a.getD j 0 = b.getD j 0) : a = b := by
  apply List.ext_getElem hl
  intro j h1 h2
  have := h j h1
  rwa [show a.getD j 0 = a[j] from by simp [List.getD, List.getElem?_eq_getElem h1], show b.getD j 0 = b[j] from by simp [List.getD, List.getElem?_eq_getElem h2]] at this
theorem zjc {a b : List UInt8} {i : Nat} (h : (((a.getD i 0).toNat : Nat) : Int) ≠ (((b.getD i 0).toNat : Nat) : Int)) : a ≠ b := fun e => h (by rw [e])
theorem zjd {a b : UInt8} (h : ((a.toNat : Nat) : Int) = ((b.toNat : Nat) : Int)) : a = b := UInt8.toNat_inj.1 (by omega)
set_option maxRecDepth 100000
theorem TrU_is1_21 : Is1 Tryz.prog 21 := ⟨⟨_, Tryz.underlying21, rfl⟩, by kernel_rfl⟩
theorem TrU_is1_5 : Is1 Tryz.prog 5 := ⟨⟨_, Tryz.underlying5, rfl⟩, by kernel_rfl⟩
open Go.Lib
theorem qeh {f p : Nat} {l : List UInt8} (hl : l ≠ []) : xy (f + 1) p l = ((p : Int), uR (decodeL l).1 (decodeL l).2) :: xy f (p + (decodeL l).2) (l.drop (decodeL l).2) := by
 conv => lhs; unfold xy
 rw [if_neg hl]
theorem qfh {w : World} {so : Option Addr} {l : List UInt8} {i : Nat} (h : Rb w so l) (hi : i < l.length) : ∃ b off, so = some ⟨b, off, none⟩ ∧ b < w.heap.size ∧ ∀ j, j < l.length → w.cell? ⟨b, off + j, none⟩ = some (.int .u8 (((l.getD j 0).toNat : Nat) : Int)) :=
 h.pos (fun k => by rw [k] at hi; exact absurd hi (Nat.not_lt_zero _))
/-- Units as the document keeps them: a character, whether there is none, its place. -/
def jj (us : List (Int × Int)) : List Value := us.flatMap fun u => if u.2 = -1 then [.int .i32 0, .bool true, .int .i64 u.1] else [.int .i32 u.2, .bool false, .int .i64 u.1]
theorem qpc {x : Int} (i : Nat) (m : Int) (hm : m = ((2 ^ i - 1 : Nat) : Int)) (hs : m ≤ 255) (h0 : 0 ≤ x) (h1 : x ≤ 255) : bits .and .u8 x m = x % ((2 ^ i : Nat) : Int) := by
 obtain ⟨n, rfl⟩ : ∃ n : Nat, x = (n : Int) := ⟨x.toNat, by omega⟩
 subst hm
 have h2 : n &&& (2 ^ i - 1) = n % 2 ^ i := Nat.and_two_pow_sub_one_eq_mod n i
 have e : (BitVec.ofInt IntKind.u8.bits (n : Int) &&& BitVec.ofInt IntKind.u8.bits (((2 ^ i - 1 : Nat)) : Int)).toNat = n % 2 ^ i := by
  rw [← h2, BitVec.ofInt_natCast, BitVec.ofInt_natCast, BitVec.toNat_and, BitVec.toNat_ofNat, BitVec.toNat_ofNat]
  show n % 256 &&& (2 ^ i - 1) % 256 = _
  rw [Nat.mod_eq_of_lt (by omega), Nat.mod_eq_of_lt (by omega)]
 show IntKind.u8.wrap ((BitVec.ofInt IntKind.u8.bits (n : Int) &&& BitVec.ofInt IntKind.u8.bits (((2 ^ i - 1 : Nat)) : Int)).toNat : Int) = _
 rw [e]
 have := Nat.mod_le n (2 ^ i)
 exact (in_u8 (by omega) (by omega)).trans (Int.natCast_emod n (2 ^ i))
theorem zie {c x : Int} (h0 : 0 ≤ c) (h1 : c ≤ 33554431) (h2 : 0 ≤ x) (h3 : x ≤ 63) : bits .or .i32 (c * 64) x = c * 64 + x := by
 obtain ⟨a, rfl⟩ : ∃ a : Nat, c = (a : Int) := ⟨c.toNat, by omega⟩
 obtain ⟨n, rfl⟩ : ∃ n : Nat, x = (n : Int) := ⟨x.toNat, by omega⟩
 have := Nat.two_pow_add_eq_or_of_lt (i := 6) (b := n) (by omega) a
 rw [show (2 : Nat) ^ 6 = 64 from rfl] at this
 have e := zhe (64 * a) n (by omega) (by omega)
 rw [show (((64 * a : Nat)) : Int) = (a : Int) * 64 from by omega] at e
 rw [e, ← this]
 omega
/-- The units from a place on. -/
def qei (l : List UInt8) (i : Nat) : List (Int × Int) := xy (l.length - i) i (l.drop i)
theorem qvc (l : List UInt8) : qei l 0 = jg l := by unfold qei jg; rw [List.drop_zero, Nat.sub_zero]
theorem qvd {l : List UInt8} {i : Nat} (h : ¬ i < l.length) : qei l i = [] := by unfold qei; rw [show l.length - i = 0 from by omega]; rfl
theorem qie {l : List UInt8} {i r q : Nat} (h : i < l.length) (e : decodeN (l.length - i) (l.getD i 0).toNat (l.getD (i + 1) 0).toNat (l.getD (i + 2) 0).toNat (l.getD (i + 3) 0).toNat = (r, q)) : qei l i = ((i : Int), uR r q) :: qei l (i + q) := by
 have hne : l.drop i ≠ [] := fun k => by
  have := congrArg List.length k
  rw [List.length_drop, List.length_nil] at this
  omega
 have hd : decodeL (l.drop i) = (r, q) := by
  rw [decodeL_N, yj, yj, yj, yj, List.length_drop]
  exact e
 have hw := kq _ hne
 rw [hd, List.length_drop] at hw
 simp only at hw
 unfold qei
 obtain ⟨m, hm⟩ : ∃ m, l.length - i = m + 1 := ⟨l.length - i - 1, by omega⟩
 rw [hm, qeh hne, hd, List.drop_drop]
 simp only
 rw [qdi m (l.length - (i + q)) _ _ (by rw [List.length_drop]; omega) (by rw [List.length_drop]; omega)]
/-- What the first byte of a character says. -/
def LeadU (x n : Nat) (r : Int) : Prop := (x < 128 ∧ n = 1 ∧ r = x) ∨ (192 ≤ x ∧ x < 224 ∧ n = 2 ∧ r = x % 32) ∨ (224 ≤ x ∧ x < 240 ∧ n = 3 ∧ r = x % 16) ∨ (240 ≤ x ∧ x < 248 ∧ n = 4 ∧ r = x % 8) ∨ ((128 ≤ x ∧ x < 192 ∨ 248 ≤ x) ∧ n = 0 ∧ r = 0)
/-- The bytes behind it, so far. -/
def ContU (len i n : Nat) (b1 b2 b3 : Nat) (r : Int) (k : Nat) (rk : Int) (ok : Bool) : Prop := (ok = true ∧ 0 < n ∧ i + n ≤ len ∧ k ≤ n ∧ ((k = 1 ∧ rk = r) ∨ (k = 2 ∧ b1 / 64 = 2 ∧ rk = r * 64 + ((b1 % 64 : Nat) : Int)) ∨ (k = 3 ∧ b1 / 64 = 2 ∧ b2 / 64 = 2 ∧ rk = (r * 64 + ((b1 % 64 : Nat) : Int)) * 64 + ((b2 % 64 : Nat) : Int)) ∨ (k = 4 ∧ b1 / 64 = 2 ∧ b2 / 64 = 2 ∧ b3 / 64 = 2 ∧ rk = ((r * 64 + ((b1 % 64 : Nat) : Int)) * 64 + ((b2 % 64 : Nat) : Int)) * 64 + ((b3 % 64 : Nat) : Int)))) ∨
 (ok = false ∧ (¬ (0 < n ∧ i + n ≤ len) ∨ (1 < n ∧ b1 / 64 ≠ 2) ∨ (2 < n ∧ b2 / 64 ≠ 2) ∨ (3 < n ∧ b3 / 64 ≠ 2)))
def qbe (n : Nat) : Int := if n = 2 then 128 else if n = 3 then 2048 else 65536
theorem zdf {n : Nat} (h0 : 2 ≤ n) (h1 : n ≤ 4) : ([.int .i32 0, .int .i32 0, .int .i32 128, .int .i32 2048, .int .i32 65536] : List Value)[n * 1]? = some (.int .i32 (qbe n)) := by
 have h : n = 2 ∨ n = 3 ∨ n = 4 := by omega
 rcases h with rfl | rfl | rfl <;> rfl
theorem zif {x n : Nat} {r : Int} (h : LeadU x n r) : n ≤ 4 ∧ 0 ≤ r ∧ r ≤ 127 ∧ (1 < n → r ≤ 31) := by unfold LeadU at h; omega
theorem qve {len i n b1 b2 b3 : Nat} {r : Int} {ok : Bool} (h : ok = decide (0 < n ∧ i + n ≤ len)) : ContU len i n b1 b2 b3 r 1 r ok := by
 unfold ContU
 by_cases k : 0 < n ∧ i + n ≤ len
 ·
  exact .inl ⟨by rw [h, decide_eq_true k], k.1, k.2, by omega, .inl ⟨rfl, rfl⟩⟩
 ·
  exact .inr ⟨by rw [h, decide_eq_false k], .inl k⟩
theorem qzj {l : List UInt8} {i n k : Nat} {r rk : Int} (hn : n ≤ 4) (h : ContU l.length i n (l.getD (i + 1) 0).toNat (l.getD (i + 2) 0).toNat (l.getD (i + 3) 0).toNat r k rk true) (hk : k < n) : ContU l.length i n (l.getD (i + 1) 0).toNat (l.getD (i + 2) 0).toNat (l.getD (i + 3) 0).toNat r (k + 1) (rk * 64 + (((l.getD (i + k) 0).toNat : Nat) : Int) % 64) ((((l.getD (i + k) 0).toNat : Nat) : Int) / 64 == 2) := by
 rcases h with ⟨_, h1, h2, h3, h4⟩ | ⟨h, _⟩
 ·
  unfold ContU
  have e : k = 1 ∨ k = 2 ∨ k = 3 := by omega
  rcases e with rfl | rfl | rfl
  ·
   by_cases hb : (((l.getD (i + 1) 0).toNat : Nat) : Int) / 64 = 2
   ·
    exact .inl ⟨beq_iff_eq.2 hb, h1, h2, by omega, by omega⟩
   ·
    exact .inr ⟨beq_eq_false_iff_ne.2 hb, by omega⟩
  ·
   by_cases hb : (((l.getD (i + 2) 0).toNat : Nat) : Int) / 64 = 2
   ·
    exact .inl ⟨beq_iff_eq.2 hb, h1, h2, by omega, by omega⟩
   ·
    exact .inr ⟨beq_eq_false_iff_ne.2 hb, by omega⟩
  ·
   by_cases hb : (((l.getD (i + 3) 0).toNat : Nat) : Int) / 64 = 2
   ·
    exact .inl ⟨beq_iff_eq.2 hb, h1, h2, by omega, by omega⟩
   ·
    exact .inr ⟨beq_eq_false_iff_ne.2 hb, by omega⟩
 ·
  cases h
theorem kg {len i n b1 b2 b3 k : Nat} {r rk : Int} (h : ContU len i n b1 b2 b3 r k rk true) : 0 < n ∧ i + n ≤ len ∧ k ≤ n ∧ 1 ≤ k ∧ (0 ≤ r → r ≤ 31 → k ≤ 3 → 0 ≤ rk ∧ rk ≤ 200000) ∧ (0 ≤ r → r ≤ 31 → 0 ≤ rk ∧ rk ≤ 40000000) ∧ (k = 1 → rk = r) := by
 rcases h with ⟨_, h1, h2, h3, h4⟩ | ⟨h, _⟩
 ·
  omega
 ·
  cases h
def EndU (len i n : Nat) (b0 b1 b2 b3 : Nat) (rk : Int) (ok : Bool) : Prop := (ok = true ∧ decodeN (len - i) b0 b1 b2 b3 = (rk.toNat, n) ∧ uR rk.toNat n = rk ∧ 0 ≤ rk ∧ 1 ≤ n ∧ i + n ≤ len) ∨ (ok = false ∧ decodeN (len - i) b0 b1 b2 b3 = (65533, 1))
set_option maxHeartbeats 1000000 in
theorem qvf {len i n b0 b1 b2 b3 : Nat} {r rk : Int} (hi : i < len) (h0 : b0 < 256) (hL : LeadU b0 n r) (hC : ContU len i n b1 b2 b3 r n rk true) (h : n = 1 ∨ (qbe n ≤ rk ∧ rk ≤ 1114111 ∧ (rk < 55296 ∨ 57343 < rk))) : EndU len i n b0 b1 b2 b3 rk true := by
 rcases hC with ⟨_, h1, h2, h3, h4⟩ | ⟨h, _⟩
 ·
  unfold LeadU at hL
  unfold qbe at h
  have hn : n = 1 ∨ n = 2 ∨ n = 3 ∨ n = 4 := by omega
  refine .inl ⟨rfl, ?_, ?_, by rcases hn with rfl | rfl | rfl | rfl <;> omega, h1, h2⟩
  ·
   unfold decodeN
   rcases hn with rfl | rfl | rfl | rfl
   ·
    rw [if_pos (by omega)]
    exact Prod.ext (by show b0 = rk.toNat; omega) rfl
   ·
    simp only [if_true] at h
    rw [if_neg (by omega), if_pos (by omega), if_pos (by omega)]
    exact Prod.ext (by show (_ : Nat) = rk.toNat; omega) rfl
   ·
    rw [if_neg (show ¬ 3 = 2 by decide), if_pos rfl] at h
    rw [if_neg (by omega), if_neg (by omega), if_pos (by omega), if_pos (by omega)]
    exact Prod.ext (by show (_ : Nat) = rk.toNat; omega) rfl
   ·
    rw [if_neg (show ¬ 4 = 2 by decide), if_neg (show ¬ 4 = 3 by decide)] at h
    rw [if_neg (by omega), if_neg (by omega), if_neg (by omega), if_pos (by omega), if_pos (by omega)]
    exact Prod.ext (by show (_ : Nat) = rk.toNat; omega) rfl
  ·
   unfold uR
   rw [if_neg (by rcases hn with rfl | rfl | rfl | rfl <;> omega)]
   rcases hn with rfl | rfl | rfl | rfl <;> omega
 ·
  cases h
set_option maxHeartbeats 1000000 in
theorem qpd {len i n b0 b1 b2 b3 k : Nat} {r rk : Int} {ok : Bool} (hi : i < len) (h0 : b0 < 256) (hL : LeadU b0 n r) (hC : ContU len i n b1 b2 b3 r k rk ok) (hk : ok = true → k = n) (h : ok = false ∨ (n ≠ 1 ∧ ¬ (qbe n ≤ rk ∧ rk ≤ 1114111 ∧ (rk < 55296 ∨ 57343 < rk)))) : EndU len i n b0 b1 b2 b3 rk false := by
 refine .inr ⟨rfl, ?_⟩
 unfold LeadU at hL
 unfold decodeN
 rcases hC with ⟨hb, h1, h2, h3, h4⟩ | ⟨hb, h4⟩
 ·
  have hkn := hk hb
  subst hkn
  rcases h with h | ⟨h5, h6⟩
  ·
   rw [hb] at h; cases h
  ·
   have hn : k = 2 ∨ k = 3 ∨ k = 4 := by omega
   unfold qbe at h6
   rcases hn with rfl | rfl | rfl
   ·
    simp only [if_true] at h6
    rw [if_neg (by omega), if_pos (by omega), if_neg (by omega)]
   ·
    rw [if_neg (show ¬ 3 = 2 by decide), if_pos rfl] at h6
    rw [if_neg (by omega), if_neg (by omega), if_pos (by omega), if_neg (by omega)]
   ·
    rw [if_neg (show ¬ 4 = 2 by decide), if_neg (show ¬ 4 = 3 by decide)] at h6
    rw [if_neg (by omega), if_neg (by omega), if_neg (by omega), if_pos (by omega), if_neg (by omega)]
 ·
  rw [if_neg (by omega), if_neg (by omega), if_neg (by omega), if_neg (by omega)]
set_option maxHeartbeats 4000000 in
theorem zaa {w : World} {so : Option Addr} {cap : Nat} {l : List UInt8} (hb : Rb w so l) (hlen : l.length ≤ 4000000) : Calls Tryz.prog 117 #[.slice so l.length cap] w fun e w' => ∃ v, e = .returned v ∧ Mg w w' [.row 109 3 v (jg l).length (jj (jg l))] := by
 have M : Mg w w ([]) := Mg.start w
 refine qp (l := [(0, .slice so l.length cap)]) Tryz.func117 rfl Tryz.ntmps117 rfl rfl ?_
 intro Q hret hnorm hP a A
 refine wsk fun K1 hK1 => wrl (sda A λa A↦?_)
 refine qa (hK1 _ _ (wsk fun K2 hK2 => wrl (kv (e := 109) (sz := 3) (m := 0) (vs := []) A M rfl rfl rfl (zh rfl (by kernel_rfl)) rfl rfl (.inl (by decide)) ?_)))
 intro g3 w4 M a A
 refine sda A λa A↦?_
 refine qa (hK2 _ _ (wsk fun K5 hK5 => wsk fun K6 hK6 => wrl (sda A λa A↦?_)))
 refine qa (hK6 _ _ (wp_block (zx (fun m_ a w1 => ∃ (i : Nat) (acc : List (Int × Int)) (vo : Value), m_ = l.length - i ∧ (acc ++ qei l i = jg l ∧ i ≤ l.length ∧ acc.length ≤ i) ∧ Sl a 122 [(0, .slice so l.length cap), (2, .slice none 0 0), (3, vo), (4, .int .i64 (((i : Nat) : Int))), (12, .slice (some ⟨g3, 0, none⟩) 0 0)] ∧ Mg w w1 (.row 109 3 (vo) acc.length ((jj acc)) :: [])) _ ⟨0, [], .slice (some ⟨g3, 0, none⟩) 0 0, rfl, ⟨by rw [qvc]; rfl, Nat.zero_le _, Nat.le_refl _⟩, A.keep _ ⟨rfl, rfl, rfl, rfl, rfl, trivial⟩, M⟩ ?_)))
 clear M A
 rintro m_ a w7 ⟨i, acc, vo, rfl, hinv9, A, M⟩ K8 hK8
 obtain ⟨hrun, hi9, hacc⟩ := hinv9
 refine wsk fun K10 hK10 => wsk fun K11 hK11 => wrl ?_
 iterate 2 refine sdm A λa A↦?_
 refine sdo A (qs Tryz.underlying28 rfl) λa A↦?_
 rcases tf (decide (((i : Nat) : Int) < ((l.length : Nat) : Int))) with hb12 | hb12
 ·
  have hb12' := of_decide_eq_true hb12
  refine sdc A zf hb12 λa A↦?_
  refine qa (hK11 _ _ (wp_cond_true (A.ev rfl) ?_))
  refine wp_skip (hK10 _ _ (wp_block (wsk fun K13 hK13 => wrl ?_)))
  iterate 2 refine sda A λa A↦?_
  refine qa (hK13 _ _ (wsk fun K14 hK14 => ?_))
  have hi8 : i < l.length := by omega
  refine wrl ?_
  iterate 2 refine sdm A λa A↦?_
  obtain ⟨bx, ox, hx1, hx2, hx3⟩ := qfh (i := i) hb (by omega)
  have hu9 := (l.getD (i) 0).toNat_lt
  refine sdo (v := .pointer (some ⟨bx, ox + (i), none⟩)) A (js (k := i) Tryz.underlying28 (by kernel_rfl) rfl rfl rfl hx1 (by omega)) λa A↦?_
  refine sdo (v := .int .u8 ((((l.getD i 0).toNat : Nat) : Int))) A (qfb M hx2 (hx3 (i) (by omega)) TrU_is1_5 rfl) λa A↦?_
  refine sda A λa A↦?_
  refine qa (hK14 _ _ (wsk fun K15 hK15 => ?_))
  have hJ16 : ∀ a w1, (∃ (n : Nat) (r : Int), (LeadU (l.getD i 0).toNat n r) ∧ Sl a 122 [(0, .slice so l.length cap), (2, .slice none 0 0), (3, vo), (4, .int .i64 (((i : Nat) : Int))), (5, .int .i64 (((n : Nat) : Int))), (6, .int .i32 r), (12, .slice (some ⟨g3, 0, none⟩) 0 0), (13, .int .i64 (((i : Nat) : Int))), (14, .slice so l.length cap), (15, .int .i64 (((l.length : Nat) : Int))), (16, .bool true), (17, .slice so l.length cap), (18, .int .i64 (((i : Nat) : Int))), (19, .pointer (some ⟨bx, ox + (i), none⟩)), (20, .int .u8 ((((l.getD i 0).toNat : Nat) : Int)))] ∧ Mg w w1 (.row 109 3 (vo) acc.length ((jj acc)) :: [])) → K15 a w1 := by
   clear A M
   rintro a w17 ⟨n, r, hf18, A, M⟩
   have hL := hf18
   have hn4 := zif hL
   refine hK15 _ _ (wsk fun K19 hK19 => ?_)
   have hJ20 : ∀ a w1, (∃ (ok : Bool), (ok = decide (0 < n ∧ i + n ≤ l.length)) ∧ Sl a 122 [(0, .slice so l.length cap), (2, .slice none 0 0), (3, vo), (4, .int .i64 (((i : Nat) : Int))), (5, .int .i64 (((n : Nat) : Int))), (6, .int .i32 r), (8, .bool ok), (12, .slice (some ⟨g3, 0, none⟩) 0 0), (13, .int .i64 (((i : Nat) : Int))), (14, .slice so l.length cap), (15, .int .i64 (((l.length : Nat) : Int))), (16, .bool true), (17, .slice so l.length cap), (18, .int .i64 (((i : Nat) : Int))), (19, .pointer (some ⟨bx, ox + (i), none⟩)), (20, .int .u8 ((((l.getD i 0).toNat : Nat) : Int)))] ∧ Mg w w1 (.row 109 3 (vo) acc.length ((jj acc)) :: [])) → K19 a w1 := by
    clear A M
    rintro a w21 ⟨ok, hf22, A, M⟩
    have hok := hf22
    refine hK19 _ _ (wsk fun K23 hK23 => ?_)
    have hJ24 : ∀ a w1, (∃ (k : Nat) (rk : Int) (ok3 : Bool), (ContU l.length i n (l.getD (i + 1) 0).toNat (l.getD (i + 2) 0).toNat (l.getD (i + 3) 0).toNat r k rk ok3 ∧ (ok3 = true → k = n)) ∧ Sl a 122 [(0, .slice so l.length cap), (2, .slice none 0 0), (3, vo), (4, .int .i64 (((i : Nat) : Int))), (5, .int .i64 (((n : Nat) : Int))), (6, .int .i32 rk), (8, .bool ok3), (12, .slice (some ⟨g3, 0, none⟩) 0 0), (13, .int .i64 (((i : Nat) : Int))), (14, .slice so l.length cap), (15, .int .i64 (((l.length : Nat) : Int))), (16, .bool true), (17, .slice so l.length cap), (18, .int .i64 (((i : Nat) : Int))), (19, .pointer (some ⟨bx, ox + (i), none⟩)), (20, .int .u8 ((((l.getD i 0).toNat : Nat) : Int)))] ∧ Mg w w1 (.row 109 3 (vo) acc.length ((jj acc)) :: [])) → K23 a w1 := by
     clear A M
     rintro a w25 ⟨k, rk, ok3, hf26, A, M⟩
     obtain ⟨hC, hkn⟩ := hf26
     refine hK23 _ _ (wsk fun K27 hK27 => ?_)
     have hJ28 : ∀ a w1, (∃ (ok4 : Bool), (EndU l.length i n (l.getD i 0).toNat (l.getD (i + 1) 0).toNat (l.getD (i + 2) 0).toNat (l.getD (i + 3) 0).toNat rk ok4) ∧ Sl a 122 [(0, .slice so l.length cap), (2, .slice none 0 0), (3, vo), (4, .int .i64 (((i : Nat) : Int))), (5, .int .i64 (((n : Nat) : Int))), (6, .int .i32 rk), (8, .bool ok4), (12, .slice (some ⟨g3, 0, none⟩) 0 0), (13, .int .i64 (((i : Nat) : Int))), (14, .slice so l.length cap), (15, .int .i64 (((l.length : Nat) : Int))), (16, .bool true), (17, .slice so l.length cap), (18, .int .i64 (((i : Nat) : Int))), (19, .pointer (some ⟨bx, ox + (i), none⟩)), (20, .int .u8 ((((l.getD i 0).toNat : Nat) : Int)))] ∧ Mg w w1 (.row 109 3 (vo) acc.length ((jj acc)) :: [])) → K27 a w1 := by
      clear A M
      rintro a w29 ⟨ok4, hf30, A, M⟩
      have hE := hf30
      refine hK27 _ _ (wsk fun K31 hK31 => wrl (sdm A λa A↦?_))
      refine qa (hK31 _ _ ?_)
      refine wp_cond_split (t := ok4) (A.ev rfl) (fun hc32 => ?_) (fun hc32 => ?_)
      ·
       refine wsk fun K33 hK33 => wrl ?_
       iterate 3 refine sdm A λa A↦?_
       refine sdo (v := .agg #[.int .i32 rk, .bool false, .int .i64 (((i : Nat) : Int))]) A (za rfl (fun w => by kernel_rfl)) λa A↦?_
       refine kv (e := 109) (sz := 3) (m := 1) (vs := [.int .i32 rk, .bool false, .int .i64 (((i : Nat) : Int))]) A M rfl rfl rfl (zh rfl (by kernel_rfl)) rfl rfl (.inl (by decide)) ?_
       intro g34 w35 M a A
       refine xm (e := 109) (sz := 3) (k := 1) (q := acc.length) (m := 1) (xs := (jj acc)) (news := [.int .i32 rk, .bool false, .int .i64 (((i : Nat) : Int))]) (L' := fun v36 => (.row 109 3 (.slice (some ⟨g34, 0, none⟩) 1 1) 1 ([.int .i32 rk, .bool false, .int .i64 (((i : Nat) : Int))]) :: .row 109 3 (v36) (acc.length + 1) ((jj acc) ++ [.int .i32 rk, .bool false, .int .i64 (((i : Nat) : Int))]) :: [])) A rfl rfl rfl (qkg (z := .agg #[.int .i32 0, .bool false, .int .i64 0]) (sz := 3) (by_ := 16) Tryz.underlying106 (by kernel_rfl) rfl rfl rfl M 1 rfl rfl 0 rfl rfl rfl rfl (by omega)) (fun _ => rfl) ?_
       intro v36 w37 M a A
       refine sda A λa A↦?_
       refine qa (hK33 _ _ (wrl ?_))
       iterate 2 refine sdm A λa A↦?_
       refine sdo (v := .int .i64 (((i + n : Nat) : Int))) A (qg rfl rfl (ar_add ((in_i64 (by omega) (by omega)).trans (by omega)))) λa A↦?_
       refine sda A λa A↦?_
       refine qa ?_
       obtain ⟨hd, hr9, hrk, hn1, hn2⟩ : decodeN (l.length - i) (l.getD i 0).toNat (l.getD (i + 1) 0).toNat (l.getD (i + 2) 0).toNat (l.getD (i + 3) 0).toNat = (rk.toNat, n) ∧ uR rk.toNat n = rk ∧ 0 ≤ rk ∧ 1 ≤ n ∧ i + n ≤ l.length := by
        rcases hE with ⟨_, h⟩ | ⟨h, _⟩
        ·
         exact h
        ·
         rw [hc32] at h; cases h
       have hs9 := qie hi8 hd
       rw [hr9] at hs9
       replace M : Mg w w37 [.row 109 3 v36 (acc ++ [((i : Int), rk)]).length (jj (acc ++ [((i : Int), rk)]))] := by
        have h9 := M.sub (cn (cc (.refl _)))
        have e9 : jj (acc ++ [((i : Int), rk)]) = jj acc ++ [.int .i32 rk, .bool false, .int .i64 (((i : Nat) : Int))] := by
         unfold jj
         rw [List.flatMap_append, List.flatMap_singleton]
         rw [if_neg (show ¬ _ = (-1 : Int) by simp only; omega)]
        rw [e9, List.length_append]
        exact h9
       refine hK8 _ _ _ (by omega) ⟨i + n, acc ++ [((i : Int), rk)], v36, rfl, ⟨by rw [← hrun, hs9, List.append_assoc]; rfl, by omega, by rw [List.length_append]; simp only [List.length_cons, List.length_nil]; omega⟩, A.keep _ ⟨rfl, rfl, rfl, rfl, rfl, trivial⟩, M⟩
      ·
       refine wsk fun K38 hK38 => wrl ?_
       iterate 2 refine sdm A λa A↦?_
       refine sdo (v := .agg #[.int .i32 0, .bool true, .int .i64 (((i : Nat) : Int))]) A (za rfl (fun w => by kernel_rfl)) λa A↦?_
       refine kv (e := 109) (sz := 3) (m := 1) (vs := [.int .i32 0, .bool true, .int .i64 (((i : Nat) : Int))]) A M rfl rfl rfl (zh rfl (by kernel_rfl)) rfl rfl (.inl (by decide)) ?_
       intro g39 w40 M a A
       refine xm (e := 109) (sz := 3) (k := 1) (q := acc.length) (m := 1) (xs := (jj acc)) (news := [.int .i32 0, .bool true, .int .i64 (((i : Nat) : Int))]) (L' := fun v41 => (.row 109 3 (.slice (some ⟨g39, 0, none⟩) 1 1) 1 ([.int .i32 0, .bool true, .int .i64 (((i : Nat) : Int))]) :: .row 109 3 (v41) (acc.length + 1) ((jj acc) ++ [.int .i32 0, .bool true, .int .i64 (((i : Nat) : Int))]) :: [])) A rfl rfl rfl (qkg (z := .agg #[.int .i32 0, .bool false, .int .i64 0]) (sz := 3) (by_ := 16) Tryz.underlying106 (by kernel_rfl) rfl rfl rfl M 1 rfl rfl 0 rfl rfl rfl rfl (by omega)) (fun _ => rfl) ?_
       intro v41 w42 M a A
       refine sda A λa A↦?_
       refine qa (hK38 _ _ (wrl (sdm A λa A↦?_)))
       refine sdo (v := .int .i64 (((i + 1 : Nat) : Int))) A (qg rfl rfl (ar_add ((in_i64 (by omega) (by omega)).trans (by omega)))) λa A↦?_
       refine sda A λa A↦?_
       refine qa ?_
       have hd : decodeN (l.length - i) (l.getD i 0).toNat (l.getD (i + 1) 0).toNat (l.getD (i + 2) 0).toNat (l.getD (i + 3) 0).toNat = (65533, 1) := by
        rcases hE with ⟨h, _⟩ | ⟨_, h⟩
        ·
         rw [hc32] at h; cases h
        ·
         exact h
       have hr9 : uR 65533 1 = -1 := by unfold uR; rw [if_pos ⟨rfl, by decide⟩]
       have hs9 := qie hi8 hd
       rw [hr9] at hs9
       replace M : Mg w w42 [.row 109 3 v41 (acc ++ [((i : Int), (-1))]).length (jj (acc ++ [((i : Int), (-1))]))] := by
        have h9 := M.sub (cn (cc (.refl _)))
        have e9 : jj (acc ++ [((i : Int), (-1))]) = jj acc ++ [.int .i32 0, .bool true, .int .i64 (((i : Nat) : Int))] := by
         unfold jj
         rw [List.flatMap_append, List.flatMap_singleton]
         rw [if_pos rfl]
        rw [e9, List.length_append]
        exact h9
       refine hK8 _ _ _ (by omega) ⟨i + 1, acc ++ [((i : Int), (-1))], v41, rfl, ⟨by rw [← hrun, hs9, List.append_assoc]; rfl, by omega, by rw [List.length_append]; simp only [List.length_cons, List.length_nil]; omega⟩, A.keep _ ⟨rfl, rfl, rfl, rfl, rfl, trivial⟩, M⟩
     refine wsk fun K43 hK43 => wrl ?_
     iterate 2 refine sdm A λa A↦?_
     rcases ok3 with _ | _
     ·
      iterate 2 refine qh A rfl rfl rfl λa A↦?_
      refine sdk (v := .bool false) A λa A↦?_
      refine qa (hK43 _ _ (wp_cond_false (A.ev rfl) ?_))
      refine wp_skip ?_
      replace M : Mg w w25 (.row 109 3 (vo) acc.length ((jj acc)) :: []) := by
       have h9 := M.sub (cc (.refl _))
       exact h9
      exact hJ28 _ _ ⟨false, qpd hi8 ((l.getD i 0).toNat_lt) hL hC hkn (.inl rfl), A.keep _ (by repeat' constructor), M⟩
     ·
      refine sdm A λa A↦?_
      rcases tf (decide (1 < ((n : Nat) : Int))) with hb44 | hb44
      ·
       have hb44' := of_decide_eq_true hb44
       refine sdc A je hb44 λa A↦?_
       refine sdk (v := .bool true) A λa A↦?_
       refine qa (hK43 _ _ (wp_cond_true (A.ev rfl) ?_))
       refine wsk fun K45 hK45 => wrl (kv (e := 21) (sz := 1) (m := 5) (vs := [.int .i32 0, .int .i32 0, .int .i32 128, .int .i32 2048, .int .i32 65536]) A M rfl rfl rfl (zh rfl (by kernel_rfl)) rfl rfl (.inl (by decide)) ?_)
       intro g46 w47 M a A
       refine sda A λa A↦?_
       refine qa (hK45 _ _ ?_)
       have hc9 := kg hC
       refine wrl ?_
       iterate 3 refine sdm A λa A↦?_
       refine sdo (v := .pointer (some ⟨g46, n * 1, none⟩)) A (jk (k := n) Tryz.underlying133 (by kernel_rfl) rfl rfl rfl (by omega)) λa A↦?_
       refine sdo (v := .int .i32 (qbe n)) A (qwa M 0 rfl (zdf (by omega) (by omega)) TrU_is1_21 rfl) λa A↦?_
       rcases tf (decide (qbe n ≤ rk)) with hb48 | hb48
       ·
        have hb48' := of_decide_eq_true hb48
        refine sdc A xa hb48 λa A↦?_
        iterate 2 refine sdm A λa A↦?_
        rcases tf (decide (rk ≤ 1114111)) with hb49 | hb49
        ·
         have hb49' := of_decide_eq_true hb49
         refine sdc A xl hb49 λa A↦?_
         refine sdk (v := .bool true) A λa A↦?_
         iterate 2 refine sdm A λa A↦?_
         rcases tf (decide (rk < 55296)) with hb50 | hb50
         ·
          have hb50' := of_decide_eq_true hb50
          refine sdc A zf hb50 λa A↦?_
          refine sdm A λa A↦?_
          iterate 2 refine qh A rfl rfl rfl λa A↦?_
          iterate 2 refine sdk (v := .bool true) A λa A↦?_
          refine sda A λa A↦?_
          refine qa ?_
          replace M : Mg w w47 (.row 109 3 (vo) acc.length ((jj acc)) :: []) := by
           have h9 := M.sub (cn (cc (.refl _)))
           exact h9
          have hc8 := kg hC
          exact hJ28 _ _ ⟨true, qvf hi8 ((l.getD i 0).toNat_lt) hL (hkn rfl ▸ hC) (by omega), A.keep _ (by repeat' constructor), M⟩
         ·
          have hb50' := of_decide_eq_false hb50
          refine sdc A zf hb50 λa A↦?_
          iterate 2 refine sdm A λa A↦?_
          rcases tf (decide (57343 < rk)) with hb51 | hb51
          ·
           have hb51' := of_decide_eq_true hb51
           refine sdc A je hb51 λa A↦?_
           iterate 2 refine sdk (v := .bool true) A λa A↦?_
           refine sda A λa A↦?_
           refine qa ?_
           replace M : Mg w w47 (.row 109 3 (vo) acc.length ((jj acc)) :: []) := by
            have h9 := M.sub (cn (cc (.refl _)))
            exact h9
           have hc8 := kg hC
           exact hJ28 _ _ ⟨true, qvf hi8 ((l.getD i 0).toNat_lt) hL (hkn rfl ▸ hC) (by omega), A.keep _ (by repeat' constructor), M⟩
          ·
           have hb51' := of_decide_eq_false hb51
           refine sdc A je hb51 λa A↦?_
           iterate 2 refine sdk (v := .bool false) A λa A↦?_
           refine sda A λa A↦?_
           refine qa ?_
           replace M : Mg w w47 (.row 109 3 (vo) acc.length ((jj acc)) :: []) := by
            have h9 := M.sub (cn (cc (.refl _)))
            exact h9
           have hc8 := kg hC
           exact hJ28 _ _ ⟨false, qpd hi8 ((l.getD i 0).toNat_lt) hL hC hkn (.inr ⟨by omega, by omega⟩), A.keep _ (by repeat' constructor), M⟩
        ·
         have hb49' := of_decide_eq_false hb49
         refine sdc A xl hb49 λa A↦?_
         refine sdk (v := .bool false) A λa A↦?_
         refine sdm A λa A↦?_
         iterate 3 refine qh A rfl rfl rfl λa A↦?_
         iterate 2 refine uk A rfl rfl rfl λa A↦?_
         refine qh A rfl rfl rfl λa A↦?_
         refine sdk (v := .bool false) A λa A↦?_
         refine sda A λa A↦?_
         refine qa ?_
         replace M : Mg w w47 (.row 109 3 (vo) acc.length ((jj acc)) :: []) := by
          have h9 := M.sub (cn (cc (.refl _)))
          exact h9
         have hc8 := kg hC
         exact hJ28 _ _ ⟨false, qpd hi8 ((l.getD i 0).toNat_lt) hL hC hkn (.inr ⟨by omega, by omega⟩), A.keep _ (by repeat' constructor), M⟩
       ·
        have hb48' := of_decide_eq_false hb48
        refine sdc A xa hb48 λa A↦?_
        refine sdm A λa A↦?_
        iterate 2 refine qh A rfl rfl rfl λa A↦?_
        refine sdk (v := .bool false) A λa A↦?_
        refine sdm A λa A↦?_
        iterate 3 refine qh A rfl rfl rfl λa A↦?_
        iterate 2 refine uk A rfl rfl rfl λa A↦?_
        refine qh A rfl rfl rfl λa A↦?_
        refine sdk (v := .bool false) A λa A↦?_
        refine sda A λa A↦?_
        refine qa ?_
        replace M : Mg w w47 (.row 109 3 (vo) acc.length ((jj acc)) :: []) := by
         have h9 := M.sub (cn (cc (.refl _)))
         exact h9
        have hc8 := kg hC
        exact hJ28 _ _ ⟨false, qpd hi8 ((l.getD i 0).toNat_lt) hL hC hkn (.inr ⟨by omega, by omega⟩), A.keep _ (by repeat' constructor), M⟩
      ·
       have hb44' := of_decide_eq_false hb44
       refine sdc A je hb44 λa A↦?_
       refine sdk (v := .bool false) A λa A↦?_
       refine qa (hK43 _ _ (wp_cond_false (A.ev rfl) ?_))
       refine wp_skip ?_
       replace M : Mg w w25 (.row 109 3 (vo) acc.length ((jj acc)) :: []) := by
        have h9 := M.sub (cc (.refl _))
        exact h9
       have hc8 := kg hC
       exact hJ28 _ _ ⟨true, qvf hi8 ((l.getD i 0).toNat_lt) hL (hkn rfl ▸ hC) (by omega), A.keep _ (by repeat' constructor), M⟩
    refine wsk fun K52 hK52 => wrl (sda A λa A↦?_)
    refine qa (hK52 _ _ (wp_block (zx (fun m_ a w1 => ∃ (k : Nat) (rk : Int) (ok2 : Bool), m_ = 5 - k ∧ (ContU l.length i n (l.getD (i + 1) 0).toNat (l.getD (i + 2) 0).toNat (l.getD (i + 3) 0).toNat r k rk ok2) ∧ Sl a 122 [(0, .slice so l.length cap), (2, .slice none 0 0), (3, vo), (4, .int .i64 (((i : Nat) : Int))), (5, .int .i64 (((n : Nat) : Int))), (6, .int .i32 rk), (8, .bool ok2), (9, .int .i64 (((k : Nat) : Int))), (12, .slice (some ⟨g3, 0, none⟩) 0 0), (13, .int .i64 (((i : Nat) : Int))), (14, .slice so l.length cap), (15, .int .i64 (((l.length : Nat) : Int))), (16, .bool true), (17, .slice so l.length cap), (18, .int .i64 (((i : Nat) : Int))), (19, .pointer (some ⟨bx, ox + (i), none⟩)), (20, .int .u8 ((((l.getD i 0).toNat : Nat) : Int)))] ∧ Mg w w1 (.row 109 3 (vo) acc.length ((jj acc)) :: [])) _ ⟨1, r, ok, rfl, qve hok, A.keep _ (by repeat' constructor), M⟩ ?_)))
    clear M A
    rintro m_ a w53 ⟨k, rk, ok2, rfl, hinv55, A, M⟩ K54 hK54
    have hC := hinv55
    refine wsk fun K56 hK56 => wsk fun K57 hK57 => wrl ?_
    iterate 2 refine sdm A λa A↦?_
    rcases ok2 with _ | _
    ·
     iterate 3 refine qh A rfl rfl rfl λa A↦?_
     refine sdk (v := .bool false) A λa A↦?_
     refine qa (hK57 _ _ (wp_cond_false (A.ev rfl) ?_))
     refine wp_exit ?_
     exact hJ24 _ _ ⟨k, rk, false, ⟨hC, fun h => by cases h⟩, A.keep _ (by repeat' constructor), M⟩
    ·
     iterate 2 refine sdm A λa A↦?_
     rcases tf (decide (((k : Nat) : Int) < ((n : Nat) : Int))) with hb58 | hb58
     ·
      have hb58' := of_decide_eq_true hb58
      refine sdc A zf hb58 λa A↦?_
      refine sdk (v := .bool true) A λa A↦?_
      refine qa (hK57 _ _ (wp_cond_true (A.ev rfl) ?_))
      refine wp_skip (hK56 _ _ (wsk fun K59 hK59 => wp_block (wsk fun K60 hK60 => ?_)))
      have hc9 := kg hC
      refine wrl ?_
      iterate 3 refine sdm A λa A↦?_
      refine sdo (v := .int .i64 (((i + k : Nat) : Int))) A (qg rfl rfl (ar_add ((in_i64 (by omega) (by omega)).trans (by omega)))) λa A↦?_
      obtain ⟨bx, ox, hx1, hx2, hx3⟩ := qfh (i := i + k) hb (by omega)
      have hu9 := (l.getD (i + k) 0).toNat_lt
      refine sdo (v := .pointer (some ⟨bx, ox + (i + k), none⟩)) A (js (k := i + k) Tryz.underlying28 (by kernel_rfl) rfl rfl rfl hx1 (by omega)) λa A↦?_
      refine sdo (v := .int .u8 ((((l.getD (i + k) 0).toNat : Nat) : Int))) A (qfb M hx2 (hx3 (i + k) (by omega)) TrU_is1_5 rfl) λa A↦?_
      refine sda A λa A↦?_
      refine qa (hK60 _ _ (wsk fun K61 hK61 => wrl (sdm A λa A↦?_)))
      refine sdo (v := .int .u8 (((((l.getD (i + k) 0).toNat : Nat) : Int)) / 64)) A (qg rfl rfl (ar_shr (n := 6) rfl rfl rfl)) λa A↦?_
      refine sdo (v := .bool ((((((l.getD (i + k) 0).toNat : Nat) : Int)) / 64 == 2))) A (qg rfl rfl qj) λa A↦?_
      refine sda A λa A↦?_
      refine qa (hK61 _ _ (wrl (sdm A λa A↦?_)))
      refine sdo (v := .int .i32 (rk * 64)) A (qg rfl rfl (ar_shl (n := 6) rfl rfl (in_i32 (by omega) (by omega)))) λa A↦?_
      refine sdm A λa A↦?_
      refine sdo (v := .int .u8 (((((l.getD (i + k) 0).toNat : Nat) : Int)) % 64)) A (qg rfl rfl (ar_and (qpc 6 63 rfl (by decide) (by omega) (by omega)))) λa A↦?_
      refine sdo (v := .int .i32 (((((l.getD (i + k) 0).toNat : Nat) : Int)) % 64)) A (jz rfl (ar_conv Tryz.underlying5 Tryz.underlying21 (in_i32 (by omega) (by omega)))) λa A↦?_
      refine sdo (v := .int .i32 (rk * 64 + (((((l.getD (i + k) 0).toNat : Nat) : Int)) % 64))) A (qg rfl rfl (ar_or (zie (by omega) (by omega) (by omega) (by omega)))) λa A↦?_
      refine sda A λa A↦?_
      refine qa (hK59 _ _ (wrl (sdm A λa A↦?_)))
      refine sdo (v := .int .i64 (((k + 1 : Nat) : Int))) A (qg rfl rfl (ar_add ((in_i64 (by omega) (by omega)).trans (by omega)))) λa A↦?_
      refine sda A λa A↦?_
      refine qa ?_
      refine hK54 _ _ _ (by omega) ⟨k + 1, rk * 64 + (((((l.getD (i + k) 0).toNat : Nat) : Int)) % 64), (((((l.getD (i + k) 0).toNat : Nat) : Int)) / 64 == 2), rfl, qzj (by omega) hC (by omega), A.keep _ (by repeat' constructor), M⟩
     ·
      have hb58' := of_decide_eq_false hb58
      refine sdc A zf hb58 λa A↦?_
      refine sdk (v := .bool false) A λa A↦?_
      refine qa (hK57 _ _ (wp_cond_false (A.ev rfl) ?_))
      refine wp_exit ?_
      exact hJ24 _ _ ⟨k, rk, true, ⟨hC, fun _ => by have := kg hC; omega⟩, A.keep _ (by repeat' constructor), M⟩
   refine wrl (sdm A λa A↦?_)
   rcases tf (decide (0 < ((n : Nat) : Int))) with hb62 | hb62
   ·
    have hb62' := of_decide_eq_true hb62
    refine sdc A je hb62 λa A↦?_
    iterate 3 refine sdm A λa A↦?_
    refine sdo (v := .int .i64 (((i + n : Nat) : Int))) A (qg rfl rfl (ar_add ((in_i64 (by omega) (by omega)).trans (by omega)))) λa A↦?_
    refine sdm A λa A↦?_
    refine sdo A (qs Tryz.underlying28 rfl) λa A↦?_
    rcases tf (decide (((i + n : Nat) : Int) ≤ ((l.length : Nat) : Int))) with hb63 | hb63
    ·
     have hb63' := of_decide_eq_true hb63
     refine sdc A xl hb63 λa A↦?_
     refine sdk (v := .bool true) A λa A↦?_
     refine sda A λa A↦?_
     refine qa ?_
     exact hJ20 _ _ ⟨true, (decide_eq_true (by omega)).symm, A.keep _ (by repeat' constructor), M⟩
    ·
     have hb63' := of_decide_eq_false hb63
     refine sdc A xl hb63 λa A↦?_
     refine sdk (v := .bool false) A λa A↦?_
     refine sda A λa A↦?_
     refine qa ?_
     exact hJ20 _ _ ⟨false, (decide_eq_false (by omega)).symm, A.keep _ (by repeat' constructor), M⟩
   ·
    have hb62' := of_decide_eq_false hb62
    refine sdc A je hb62 λa A↦?_
    refine sdm A λa A↦?_
    iterate 6 refine qh A rfl rfl rfl λa A↦?_
    refine sdk (v := .bool false) A λa A↦?_
    refine sda A λa A↦?_
    refine qa ?_
    exact hJ20 _ _ ⟨false, (decide_eq_false (by omega)).symm, A.keep _ (by repeat' constructor), M⟩
  refine wp_block (wsk fun K64 hK64 => wrl (sdm A λa A↦?_))
  rcases tf (decide ((((l.getD i 0).toNat : Nat) : Int) < 128)) with hb65 | hb65
  ·
   have hb65' := of_decide_eq_true hb65
   refine sdc A zf hb65 λa A↦?_
   refine sda A λa A↦?_
   refine qa (hK64 _ _ (wp_cond_true (A.ev rfl) ?_))
   refine wrl (sdm A λa A↦?_)
   refine sdo (v := .int .i32 ((((l.getD i 0).toNat : Nat) : Int))) A (jz rfl (ar_conv Tryz.underlying5 Tryz.underlying21 (in_i32 (by omega) (by omega)))) λa A↦?_
   iterate 2 refine sda A λa A↦?_
   refine qa ?_
   exact hJ16 _ _ ⟨1, (((l.getD i 0).toNat : Nat) : Int), (by unfold LeadU; omega), A.keep _ (by repeat' constructor), M⟩
  ·
   have hb65' := of_decide_eq_false hb65
   refine sdc A zf hb65 λa A↦?_
   refine sda A λa A↦?_
   refine qa (hK64 _ _ (wp_cond_false (A.ev rfl) ?_))
   refine wsk fun K66 hK66 => wrl (sdm A λa A↦?_)
   refine sdo (v := .int .u8 (((((l.getD i 0).toNat : Nat) : Int)) / 32)) A (qg rfl rfl (ar_shr (n := 5) rfl rfl rfl)) λa A↦?_
   rcases tf ((((((l.getD i 0).toNat : Nat) : Int)) / 32 == 6)) with hb67 | hb67
   ·
    have hb67' := eq_of_beq hb67
    refine sdc A qj hb67 λa A↦?_
    refine sda A λa A↦?_
    refine qa (hK66 _ _ (wp_cond_true (A.ev rfl) ?_))
    refine wrl (sdm A λa A↦?_)
    refine sdo (v := .int .u8 (((((l.getD i 0).toNat : Nat) : Int)) % 32)) A (qg rfl rfl (ar_and (qpc 5 31 rfl (by decide) (by omega) (by omega)))) λa A↦?_
    refine sdo (v := .int .i32 (((((l.getD i 0).toNat : Nat) : Int)) % 32)) A (jz rfl (ar_conv Tryz.underlying5 Tryz.underlying21 (in_i32 (by omega) (by omega)))) λa A↦?_
    iterate 2 refine sda A λa A↦?_
    refine qa ?_
    exact hJ16 _ _ ⟨2, ((((l.getD i 0).toNat : Nat) : Int)) % 32, (by unfold LeadU; omega), A.keep _ (by repeat' constructor), M⟩
   ·
    have hb67' := ne_of_beq_false hb67
    refine sdc A qj hb67 λa A↦?_
    refine sda A λa A↦?_
    refine qa (hK66 _ _ (wp_cond_false (A.ev rfl) ?_))
    refine wsk fun K68 hK68 => wrl (sdm A λa A↦?_)
    refine sdo (v := .int .u8 (((((l.getD i 0).toNat : Nat) : Int)) / 16)) A (qg rfl rfl (ar_shr (n := 4) rfl rfl rfl)) λa A↦?_
    rcases tf ((((((l.getD i 0).toNat : Nat) : Int)) / 16 == 14)) with hb69 | hb69
    ·
     have hb69' := eq_of_beq hb69
     refine sdc A qj hb69 λa A↦?_
     refine sda A λa A↦?_
     refine qa (hK68 _ _ (wp_cond_true (A.ev rfl) ?_))
     refine wrl (sdm A λa A↦?_)
     refine sdo (v := .int .u8 (((((l.getD i 0).toNat : Nat) : Int)) % 16)) A (qg rfl rfl (ar_and (qpc 4 15 rfl (by decide) (by omega) (by omega)))) λa A↦?_
     refine sdo (v := .int .i32 (((((l.getD i 0).toNat : Nat) : Int)) % 16)) A (jz rfl (ar_conv Tryz.underlying5 Tryz.underlying21 (in_i32 (by omega) (by omega)))) λa A↦?_
     iterate 2 refine sda A λa A↦?_
     refine qa ?_
     exact hJ16 _ _ ⟨3, ((((l.getD i 0).toNat : Nat) : Int)) % 16, (by unfold LeadU; omega), A.keep _ (by repeat' constructor), M⟩
    ·
     have hb69' := ne_of_beq_false hb69
     refine sdc A qj hb69 λa A↦?_
     refine sda A λa A↦?_
     refine qa (hK68 _ _ (wp_cond_false (A.ev rfl) ?_))
     refine wsk fun K70 hK70 => wrl (sdm A λa A↦?_)
     refine sdo (v := .int .u8 (((((l.getD i 0).toNat : Nat) : Int)) / 8)) A (qg rfl rfl (ar_shr (n := 3) rfl rfl rfl)) λa A↦?_
     rcases tf ((((((l.getD i 0).toNat : Nat) : Int)) / 8 == 30)) with hb71 | hb71
     ·
      have hb71' := eq_of_beq hb71
      refine sdc A qj hb71 λa A↦?_
      refine sda A λa A↦?_
      refine qa (hK70 _ _ (wp_cond_true (A.ev rfl) ?_))
      refine wrl (sdm A λa A↦?_)
      refine sdo (v := .int .u8 (((((l.getD i 0).toNat : Nat) : Int)) % 8)) A (qg rfl rfl (ar_and (qpc 3 7 rfl (by decide) (by omega) (by omega)))) λa A↦?_
      refine sdo (v := .int .i32 (((((l.getD i 0).toNat : Nat) : Int)) % 8)) A (jz rfl (ar_conv Tryz.underlying5 Tryz.underlying21 (in_i32 (by omega) (by omega)))) λa A↦?_
      iterate 2 refine sda A λa A↦?_
      refine qa ?_
      exact hJ16 _ _ ⟨4, ((((l.getD i 0).toNat : Nat) : Int)) % 8, (by unfold LeadU; omega), A.keep _ (by repeat' constructor), M⟩
     ·
      have hb71' := ne_of_beq_false hb71
      refine sdc A qj hb71 λa A↦?_
      refine sda A λa A↦?_
      refine qa (hK70 _ _ (wp_cond_false (A.ev rfl) ?_))
      refine wp_skip ?_
      exact hJ16 _ _ ⟨0, 0, (by unfold LeadU; omega), A.keep _ (by repeat' constructor), M⟩
 ·
  have hb12' := of_decide_eq_false hb12
  refine sdc A zf hb12 λa A↦?_
  refine qa (hK11 _ _ (wp_cond_false (A.ev rfl) ?_))
  refine wp_exit (hK5 _ _ (wsk fun K72 hK72 => wrl (sdm A λa A↦?_)))
  refine sda A λa A↦?_
  refine qa (hK72 _ _ (wp_ret (hret _ _ (en1 A rfl (qf rfl) ?_))))
  rw [qvd (by omega), List.append_nil] at hrun
  subst hrun
  exact ⟨_, rfl, M⟩
open Go.RowKit Go.Lib
theorem qsf {w : World} {B : Nat} {e : TypeId} {sz : Nat} {v : Value} {n : Nat} {xs : List Value} (h : w.ownsRow B e sz v n xs) : ∃ so cap, v = .slice so n cap := by
  rcases h.2 with ⟨rfl, rfl⟩ | ⟨g, cap, cur, rfl, _⟩
  · exact ⟨none, 0, rfl⟩
  · exact ⟨_, cap, rfl⟩
section
variable {P : Program} {w0 w : World} {L : List Ck} {l : List (Nat × Value)} {dst : Option Tmp} {ty : TypeId} {pos : String} {after : Array Edge} {guard : Option (Nat × Bool)} {v : Value}
theorem qvg {w' : World} {s d : TypeId} {x : Operand} {u : Value} (hx : ev l x = some u) (hr : (convert s d u).run P w = .ok v w') : Does P l ⟨dst, .convert s d x, ty, pos, after, guard⟩ w v w' := fun ρ h => by
  simp only [execOp, h x _ hx, Sem.run_bind, hr, Result.andThen_ok, Sem.run_pure]
theorem zdg (hM : Mg w0 w L) (k : Nat) {e : TypeId} {sz n cap : Nat} {so : Option Addr} {xs : List Value} (hk : L[k]? = some (.row e sz (.slice so n cap) n xs)) (hn : 0 < n) : ∃ g, so = some ⟨g, 0, none⟩ := by
  rcases (hM.has k hk).2 with ⟨_, h0⟩ | ⟨g, cap', cur, he, _⟩
  · omega
  · cases he; exact ⟨g, rfl⟩
theorem qsg {t e : TypeId} {sz : Nat} (hu : P.underlying t = some (.slice e)) (he : (P.info? e).map (·.size) = some sz) {x i : Operand} {so : Option Addr} {g n c k : Nat} {z : Int} (hx : ev l x = some (.slice so n c)) (hi : ev l i = some (.int .i64 z)) (hz : z = (k : Nat)) (hso : so = some ⟨g, 0, none⟩) (hk : k < n) :
    Does P l ⟨dst, .indexAddr t x i, ty, pos, after, guard⟩ w (.pointer (some ⟨g, k * sz, none⟩)) w := by
  subst hso
  exact jk hu he hx hi hz hk
theorem qxd (hM : Mg w0 w L) (k : Nat) {e : TypeId} {sz g n c j : Nat} {so : Option Addr} {xs : List Value} (hk : L[k]? = some (.row e sz (.slice so n c) n xs)) (hso : so = some ⟨g, 0, none⟩) (hj : xs[j]? = some v) {t : TypeId} (ht : Is1 P t) {x : Operand} (hx : ev l x = some (.pointer (some ⟨g, j, none⟩))) : Does P l ⟨dst, .load t x, ty, pos, after, guard⟩ w v w := by
  subst hso
  exact qwa hM k hk hj ht hx
end
section
variable {P : Program} {w0 w : World} {L : List Ck} {l : List (Nat × Value)} {ops : List Oper} {Q : Exit → Act → World → Prop} {a : Act} {n : Nat} {rest : List Oper} {d : Nat} {dst : Option Tmp} {ty : TypeId} {pos : String} {after : Array Edge} {guard : Option (Nat × Bool)}
/-- A text as bytes. -/
theorem zgd (hA : Sl a n l) (hM : Mg w0 w L) {t t' : TypeId} {x : Operand} {s : ByteArray} {o : Oper} (ho : o = ⟨dst, .convert t t' x, ty, pos, after, guard⟩) (ht : P.underlying t = some .string) (hd : P.underlying t' = some (.slice BY)) (he : P.underlying BY = some (.int .u8)) (hx : ev l x = some (.string s)) (hg : zl l ops o = true) (hdst : o.dst = some d) (hdn : Nat.blt d n = true)
    (hk : ∀ so cap w', Rb w' so s.data.toList → Mg w0 w' L → ∀ a', Sl a' n ((d, .slice so s.data.toList.length cap) :: l) → wpList P ops.toArray Q rest a' w') : wpList P ops.toArray Q (o :: rest) a w := by
  subst ho
  have hr := Go.Lib.run_convert_string_bytes (P := P) w t t' BY s ht hd he
  have hb : Below w.heap.size w (bytesWorld w BY s) := ⟨rfl, rfl, rfl, by rw [bytesWorld_size]; omega, fun j hj => bytesWorld_at_old w BY s j hj⟩
  refine vg hA hg hdst hdn (v := .slice (some ⟨w.heap.size, 0, none⟩) s.data.toList.length (grownCap w s.size 0 BY)) (w' := bytesWorld w BY s) (qvg hx (by rw [kt]; exact hr)) (hk _ _ _ ⟨fun _ => ⟨w.heap.size, 0, rfl, by rw [bytesWorld_size]; omega, fun j hj => ?_⟩⟩ (hM.call hb))
  rw [kt] at hj
  rw [Nat.zero_add]
  exact bytesWorld_cell w BY s j hj
end
theorem qif (u : Int × Int) (us : List (Int × Int)) : jj (u :: us) = (if u.2 = -1 then [.int .i32 0, .bool true, .int .i64 u.1] else [.int .i32 u.2, .bool false, .int .i64 u.1]) ++ jj us := rfl
theorem qig : ∀ (us : List (Int × Int)) (i f : Nat) (u : Int × Int), us[i]? = some u → f < 3 → (jj us)[i * 3 + f]? = (if u.2 = -1 then [Value.int .i32 0, .bool true, .int .i64 u.1] else [.int .i32 u.2, .bool false, .int .i64 u.1])[f]?
  | [], i, f, u, h, hf => by simp at h
  | v :: us, 0, f, u, h, hf => by
    simp only [List.getElem?_cons_zero, Option.some.injEq] at h
    subst h
    rw [qif, Nat.zero_mul, Nat.zero_add, List.getElem?_append_left]
    split <;> exact hf
  | v :: us, i + 1, f, u, h, hf => by
    rw [List.getElem?_cons_succ] at h
    rw [qif, List.getElem?_append_right (by split <;> (simp only [List.length_cons, List.length_nil]; omega))]
    have e : (i + 1) * 3 + f - (if v.2 = -1 then [Value.int .i32 0, .bool true, .int .i64 v.1] else [.int .i32 v.2, .bool false, .int .i64 v.1]).length = i * 3 + f := by
      split <;> (simp only [List.length_cons, List.length_nil]; omega)
    rw [e]
    exact qig us i f u h hf
theorem zdh {us : List (Int × Int)} {i : Nat} (h : i < us.length) : ∃ ua ur, us[i]? = some (ua, ur) := ⟨_, _, List.getElem?_eq_getElem h⟩
/-! ### Encode -/
theorem qih : ∀ (f p : Nat) (l : List UInt8), (xy f p l).length ≤ l.length
  | 0, _, _ => Nat.zero_le _
  | f + 1, p, l => by
    by_cases hl : l = []
    · subst hl; simp [xy]
    · rw [qeh hl, List.length_cons]
      have h1 := qih f (p + (decodeL l).2) (l.drop (decodeL l).2)
      have h2 := kq l hl
      rw [List.length_drop] at h1
      omega
theorem zdi (l : List UInt8) (h : (decodeL l).1 = 65533) : (decodeL l).2 = 1 ∨ (decodeL l).2 = 3 ∨ (decodeL l).2 = 0 := by
  rw [decodeL_N] at h ⊢
  generalize (l.getD 0 0).toNat = b0 at h ⊢
  generalize (l.getD 1 0).toNat = b1 at h ⊢
  generalize (l.getD 2 0).toNat = b2 at h ⊢
  generalize (l.getD 3 0).toNat = b3 at h ⊢
  unfold decodeN at h ⊢
  repeat' split
  all_goals (simp_all)
  all_goals omega
theorem qac : ∀ (f p : Nat) (l : List UInt8), validGoD f l = (xy f p l).all (fun u => !decide (u.2 = -1))
  | 0, p, l => rfl
  | f + 1, p, l => by
    unfold validGoD xy
    by_cases hl : l = []
    · rw [if_pos hl, if_pos hl]; rfl
    · rw [if_neg hl, if_neg hl, List.all_cons]
      have hw := kq l hl
      have h3 := zdi l
      by_cases hb : (decodeL l).1 = 65533 ∧ (decodeL l).2 = 1
      · rw [if_pos hb]
        have : uR (decodeL l).1 (decodeL l).2 = -1 := by unfold uR; rw [if_pos ⟨hb.1, by omega⟩]
        rw [this]; rfl
      · rw [if_neg hb]
        have : ¬ uR (decodeL l).1 (decodeL l).2 = -1 := by
          unfold uR
          by_cases h9 : (decodeL l).1 = 65533
          · rw [if_neg (by have := h3 h9; omega)]; omega
          · rw [if_neg (fun e => h9 e.1)]; omega
        rw [decide_eq_false this, qac f (p + (decodeL l).2)]
        simp
theorem qme (s : ByteArray) : okS s = (jg s.data.toList).all (fun u => !decide (u.2 = -1)) := qac _ 0 _
theorem zge {s : ByteArray} {i : Nat} {ua ur : Int} (h : (jg s.data.toList)[i]? = some (ua, ur)) (hr : ur = -1) : okS s = false := by
  rw [qme]
  apply Bool.eq_false_iff.2
  intro k
  have := List.all_eq_true.1 k _ (List.mem_of_getElem? h)
  simp [hr] at this
theorem zdj {s : ByteArray} (h : ∀ (i : Nat) (ua ur : Int), (jg s.data.toList)[i]? = some (ua, ur) → ur ≠ -1) : okS s = true := by
  rw [qme, List.all_eq_true]
  intro u hu
  obtain ⟨i, hi⟩ := List.mem_iff_getElem?.1 hu
  simp [h i u.1 u.2 hi]
theorem TrV_is1_22 : Is1 Tryz.prog 22 := ⟨⟨_, Tryz.underlying22, rfl⟩, by kernel_rfl⟩
theorem TrV_is1_28 : Is1 Tryz.prog 28 := ⟨⟨_, Tryz.underlying28, rfl⟩, by kernel_rfl⟩
theorem TrV_is1_3 : Is1 Tryz.prog 3 := ⟨⟨_, Tryz.underlying3, rfl⟩, by kernel_rfl⟩
theorem TrV_is1_4 : Is1 Tryz.prog 4 := ⟨⟨_, Tryz.underlying4, rfl⟩, by kernel_rfl⟩
theorem TrV_is1_9 : Is1 Tryz.prog 9 := ⟨⟨_, Tryz.underlying9, rfl⟩, by kernel_rfl⟩
theorem TrV_fld_109_1 : FieldAt Tryz.prog 109 1 1 := ⟨_, _, Tryz.underlying109, rfl, rfl, by kernel_rfl⟩
theorem TrV_fld_27_0 : FieldAt Tryz.prog 27 0 0 := ⟨_, _, Tryz.underlying27, rfl, rfl, by kernel_rfl⟩
theorem TrV_fld_27_1 : FieldAt Tryz.prog 27 1 3 := ⟨_, _, Tryz.underlying27, rfl, rfl, by kernel_rfl⟩
theorem TrV_fld_30_0 : FieldAt Tryz.prog 30 0 0 := ⟨_, _, Tryz.underlying30, rfl, rfl, by kernel_rfl⟩
theorem TrV_fld_30_1 : FieldAt Tryz.prog 30 1 1 := ⟨_, _, Tryz.underlying30, rfl, rfl, by kernel_rfl⟩
theorem TrV_fld_30_2 : FieldAt Tryz.prog 30 2 2 := ⟨_, _, Tryz.underlying30, rfl, rfl, by kernel_rfl⟩
theorem TrV_fld_30_3 : FieldAt Tryz.prog 30 3 8 := ⟨_, _, Tryz.underlying30, rfl, rfl, by kernel_rfl⟩
theorem TrV_fld_30_4 : FieldAt Tryz.prog 30 4 9 := ⟨_, _, Tryz.underlying30, rfl, rfl, by kernel_rfl⟩
theorem TrV_fld_30_5 : FieldAt Tryz.prog 30 5 10 := ⟨_, _, Tryz.underlying30, rfl, rfl, by kernel_rfl⟩
theorem TrV_isS_25 : IsS Tryz.prog 25 3 := ⟨⟨_, Tryz.underlying25⟩, by kernel_rfl⟩
theorem TrV_isS_27 : IsS Tryz.prog 27 6 := ⟨⟨_, Tryz.underlying27⟩, by kernel_rfl⟩
theorem qsh {w : World} {so : Option Addr} {cap : Nat} {l : List UInt8} (hb : Rb w so l) (hlen : l.length ≤ 4000000) : Calls Tryz.prog 105 #[.int .i64 1, .slice so l.length cap] w fun e w' => ∃ v, e = .returned v ∧ Mg w w' [.row 109 3 v (jg l).length (jj (jg l))] := by
 have M : Mg w w ([]) := Mg.start w
 refine qp (l := [(0, .int .i64 1), (1, .slice so l.length cap)]) Tryz.func105 rfl Tryz.ntmps105 rfl rfl ?_
 intro Q hret hnorm hP a A
 refine wsk fun K1 hK1 => wrl (sda A λa A↦?_)
 refine qa (hK1 _ _ (wsk fun K2 hK2 => wsk fun K3 hK3 => wrl (sdm A λa A↦?_)))
 refine sdo (v := .bool true) A (qg rfl rfl (fun w => by kernel_rfl)) λa A↦?_
 refine qa (hK3 _ _ (wp_cond_true (A.ev rfl) ?_))
 refine wsk fun K4 hK4 => wrl (sdm A λa A↦?_)
 refine sct A (ef rfl rfl) (zaa (hb.below M.bel) hlen) ?_
 rintro _ w5 ⟨v9, rfl, hM9⟩
 replace M : Mg w w5 (.row 109 3 (v9) ((jg l).length) ((jj (jg l))) :: []) := (M.both hM9 (qy ze) (zb (by simp) (qy ze)))
 refine ⟨_, rfl, ?_⟩
 intro a A
 refine sda A λa A↦?_
 refine qa (hK4 _ _ (wp_ret (hret _ _ (en1 A rfl (qf rfl) ?_))))
 exact ⟨_, rfl, M⟩
theorem qii {w : World} {s : ByteArray} (hs : s.size ≤ 4000000) {r : Bool} (hr : okS s = r) : Calls Tryz.prog 87 #[.string s] w fun e w' => e = .returned (.bool r) ∧ Below w.heap.size w w' := by
 have hul : (jg s.data.toList).length ≤ s.data.toList.length := qih _ _ _
 have hsl : s.data.toList.length ≤ 4000000 := by rw [kt]; exact hs
 have M : Mg w w ([]) := Mg.start w
 refine qp (l := [(0, .string s)]) Tryz.func87 rfl Tryz.ntmps87 rfl rfl ?_
 intro Q hret hnorm hP a A
 refine wsk fun K1 hK1 => wrl (sda A λa A↦?_)
 refine qa (hK1 _ _ (wsk fun K2 hK2 => wrl (sdm A λa A↦?_)))
 refine zgd A M rfl Tryz.underlying9 Tryz.underlying28 Tryz.underlying5 rfl rfl rfl rfl ?_
 intro so3 ca4 w5 hrb6 M a A
 refine sct A (ef rfl rfl) (qsh hrb6 (by rw [kt]; exact hs)) ?_
 rintro _ w10 ⟨v9, rfl, hM7⟩
 obtain ⟨so8, ca9, rfl⟩ := qsf (hM7.has 0 rfl)
 replace M : Mg w w10 (.row 109 3 (.slice so8 ((jg s.data.toList).length) ca9) ((jg s.data.toList).length) ((jj (jg s.data.toList))) :: []) := (M.both hM7 (qy ze) (zb (by simp) (qy ze)))
 refine ⟨_, rfl, ?_⟩
 intro a A
 refine sda A λa A↦?_
 refine qa (hK2 _ _ (wsk fun K11 hK11 => wsk fun K12 hK12 => wrl (sda A λa A↦?_)))
 refine qa (hK12 _ _ (wp_block (zx (fun m_ a w1 => ∃ (i : Nat), m_ = 1 + ((jg s.data.toList).length - i) ∧ (i ≤ (jg s.data.toList).length ∧ ∀ j ua ur, j < i → (jg s.data.toList)[j]? = some (ua, ur) → ur ≠ -1) ∧ Sl a 19 [(0, .string s), (3, .slice so8 ((jg s.data.toList).length) ca9), (4, .int .i64 (((i : Nat) : Int))), (5, .string s), (6, .slice so3 s.data.toList.length ca4), (7, .slice so8 ((jg s.data.toList).length) ca9)] ∧ Mg w w1 (.row 109 3 (.slice so8 ((jg s.data.toList).length) ca9) ((jg s.data.toList).length) ((jj (jg s.data.toList))) :: [])) _ ⟨0, rfl, ⟨Nat.zero_le _, fun j ua ur hj => absurd hj (Nat.not_lt_zero _)⟩, A.keep _ (by repeat' constructor), M⟩ ?_)))
 clear M A
 rintro m_ a w13 ⟨i, rfl, hinv15, A, M⟩ K14 hK14
 obtain ⟨hi0, hin9⟩ := hinv15
 refine wsk fun K16 hK16 => wsk fun K17 hK17 => wrl ?_
 iterate 2 refine sdm A λa A↦?_
 refine sdo A (qs Tryz.underlying106 rfl) λa A↦?_
 rcases tf (decide (((i : Nat) : Int) < (((jg s.data.toList).length : Nat) : Int))) with hb18 | hb18
 ·
  have hb18' := of_decide_eq_true hb18
  refine sdc A zf hb18 λa A↦?_
  refine qa (hK17 _ _ (wp_cond_true (A.ev rfl) ?_))
  refine wp_skip (hK16 _ _ (wsk fun K19 hK19 => wp_block (wsk fun K20 hK20 => wrl ?_)))
  iterate 2 refine sdm A λa A↦?_
  obtain ⟨gu, hgu⟩ := zdg M 0 rfl (by omega)
  obtain ⟨ua, ur, hu⟩ := zdh (us := jg s.data.toList) (i := i) (by omega)
  refine sdo (v := .pointer (some ⟨gu, i * 3, none⟩)) A (qsg Tryz.underlying106 (by kernel_rfl) rfl rfl rfl hgu (show i < (jg s.data.toList).length by omega)) λa A↦?_
  refine sdo (v := .pointer (some ⟨gu, i * 3 + 1, none⟩)) A (qb TrV_fld_109_1 rfl rfl) λa A↦?_
  by_cases hf : ur = -1
  ·
   refine sdo (v := .bool true) A (qxd M 0 rfl hgu ((qig _ i 1 _ hu (by decide)).trans (by rw [if_pos hf]; rfl)) TrV_is1_4 rfl) λa A↦?_
   refine qa (hK20 _ _ (wp_cond_true (A.ev rfl) ?_))
   refine wsk fun K21 hK21 => wrl (sda A λa A↦?_)
   refine qa (hK21 _ _ (wp_ret (hret _ _ (en1 A rfl (qf rfl) ?_))))
   subst hr
   exact ⟨by rw [zge hu hf], M.bel⟩
  ·
   refine sdo (v := .bool false) A (qxd M 0 rfl hgu ((qig _ i 1 _ hu (by decide)).trans (by rw [if_neg hf]; rfl)) TrV_is1_4 rfl) λa A↦?_
   refine qa (hK20 _ _ (wp_cond_false (A.ev rfl) ?_))
   refine wp_skip (hK19 _ _ (wrl (sdm A λa A↦?_)))
   refine sdo (v := .int .i64 (((i + 1 : Nat) : Int))) A (qg rfl rfl (fun w => (jm (vb (by omega) (by omega)) w).trans (by rw [show (((i : Nat) : Int) + 1 : Int) = ((i + 1 : Nat) : Int) from by omega]))) λa A↦?_
   refine sda A λa A↦?_
   refine qa ?_
   refine hK14 _ _ _ (by omega) ⟨i + 1, rfl, ⟨by omega, fun j va vr hj hv => if h9 : j < i then hin9 j va vr h9 hv else by have h8 : j = i := (by omega); subst h8; rw [hu] at hv; injection hv with h7; injection h7 with _ h6; rw [← h6]; exact hf⟩, A.keep _ (by repeat' constructor), M⟩
 ·
  have hb18' := of_decide_eq_false hb18
  refine sdc A zf hb18 λa A↦?_
  refine qa (hK17 _ _ (wp_cond_false (A.ev rfl) ?_))
  refine wp_exit (hK11 _ _ (wsk fun K22 hK22 => wrl (sda A λa A↦?_)))
  refine qa (hK22 _ _ (wp_ret (hret _ _ (en1 A rfl (qf rfl) ?_))))
  subst hr
  exact ⟨by rw [zdj (fun j ua ur hj => hin9 j ua ur (by have := (List.getElem?_eq_some_iff.1 hj).1; omega) hj)], M.bel⟩
theorem qmf {w : World} {n : Int} {r : Bool} (hr : vz n = r) : Calls Tryz.prog 90 #[.int .i64 n] w fun e w' => e = .returned (.bool r) ∧ Below w.heap.size w w' := by
 have M : Mg w w ([]) := Mg.start w
 refine qp (l := [(0, .int .i64 n)]) Tryz.func90 rfl Tryz.ntmps90 rfl rfl ?_
 intro Q hret hnorm hP a A
 refine wsk fun K1 hK1 => wrl (sda A λa A↦?_)
 refine qa (hK1 _ _ (wsk fun K2 hK2 => wrl (sdm A λa A↦?_)))
 rcases tf (decide (0 ≤ n)) with hb3 | hb3
 ·
  have hb3' := of_decide_eq_true hb3
  refine sdc A xa hb3 λa A↦?_
  iterate 2 refine sdm A λa A↦?_
  rcases tf (decide (n ≤ 1114111)) with hb4 | hb4
  ·
   have hb4' := of_decide_eq_true hb4
   refine sdc A xl hb4 λa A↦?_
   refine sdk (v := .bool true) A λa A↦?_
   iterate 2 refine sdm A λa A↦?_
   rcases tf (decide (n < 55296)) with hb5 | hb5
   ·
    have hb5' := of_decide_eq_true hb5
    refine sdc A zf hb5 λa A↦?_
    refine sdm A λa A↦?_
    iterate 2 refine qh A rfl rfl rfl λa A↦?_
    iterate 2 refine sdk (v := .bool true) A λa A↦?_
    refine sda A λa A↦?_
    refine qa (hK2 _ _ (wp_ret (hret _ _ (en1 A rfl (qf rfl) ?_))))
    subst hr
    exact ⟨by rw [show vz n = true from by unfold vz; apply decide_eq_true; omega], M.bel⟩
   ·
    have hb5' := of_decide_eq_false hb5
    refine sdc A zf hb5 λa A↦?_
    iterate 2 refine sdm A λa A↦?_
    rcases tf (decide (57343 < n)) with hb6 | hb6
    ·
     have hb6' := of_decide_eq_true hb6
     refine sdc A je hb6 λa A↦?_
     iterate 2 refine sdk (v := .bool true) A λa A↦?_
     refine sda A λa A↦?_
     refine qa (hK2 _ _ (wp_ret (hret _ _ (en1 A rfl (qf rfl) ?_))))
     subst hr
     exact ⟨by rw [show vz n = true from by unfold vz; apply decide_eq_true; omega], M.bel⟩
    ·
     have hb6' := of_decide_eq_false hb6
     refine sdc A je hb6 λa A↦?_
     iterate 2 refine sdk (v := .bool false) A λa A↦?_
     refine sda A λa A↦?_
     refine qa (hK2 _ _ (wp_ret (hret _ _ (en1 A rfl (qf rfl) ?_))))
     subst hr
     exact ⟨by rw [show vz n = false from by unfold vz; apply decide_eq_false; omega], M.bel⟩
  ·
   have hb4' := of_decide_eq_false hb4
   refine sdc A xl hb4 λa A↦?_
   refine sdk (v := .bool false) A λa A↦?_
   refine sdm A λa A↦?_
   iterate 3 refine qh A rfl rfl rfl λa A↦?_
   iterate 2 refine uk A rfl rfl rfl λa A↦?_
   refine qh A rfl rfl rfl λa A↦?_
   refine sdk (v := .bool false) A λa A↦?_
   refine sda A λa A↦?_
   refine qa (hK2 _ _ (wp_ret (hret _ _ (en1 A rfl (qf rfl) ?_))))
   subst hr
   exact ⟨by rw [show vz n = false from by unfold vz; apply decide_eq_false; omega], M.bel⟩
 ·
  have hb3' := of_decide_eq_false hb3
  refine sdc A xa hb3 λa A↦?_
  refine sdm A λa A↦?_
  iterate 2 refine qh A rfl rfl rfl λa A↦?_
  refine sdk (v := .bool false) A λa A↦?_
  refine sdm A λa A↦?_
  iterate 3 refine qh A rfl rfl rfl λa A↦?_
  iterate 2 refine uk A rfl rfl rfl λa A↦?_
  refine qh A rfl rfl rfl λa A↦?_
  refine sdk (v := .bool false) A λa A↦?_
  refine sda A λa A↦?_
  refine qa (hK2 _ _ (wp_ret (hret _ _ (en1 A rfl (qf rfl) ?_))))
  subst hr
  exact ⟨by rw [show vz n = false from by unfold vz; apply decide_eq_false; omega], M.bel⟩
/-- Sound by its kind, asked in the document's order. -/
def xr (k n : Int) (q : Q6) (s : ByteArray) (mr ml : Nat) : Bool :=
 if k < 1 ∨ 11 < k ∨ okS s = false then false
 else if k = 3 ∧ vn q = false then false
 else if k ≠ 3 ∧ (vl q.b1 q.t1.length q.q1.length = false ∨ vl q.b2 q.t2.length q.q2.length = false) then false
 else if s ≠ ⟨#[]⟩ ∧ k ≠ 5 ∧ k ≠ 6 ∧ k ≠ 11 then false
 else if 0 < mr ∧ k ≠ 7 then false
 else if k = 2 ∧ n ≠ 0 ∧ n ≠ 1 then false
 else if k = 4 ∧ vz n = false then false
 else if k ≠ 2 ∧ k ≠ 4 ∧ n ≠ 0 then false
 else if k = 8 then decide (ml = 2)
 else decide (k = 9 ∨ ml = 0)
theorem zgf : okS ⟨#[]⟩ = true := by unfold okS; rfl
theorem zy (k n : Int) (q : Q6) (s : ByteArray) (mr ml : Nat) : ja k n q s mr ml = xr k n q s mr ml := by
 have hv : s = ⟨#[]⟩ → okS s = true := by rintro rfl; exact zgf
 have hn0 : vl false 0 0 = true := rfl
 unfold ja xr
 by_cases hk : k < 1 ∨ 11 < k
 ·
  rw [if_pos (show k < 1 ∨ 11 < k ∨ okS s = false by omega)]
  repeat (rw [if_neg (by omega)])
 ·
  have h11 : k = 1 ∨ k = 2 ∨ k = 3 ∨ k = 4 ∨ k = 5 ∨ k = 6 ∨ k = 7 ∨ k = 8 ∨ k = 9 ∨ k = 10 ∨ k = 11 := by omega
  simp only [xt, hn0]
  generalize vl q.b1 q.t1.length q.q1.length = B1
  generalize vl q.b2 q.t2.length q.q2.length = B2
  generalize vn q = S1
  generalize vz n = S2
  by_cases hs : s = ⟨#[]⟩
  ·
   rw [hv hs]
   have hs2 : ¬ s ≠ ⟨#[]⟩ := fun h => h hs
   rcases h11 with h | h | h | h | h | h | h | h | h | h | h <;> subst h <;> cases B1 <;> cases B2 <;> cases S1 <;> cases S2 <;> simp [hs] <;> by_cases hm : mr = 0 <;> simp [hm] <;> by_cases hn : n = 0 <;> simp [hn] <;> first | omega | (by_cases hn1 : n = 1 <;> simp [hn1]) | skip
  ·
   cases hV : okS s <;> rcases h11 with h | h | h | h | h | h | h | h | h | h | h <;> subst h <;> cases B1 <;> cases B2 <;> cases S1 <;> cases S2 <;> simp [hs] <;> by_cases hm : mr = 0 <;> simp [hm] <;> by_cases hn : n = 0 <;> simp [hn] <;> first | omega | skip
section
variable {k n : Int} {q : Q6} {s : ByteArray} {mr ml : Nat}
def ShA (k : Int) (s : ByteArray) : Prop := 1 ≤ k ∧ k ≤ 11 ∧ okS s = true
def ShB (k : Int) (q : Q6) : Prop := (k = 3 → vn q = true) ∧ (k ≠ 3 → vl q.b1 q.t1.length q.q1.length = true ∧ vl q.b2 q.t2.length q.q2.length = true)
def ShC (k : Int) (s : ByteArray) : Prop := s = ⟨#[]⟩ ∨ k = 5 ∨ k = 6 ∨ k = 11
def ShD (k : Int) (mr : Nat) : Prop := mr = 0 ∨ k = 7
def ShE (k n : Int) : Prop := (k = 2 → n = 0 ∨ n = 1) ∧ (k = 4 → vz n = true) ∧ (k ≠ 2 → k ≠ 4 → n = 0)
theorem sh1 (h : k < 1 ∨ 11 < k ∨ okS s = false) : xr k n q s mr ml = false := by unfold xr; rw [if_pos h]
theorem shA (a : ShA k s) : ¬ (k < 1 ∨ 11 < k ∨ okS s = false) := fun e => by
 rcases e with e | e | e
 ·
  have := a.1; omega
 ·
  have := a.2.1; omega
 ·
  rw [a.2.2] at e; cases e
theorem sh2 (a : ShA k s) (h : k = 3) (S : vn q = false) : xr k n q s mr ml = false := by unfold xr; rw [if_neg (shA a), if_pos ⟨h, S⟩]
theorem sh3 (a : ShA k s) (h : k ≠ 3) (S : vl q.b1 q.t1.length q.q1.length = false ∨ vl q.b2 q.t2.length q.q2.length = false) : xr k n q s mr ml = false := by unfold xr; rw [if_neg (shA a), if_neg (fun e => h e.1), if_pos ⟨h, S⟩]
theorem zgg (b : ShB k q) : ¬ (k = 3 ∧ vn q = false) := fun e => by have := b.1 e.1; rw [e.2] at this; cases this
theorem zgh (b : ShB k q) : ¬ (k ≠ 3 ∧ (vl q.b1 q.t1.length q.q1.length = false ∨ vl q.b2 q.t2.length q.q2.length = false)) := fun e => by
 have := b.2 e.1
 rcases e.2 with h | h
 ·
  rw [this.1] at h; cases h
 ·
  rw [this.2] at h; cases h
theorem sh4 (a : ShA k s) (b : ShB k q) (h : s ≠ ⟨#[]⟩ ∧ k ≠ 5 ∧ k ≠ 6 ∧ k ≠ 11) : xr k n q s mr ml = false := by unfold xr; rw [if_neg (shA a), if_neg (zgg b), if_neg (zgh b), if_pos h]
theorem shC (c : ShC k s) : ¬ (s ≠ ⟨#[]⟩ ∧ k ≠ 5 ∧ k ≠ 6 ∧ k ≠ 11) := fun e => by rcases c with h | h | h | h <;> first | exact e.1 h | exact e.2.1 h | exact e.2.2.1 h | exact e.2.2.2 h
theorem sh5 (a : ShA k s) (b : ShB k q) (c : ShC k s) (h : 0 < mr ∧ k ≠ 7) : xr k n q s mr ml = false := by unfold xr; rw [if_neg (shA a), if_neg (zgg b), if_neg (zgh b), if_neg (shC c), if_pos h]
theorem shD (d : ShD k mr) : ¬ (0 < mr ∧ k ≠ 7) := fun e => by rcases d with h | h <;> omega
theorem sh6 (a : ShA k s) (b : ShB k q) (c : ShC k s) (d : ShD k mr) (h : (k = 2 ∧ n ≠ 0 ∧ n ≠ 1) ∨ (k = 4 ∧ vz n = false) ∨ (k ≠ 2 ∧ k ≠ 4 ∧ n ≠ 0)) : xr k n q s mr ml = false := by
 unfold xr
 rw [if_neg (shA a), if_neg (zgg b), if_neg (zgh b), if_neg (shC c), if_neg (shD d)]
 rcases h with h | h | h
 ·
  rw [if_pos h]
 ·
  rw [if_neg (by omega), if_pos h]
 ·
  rw [if_neg (by omega), if_neg (fun e => h.2.1 e.1), if_pos h]
theorem sh9 (a : ShA k s) (b : ShB k q) (c : ShC k s) (d : ShD k mr) (e : ShE k n) : xr k n q s mr ml = if k = 8 then decide (ml = 2) else decide (k = 9 ∨ ml = 0) := by
 unfold xr
 have e1 := e.1
 have e3 := e.2.2
 rw [if_neg (shA a), if_neg (zgg b), if_neg (zgh b), if_neg (shC c), if_neg (shD d), if_neg (fun h => by have := e1 h.1; omega), if_neg (fun h => by have := e.2.1 h.1; rw [h.2] at this; cases this), if_neg (fun h => by have := e3 h.1 h.2.1; omega)]
end
theorem qij {w : World} {d : Nd} {ts : List Dt} (hok : NdOk w d) (hs2 : d.s.size ≤ 4000000) (hlen : ts.length ≤ 9223372036854775807) {r : Bool} (hr : ja d.k d.n d.y.q d.s d.rl.length ts.length = r) : Calls Tryz.prog 73 #[.agg (d.cells ts.length).toArray] w fun e w' => e = .returned (.bool r) ∧ Below w.heap.size w w' := by
 have hrl : d.rl.length ≤ 9223372036854775807 := Nat.le_trans hok.rcap hok.rmax
 have M : Mg w w ([]) := Mg.start w
 refine qp (l := [(0, .agg (d.cells ts.length).toArray)]) Tryz.func73 rfl Tryz.ntmps73 rfl rfl ?_
 intro Q hret hnorm hP a A
 refine wsk fun K1 hK1 => wrl (zr (vs := [.int .i64 d.k, .int .i64 d.n, .bool d.y.q.b1, .slice d.y.o1 d.y.q.t1.length d.y.c1, .slice d.y.o2 d.y.q.q1.length d.y.c2, .bool d.y.q.b2, .slice d.y.o3 d.y.q.t2.length d.y.c3, .slice d.y.o4 d.y.q.q2.length d.y.c4, .string d.s, .slice d.ro d.rl.length d.rc, .slice d.lo ts.length d.lc]) (t := 30) A M rfl rfl rfl pg (zg rfl rfl) (by decide) ?_)
 intro g2 w3 M a A
 refine sda A λa A↦?_
 refine qa (hK1 _ _ (wsk fun K4 hK4 => ?_))
 have hJ5 : ∀ a w1, ((ShA d.k d.s) ∧ Sl a 100 [(0, .agg (d.cells ts.length).toArray), (1, .pointer (some ⟨g2, 0, none⟩))] ∧ Mg w w1 (.obj g2 (.cells (d.cells ts.length).toArray 30) :: [])) → K4 a w1 := by
  clear A M
  rintro a w6 ⟨hf7, A, M⟩
  have hSA := hf7
  refine hK4 _ _ (wsk fun K8 hK8 => ?_)
  have hJ9 : ∀ a w1, ((ShB d.k d.y.q) ∧ Sl a 100 [(0, .agg (d.cells ts.length).toArray), (1, .pointer (some ⟨g2, 0, none⟩))] ∧ Mg w w1 (.obj g2 (.cells (d.cells ts.length).toArray 30) :: [])) → K8 a w1 := by
   clear A M
   rintro a w10 ⟨hf11, A, M⟩
   have hSB := hf11
   refine hK8 _ _ (wsk fun K12 hK12 => ?_)
   have hJ13 : ∀ a w1, ((ShC d.k d.s) ∧ Sl a 100 [(0, .agg (d.cells ts.length).toArray), (1, .pointer (some ⟨g2, 0, none⟩))] ∧ Mg w w1 (.obj g2 (.cells (d.cells ts.length).toArray 30) :: [])) → K12 a w1 := by
    clear A M
    rintro a w14 ⟨hf15, A, M⟩
    have hSC := hf15
    refine hK12 _ _ (wsk fun K16 hK16 => ?_)
    have hJ17 : ∀ a w1, ((ShD d.k d.rl.length) ∧ Sl a 100 [(0, .agg (d.cells ts.length).toArray), (1, .pointer (some ⟨g2, 0, none⟩))] ∧ Mg w w1 (.obj g2 (.cells (d.cells ts.length).toArray 30) :: [])) → K16 a w1 := by
     clear A M
     rintro a w18 ⟨hf19, A, M⟩
     have hSD := hf19
     refine hK16 _ _ (wsk fun K20 hK20 => ?_)
     have hJ21 : ∀ a w1, ((ShE d.k d.n) ∧ Sl a 100 [(0, .agg (d.cells ts.length).toArray), (1, .pointer (some ⟨g2, 0, none⟩))] ∧ Mg w w1 (.obj g2 (.cells (d.cells ts.length).toArray 30) :: [])) → K20 a w1 := by
      clear A M
      rintro a w22 ⟨hf23, A, M⟩
      have hSE := hf23
      refine hK20 _ _ (wsk fun K24 hK24 => wsk fun K25 hK25 => wrl (sdo (v := .pointer (some ⟨g2, 0, none⟩)) A (qb TrV_fld_30_0 rfl rfl) λa A↦?_))
      refine sdo A (ql M TrV_is1_3 rfl 0 rfl rfl) λa A↦?_
      rcases tf ((d.k == 8)) with hb26 | hb26
      ·
       have hb26' := eq_of_beq hb26
       refine sdc A qj hb26 λa A↦?_
       refine qa (hK25 _ _ (wp_cond_true (A.ev rfl) ?_))
       refine wsk fun K27 hK27 => wrl (sdo (v := .pointer (some ⟨g2, 10, none⟩)) A (qb TrV_fld_30_5 rfl rfl) λa A↦?_)
       refine sdo A (ql M TrV_is1_22 rfl 0 rfl rfl) λa A↦?_
       refine sdo A (qs Tryz.underlying22 rfl) λa A↦?_
       rcases tf ((((ts.length : Nat) : Int) == 2)) with hb28 | hb28
       ·
        have hb28' := eq_of_beq hb28
        refine sdc A qj hb28 λa A↦?_
        refine sda A λa A↦?_
        refine qa (hK27 _ _ (wp_ret (hret _ _ (en1 A rfl (qf rfl) ?_))))
        exact ⟨by rw [← hr, zy, sh9 hSA hSB hSC hSD hSE, if_pos (by omega), decide_eq_true (show (ts.length = 2) by omega)], M.bel⟩
       ·
        have hb28' := ne_of_beq_false hb28
        refine sdc A qj hb28 λa A↦?_
        refine sda A λa A↦?_
        refine qa (hK27 _ _ (wp_ret (hret _ _ (en1 A rfl (qf rfl) ?_))))
        exact ⟨by rw [← hr, zy, sh9 hSA hSB hSC hSD hSE, if_pos (by omega), decide_eq_false (show ¬ (ts.length = 2) by omega)], M.bel⟩
      ·
       have hb26' := ne_of_beq_false hb26
       refine sdc A qj hb26 λa A↦?_
       refine qa (hK25 _ _ (wp_cond_false (A.ev rfl) ?_))
       refine wp_skip (hK24 _ _ (wsk fun K29 hK29 => wrl (sdo (v := .pointer (some ⟨g2, 0, none⟩)) A (qb TrV_fld_30_0 rfl rfl) λa A↦?_)))
       refine sdo A (ql M TrV_is1_3 rfl 0 rfl rfl) λa A↦?_
       rcases tf ((d.k == 9)) with hb30 | hb30
       ·
        have hb30' := eq_of_beq hb30
        refine sdc A qj hb30 λa A↦?_
        refine sdm A λa A↦?_
        iterate 4 refine qh A rfl rfl rfl λa A↦?_
        refine sdk (v := .bool true) A λa A↦?_
        refine sda A λa A↦?_
        refine qa (hK29 _ _ (wp_ret (hret _ _ (en1 A rfl (qf rfl) ?_))))
        exact ⟨by rw [← hr, zy, sh9 hSA hSB hSC hSD hSE, if_neg (by omega), decide_eq_true (show (d.k = 9 ∨ ts.length = 0) by omega)], M.bel⟩
       ·
        have hb30' := ne_of_beq_false hb30
        refine sdc A qj hb30 λa A↦?_
        refine sdm A λa A↦?_
        refine sdo (v := .pointer (some ⟨g2, 10, none⟩)) A (qb TrV_fld_30_5 rfl rfl) λa A↦?_
        refine sdo A (ql M TrV_is1_22 rfl 0 rfl rfl) λa A↦?_
        refine sdo A (qs Tryz.underlying22 rfl) λa A↦?_
        rcases tf ((((ts.length : Nat) : Int) == 0)) with hb31 | hb31
        ·
         have hb31' := eq_of_beq hb31
         refine sdc A qj hb31 λa A↦?_
         refine sdk (v := .bool true) A λa A↦?_
         refine sda A λa A↦?_
         refine qa (hK29 _ _ (wp_ret (hret _ _ (en1 A rfl (qf rfl) ?_))))
         exact ⟨by rw [← hr, zy, sh9 hSA hSB hSC hSD hSE, if_neg (by omega), decide_eq_true (show (d.k = 9 ∨ ts.length = 0) by omega)], M.bel⟩
        ·
         have hb31' := ne_of_beq_false hb31
         refine sdc A qj hb31 λa A↦?_
         refine sdk (v := .bool false) A λa A↦?_
         refine sda A λa A↦?_
         refine qa (hK29 _ _ (wp_ret (hret _ _ (en1 A rfl (qf rfl) ?_))))
         exact ⟨by rw [← hr, zy, sh9 hSA hSB hSC hSD hSE, if_neg (by omega), decide_eq_false (show ¬ (d.k = 9 ∨ ts.length = 0) by omega)], M.bel⟩
     refine wsk fun K32 hK32 => wrl (sdo (v := .pointer (some ⟨g2, 0, none⟩)) A (qb TrV_fld_30_0 rfl rfl) λa A↦?_)
     refine sdo A (ql M TrV_is1_3 rfl 0 rfl rfl) λa A↦?_
     refine qa (hK32 _ _ (wp_block (wsk fun K33 hK33 => wrl ?_)))
     rcases tf ((d.k == 2)) with hb34 | hb34
     ·
      have hb34' := eq_of_beq hb34
      refine sdc A qj hb34 λa A↦?_
      refine sda A λa A↦?_
      refine qa (hK33 _ _ (wp_cond_true (A.ev rfl) ?_))
      refine wsk fun K35 hK35 => wrl (sdo (v := .pointer (some ⟨g2, 1, none⟩)) A (qb TrV_fld_30_1 rfl rfl) λa A↦?_)
      refine sdo A (ql M TrV_is1_3 rfl 0 rfl rfl) λa A↦?_
      rcases tf ((d.n != 0)) with hb36 | hb36
      ·
       have hb36' := bne_iff_ne.1 hb36
       refine sdc A zt hb36 λa A↦?_
       refine sdm A λa A↦?_
       refine sdo (v := .pointer (some ⟨g2, 1, none⟩)) A (qb TrV_fld_30_1 rfl rfl) λa A↦?_
       refine sdo A (ql M TrV_is1_3 rfl 0 rfl rfl) λa A↦?_
       rcases tf ((d.n != 1)) with hb37 | hb37
       ·
        have hb37' := bne_iff_ne.1 hb37
        refine sdc A zt hb37 λa A↦?_
        refine sdk (v := .bool true) A λa A↦?_
        refine qa (hK35 _ _ (wp_cond_true (A.ev rfl) ?_))
        refine wsk fun K38 hK38 => wrl (sda A λa A↦?_)
        refine qa (hK38 _ _ (wp_ret (hret _ _ (en1 A rfl (qf rfl) ?_))))
        exact ⟨by rw [← hr, zy, sh6 hSA hSB hSC hSD (.inl ⟨by omega, by omega, by omega⟩)], M.bel⟩
       ·
        have hb37' := bne_eq_false_iff_eq.1 hb37
        refine sdc A zt hb37 λa A↦?_
        refine sdk (v := .bool false) A λa A↦?_
        refine qa (hK35 _ _ (wp_cond_false (A.ev rfl) ?_))
        refine wp_skip ?_
        exact hJ21 _ _ ⟨⟨fun h => by omega, fun h => absurd h (by omega), fun h h2 => by omega⟩, A.keep _ ⟨rfl, rfl, trivial⟩, M⟩
      ·
       have hb36' := bne_eq_false_iff_eq.1 hb36
       refine sdc A zt hb36 λa A↦?_
       refine sdm A λa A↦?_
       iterate 3 refine qh A rfl rfl rfl λa A↦?_
       refine sdk (v := .bool false) A λa A↦?_
       refine qa (hK35 _ _ (wp_cond_false (A.ev rfl) ?_))
       refine wp_skip ?_
       exact hJ21 _ _ ⟨⟨fun h => by omega, fun h => absurd h (by omega), fun h h2 => by omega⟩, A.keep _ ⟨rfl, rfl, trivial⟩, M⟩
     ·
      have hb34' := ne_of_beq_false hb34
      refine sdc A qj hb34 λa A↦?_
      refine sda A λa A↦?_
      refine qa (hK33 _ _ (wp_cond_false (A.ev rfl) ?_))
      refine wsk fun K39 hK39 => wrl ?_
      rcases tf ((d.k == 4)) with hb40 | hb40
      ·
       have hb40' := eq_of_beq hb40
       refine sdc A qj hb40 λa A↦?_
       refine sda A λa A↦?_
       refine qa (hK39 _ _ (wp_cond_true (A.ev rfl) ?_))
       refine wsk fun K41 hK41 => wrl (sdo (v := .pointer (some ⟨g2, 1, none⟩)) A (qb TrV_fld_30_1 rfl rfl) λa A↦?_)
       refine sdo A (ql M TrV_is1_3 rfl 0 rfl rfl) λa A↦?_
       rcases tf (vz d.n) with hb42 | hb42
       ·
        refine gcl A M (ef rfl rfl) (qmf hb42) fun w44 hb43 M a A => ?_
        refine sdo (v := .bool false) A (qz rfl zk) λa A↦?_
        refine qa (hK41 _ _ (wp_cond_false (A.ev rfl) ?_))
        refine wp_skip ?_
        exact hJ21 _ _ ⟨⟨fun h => by omega, fun h => hb42, fun h h2 => by omega⟩, A.keep _ ⟨rfl, rfl, trivial⟩, M⟩
       ·
        refine gcl A M (ef rfl rfl) (qmf hb42) fun w46 hb45 M a A => ?_
        refine sdo (v := .bool true) A (qz rfl zk) λa A↦?_
        refine qa (hK41 _ _ (wp_cond_true (A.ev rfl) ?_))
        refine wsk fun K47 hK47 => wrl (sda A λa A↦?_)
        refine qa (hK47 _ _ (wp_ret (hret _ _ (en1 A rfl (qf rfl) ?_))))
        exact ⟨by rw [← hr, zy, sh6 hSA hSB hSC hSD (.inr (.inl ⟨by omega, hb42⟩))], M.bel⟩
      ·
       have hb40' := ne_of_beq_false hb40
       refine sdc A qj hb40 λa A↦?_
       refine sda A λa A↦?_
       refine qa (hK39 _ _ (wp_cond_false (A.ev rfl) ?_))
       refine wsk fun K48 hK48 => wrl (sdo (v := .pointer (some ⟨g2, 1, none⟩)) A (qb TrV_fld_30_1 rfl rfl) λa A↦?_)
       refine sdo A (ql M TrV_is1_3 rfl 0 rfl rfl) λa A↦?_
       rcases tf ((d.n != 0)) with hb49 | hb49
       ·
        have hb49' := bne_iff_ne.1 hb49
        refine sdc A zt hb49 λa A↦?_
        refine qa (hK48 _ _ (wp_cond_true (A.ev rfl) ?_))
        refine wsk fun K50 hK50 => wrl (sda A λa A↦?_)
        refine qa (hK50 _ _ (wp_ret (hret _ _ (en1 A rfl (qf rfl) ?_))))
        exact ⟨by rw [← hr, zy, sh6 hSA hSB hSC hSD (.inr (.inr ⟨by omega, by omega, by omega⟩))], M.bel⟩
       ·
        have hb49' := bne_eq_false_iff_eq.1 hb49
        refine sdc A zt hb49 λa A↦?_
        refine qa (hK48 _ _ (wp_cond_false (A.ev rfl) ?_))
        refine wp_skip ?_
        exact hJ21 _ _ ⟨⟨fun h => by omega, fun h => absurd h (by omega), fun h h2 => by omega⟩, A.keep _ ⟨rfl, rfl, trivial⟩, M⟩
    refine wsk fun K51 hK51 => wrl (sdo (v := .pointer (some ⟨g2, 9, none⟩)) A (qb TrV_fld_30_4 rfl rfl) λa A↦?_)
    refine sdo A (ql M TrV_is1_28 rfl 0 rfl rfl) λa A↦?_
    refine sdo A (qs Tryz.underlying28 rfl) λa A↦?_
    rcases tf (decide (0 < ((d.rl.length : Nat) : Int))) with hb52 | hb52
    ·
     have hb52' := of_decide_eq_true hb52
     refine sdc A je hb52 λa A↦?_
     refine sdm A λa A↦?_
     refine sdo (v := .pointer (some ⟨g2, 0, none⟩)) A (qb TrV_fld_30_0 rfl rfl) λa A↦?_
     refine sdo A (ql M TrV_is1_3 rfl 0 rfl rfl) λa A↦?_
     rcases tf ((d.k != 7)) with hb53 | hb53
     ·
      have hb53' := bne_iff_ne.1 hb53
      refine sdc A zt hb53 λa A↦?_
      refine sdk (v := .bool true) A λa A↦?_
      refine qa (hK51 _ _ (wp_cond_true (A.ev rfl) ?_))
      refine wsk fun K54 hK54 => wrl (sda A λa A↦?_)
      refine qa (hK54 _ _ (wp_ret (hret _ _ (en1 A rfl (qf rfl) ?_))))
      exact ⟨by rw [← hr, zy, sh5 hSA hSB hSC ⟨by omega, by omega⟩], M.bel⟩
     ·
      have hb53' := bne_eq_false_iff_eq.1 hb53
      refine sdc A zt hb53 λa A↦?_
      refine sdk (v := .bool false) A λa A↦?_
      refine qa (hK51 _ _ (wp_cond_false (A.ev rfl) ?_))
      refine wp_skip ?_
      exact hJ17 _ _ ⟨.inr (by omega), A.keep _ ⟨rfl, rfl, trivial⟩, M⟩
    ·
     have hb52' := of_decide_eq_false hb52
     refine sdc A je hb52 λa A↦?_
     refine sdm A λa A↦?_
     iterate 3 refine qh A rfl rfl rfl λa A↦?_
     refine sdk (v := .bool false) A λa A↦?_
     refine qa (hK51 _ _ (wp_cond_false (A.ev rfl) ?_))
     refine wp_skip ?_
     exact hJ17 _ _ ⟨.inl (by omega), A.keep _ ⟨rfl, rfl, trivial⟩, M⟩
   refine wsk fun K55 hK55 => wrl (sdo (v := .pointer (some ⟨g2, 8, none⟩)) A (qb TrV_fld_30_3 rfl rfl) λa A↦?_)
   refine sdo A (ql M TrV_is1_9 rfl 0 rfl rfl) λa A↦?_
   rcases tf (decide (d.s = ⟨#[]⟩)) with hb56 | hb56
   ·
    have hb56' := of_decide_eq_true hb56
    refine sdo (v := .bool false) A (qg rfl rfl (fun w => (qcc Tryz.underlying9 w).trans (by rw [hb56] <;> rfl))) λa A↦?_
    refine sdm A λa A↦?_
    iterate 3 refine qh A rfl rfl rfl λa A↦?_
    refine sdk (v := .bool false) A λa A↦?_
    refine sdm A λa A↦?_
    iterate 3 refine qh A rfl rfl rfl λa A↦?_
    refine sdk (v := .bool false) A λa A↦?_
    refine sdm A λa A↦?_
    iterate 3 refine qh A rfl rfl rfl λa A↦?_
    refine sdk (v := .bool false) A λa A↦?_
    refine qa (hK55 _ _ (wp_cond_false (A.ev rfl) ?_))
    refine wp_skip ?_
    exact hJ13 _ _ ⟨.inl hb56', A.keep _ ⟨rfl, rfl, trivial⟩, M⟩
   ·
    have hb56' := of_decide_eq_false hb56
    refine sdo (v := .bool true) A (qg rfl rfl (fun w => (qcc Tryz.underlying9 w).trans (by rw [hb56] <;> rfl))) λa A↦?_
    refine sdm A λa A↦?_
    refine sdo (v := .pointer (some ⟨g2, 0, none⟩)) A (qb TrV_fld_30_0 rfl rfl) λa A↦?_
    refine sdo A (ql M TrV_is1_3 rfl 0 rfl rfl) λa A↦?_
    rcases tf ((d.k != 5)) with hb57 | hb57
    ·
     have hb57' := bne_iff_ne.1 hb57
     refine sdc A zt hb57 λa A↦?_
     refine sdk (v := .bool true) A λa A↦?_
     refine sdm A λa A↦?_
     refine sdo (v := .pointer (some ⟨g2, 0, none⟩)) A (qb TrV_fld_30_0 rfl rfl) λa A↦?_
     refine sdo A (ql M TrV_is1_3 rfl 0 rfl rfl) λa A↦?_
     rcases tf ((d.k != 6)) with hb58 | hb58
     ·
      have hb58' := bne_iff_ne.1 hb58
      refine sdc A zt hb58 λa A↦?_
      refine sdk (v := .bool true) A λa A↦?_
      refine sdm A λa A↦?_
      refine sdo (v := .pointer (some ⟨g2, 0, none⟩)) A (qb TrV_fld_30_0 rfl rfl) λa A↦?_
      refine sdo A (ql M TrV_is1_3 rfl 0 rfl rfl) λa A↦?_
      rcases tf ((d.k != 11)) with hb59 | hb59
      ·
       have hb59' := bne_iff_ne.1 hb59
       refine sdc A zt hb59 λa A↦?_
       refine sdk (v := .bool true) A λa A↦?_
       refine qa (hK55 _ _ (wp_cond_true (A.ev rfl) ?_))
       refine wsk fun K60 hK60 => wrl (sda A λa A↦?_)
       refine qa (hK60 _ _ (wp_ret (hret _ _ (en1 A rfl (qf rfl) ?_))))
       exact ⟨by rw [← hr, zy, sh4 hSA hSB ⟨hb56', by omega, by omega, by omega⟩], M.bel⟩
      ·
       have hb59' := bne_eq_false_iff_eq.1 hb59
       refine sdc A zt hb59 λa A↦?_
       refine sdk (v := .bool false) A λa A↦?_
       refine qa (hK55 _ _ (wp_cond_false (A.ev rfl) ?_))
       refine wp_skip ?_
       exact hJ13 _ _ ⟨.inr (by omega), A.keep _ ⟨rfl, rfl, trivial⟩, M⟩
     ·
      have hb58' := bne_eq_false_iff_eq.1 hb58
      refine sdc A zt hb58 λa A↦?_
      refine sdk (v := .bool false) A λa A↦?_
      refine sdm A λa A↦?_
      iterate 3 refine qh A rfl rfl rfl λa A↦?_
      refine sdk (v := .bool false) A λa A↦?_
      refine qa (hK55 _ _ (wp_cond_false (A.ev rfl) ?_))
      refine wp_skip ?_
      exact hJ13 _ _ ⟨.inr (by omega), A.keep _ ⟨rfl, rfl, trivial⟩, M⟩
    ·
     have hb57' := bne_eq_false_iff_eq.1 hb57
     refine sdc A zt hb57 λa A↦?_
     refine sdk (v := .bool false) A λa A↦?_
     refine sdm A λa A↦?_
     iterate 3 refine qh A rfl rfl rfl λa A↦?_
     refine sdk (v := .bool false) A λa A↦?_
     refine sdm A λa A↦?_
     iterate 3 refine qh A rfl rfl rfl λa A↦?_
     refine sdk (v := .bool false) A λa A↦?_
     refine qa (hK55 _ _ (wp_cond_false (A.ev rfl) ?_))
     refine wp_skip ?_
     exact hJ13 _ _ ⟨.inr (by omega), A.keep _ ⟨rfl, rfl, trivial⟩, M⟩
  refine wsk fun K61 hK61 => wrl (sdo (v := .pointer (some ⟨g2, 0, none⟩)) A (qb TrV_fld_30_0 rfl rfl) λa A↦?_)
  refine sdo A (ql M TrV_is1_3 rfl 0 rfl rfl) λa A↦?_
  rcases tf ((d.k == 3)) with hb62 | hb62
  ·
   have hb62' := eq_of_beq hb62
   refine sdc A qj hb62 λa A↦?_
   refine qa (hK61 _ _ (wp_cond_true (A.ev rfl) ?_))
   refine wsk fun K63 hK63 => wrl (sdo (v := .pointer (some ⟨g2, 2, none⟩)) A (qb TrV_fld_30_2 rfl rfl) λa A↦?_)
   refine sdo A (zi M TrV_isS_27 rfl 0 rfl (cs := [.bool d.y.q.b1, .slice d.y.o1 d.y.q.t1.length d.y.c1, .slice d.y.o2 d.y.q.q1.length d.y.c2, .bool d.y.q.b2, .slice d.y.o3 d.y.q.t2.length d.y.c3, .slice d.y.o4 d.y.q.q2.length d.y.c4]) rfl rfl) λa A↦?_
   rcases tf (vn d.y.q) with hb64 | hb64
   ·
    refine gcl A M (ef rfl rfl) (qeg (Nu.below hok.num M.bel) hok.len hb64) fun w66 hb65 M a A => ?_
    refine sdo (v := .bool false) A (qz rfl zk) λa A↦?_
    refine qa (hK63 _ _ (wp_cond_false (A.ev rfl) ?_))
    refine wp_skip ?_
    exact hJ9 _ _ ⟨⟨fun _ => hb64, fun h => absurd (show d.k = 3 by omega) h⟩, A.keep _ ⟨rfl, rfl, trivial⟩, M⟩
   ·
    refine gcl A M (ef rfl rfl) (qeg (Nu.below hok.num M.bel) hok.len hb64) fun w68 hb67 M a A => ?_
    refine sdo (v := .bool true) A (qz rfl zk) λa A↦?_
    refine qa (hK63 _ _ (wp_cond_true (A.ev rfl) ?_))
    refine wsk fun K69 hK69 => wrl (sda A λa A↦?_)
    refine qa (hK69 _ _ (wp_ret (hret _ _ (en1 A rfl (qf rfl) ?_))))
    exact ⟨by rw [← hr, zy, sh2 hSA (by omega) hb64], M.bel⟩
  ·
   have hb62' := ne_of_beq_false hb62
   refine sdc A qj hb62 λa A↦?_
   refine qa (hK61 _ _ (wp_cond_false (A.ev rfl) ?_))
   refine wsk fun K70 hK70 => wrl (sdo (v := .pointer (some ⟨g2, 2, none⟩)) A (qb TrV_fld_30_2 rfl rfl) λa A↦?_)
   refine sdo (v := .pointer (some ⟨g2, 2, none⟩)) A (qb TrV_fld_27_0 rfl rfl) λa A↦?_
   refine sdo A (zi M TrV_isS_25 rfl 0 rfl (cs := [.bool d.y.q.b1, .slice d.y.o1 d.y.q.t1.length d.y.c1, .slice d.y.o2 d.y.q.q1.length d.y.c2]) rfl rfl) λa A↦?_
   rcases tf (vl d.y.q.b1 d.y.q.t1.length d.y.q.q1.length) with hb71 | hb71
   ·
    refine gcl A M (ef rfl rfl) (ut hok.len.l1 hok.len.l2 hb71) fun w73 hb72 M a A => ?_
    refine sdo (v := .bool false) A (qz rfl zk) λa A↦?_
    refine sdm A λa A↦?_
    refine sdo (v := .pointer (some ⟨g2, 2, none⟩)) A (qb TrV_fld_30_2 rfl rfl) λa A↦?_
    refine sdo (v := .pointer (some ⟨g2, 5, none⟩)) A (qb TrV_fld_27_1 rfl rfl) λa A↦?_
    refine sdo A (zi M TrV_isS_25 rfl 0 rfl (cs := [.bool d.y.q.b2, .slice d.y.o3 d.y.q.t2.length d.y.c3, .slice d.y.o4 d.y.q.q2.length d.y.c4]) rfl rfl) λa A↦?_
    rcases tf (vl d.y.q.b2 d.y.q.t2.length d.y.q.q2.length) with hb74 | hb74
    ·
     refine gcl A M (ef rfl rfl) (ut hok.len.l3 hok.len.l4 hb74) fun w76 hb75 M a A => ?_
     refine sdo (v := .bool false) A (qz rfl zk) λa A↦?_
     refine sdk (v := .bool false) A λa A↦?_
     refine qa (hK70 _ _ (wp_cond_false (A.ev rfl) ?_))
     refine wp_skip ?_
     exact hJ9 _ _ ⟨⟨fun h => absurd h (by omega), fun _ => ⟨hb71, hb74⟩⟩, A.keep _ ⟨rfl, rfl, trivial⟩, M⟩
    ·
     refine gcl A M (ef rfl rfl) (ut hok.len.l3 hok.len.l4 hb74) fun w78 hb77 M a A => ?_
     refine sdo (v := .bool true) A (qz rfl zk) λa A↦?_
     refine sdk (v := .bool true) A λa A↦?_
     refine qa (hK70 _ _ (wp_cond_true (A.ev rfl) ?_))
     refine wsk fun K79 hK79 => wrl (sda A λa A↦?_)
     refine qa (hK79 _ _ (wp_ret (hret _ _ (en1 A rfl (qf rfl) ?_))))
     exact ⟨by rw [← hr, zy, sh3 hSA (by omega) (.inr hb74)], M.bel⟩
   ·
    refine gcl A M (ef rfl rfl) (ut hok.len.l1 hok.len.l2 hb71) fun w81 hb80 M a A => ?_
    refine sdo (v := .bool true) A (qz rfl zk) λa A↦?_
    refine sdm A λa A↦?_
    iterate 5 refine qh A rfl rfl rfl λa A↦?_
    refine sdk (v := .bool true) A λa A↦?_
    refine qa (hK70 _ _ (wp_cond_true (A.ev rfl) ?_))
    refine wsk fun K82 hK82 => wrl (sda A λa A↦?_)
    refine qa (hK82 _ _ (wp_ret (hret _ _ (en1 A rfl (qf rfl) ?_))))
    exact ⟨by rw [← hr, zy, sh3 hSA (by omega) (.inl hb71)], M.bel⟩
 refine wsk fun K83 hK83 => wrl (sdo (v := .pointer (some ⟨g2, 0, none⟩)) A (qb TrV_fld_30_0 rfl rfl) λa A↦?_)
 refine sdo A (ql M TrV_is1_3 rfl 0 rfl rfl) λa A↦?_
 rcases tf (decide (d.k < 1)) with hb84 | hb84
 ·
  have hb84' := of_decide_eq_true hb84
  refine sdc A zf hb84 λa A↦?_
  refine sdm A λa A↦?_
  iterate 3 refine qh A rfl rfl rfl λa A↦?_
  refine sdk (v := .bool true) A λa A↦?_
  refine sdm A λa A↦?_
  iterate 4 refine qh A rfl rfl rfl λa A↦?_
  refine sdk (v := .bool true) A λa A↦?_
  refine qa (hK83 _ _ (wp_cond_true (A.ev rfl) ?_))
  refine wsk fun K85 hK85 => wrl (sda A λa A↦?_)
  refine qa (hK85 _ _ (wp_ret (hret _ _ (en1 A rfl (qf rfl) ?_))))
  exact ⟨by rw [← hr, zy, sh1 (by omega)], M.bel⟩
 ·
  have hb84' := of_decide_eq_false hb84
  refine sdc A zf hb84 λa A↦?_
  refine sdm A λa A↦?_
  refine sdo (v := .pointer (some ⟨g2, 0, none⟩)) A (qb TrV_fld_30_0 rfl rfl) λa A↦?_
  refine sdo A (ql M TrV_is1_3 rfl 0 rfl rfl) λa A↦?_
  rcases tf (decide (11 < d.k)) with hb86 | hb86
  ·
   have hb86' := of_decide_eq_true hb86
   refine sdc A je hb86 λa A↦?_
   refine sdk (v := .bool true) A λa A↦?_
   refine sdm A λa A↦?_
   iterate 4 refine qh A rfl rfl rfl λa A↦?_
   refine sdk (v := .bool true) A λa A↦?_
   refine qa (hK83 _ _ (wp_cond_true (A.ev rfl) ?_))
   refine wsk fun K87 hK87 => wrl (sda A λa A↦?_)
   refine qa (hK87 _ _ (wp_ret (hret _ _ (en1 A rfl (qf rfl) ?_))))
   exact ⟨by rw [← hr, zy, sh1 (by omega)], M.bel⟩
  ·
   have hb86' := of_decide_eq_false hb86
   refine sdc A je hb86 λa A↦?_
   refine sdk (v := .bool false) A λa A↦?_
   refine sdm A λa A↦?_
   refine sdo (v := .pointer (some ⟨g2, 8, none⟩)) A (qb TrV_fld_30_3 rfl rfl) λa A↦?_
   refine sdo A (ql M TrV_is1_9 rfl 0 rfl rfl) λa A↦?_
   rcases tf (okS d.s) with hb88 | hb88
   ·
    refine gcl A M (ef rfl rfl) (qii hs2 hb88) fun w90 hb89 M a A => ?_
    refine sdo (v := .bool false) A (qz rfl zk) λa A↦?_
    refine sdk (v := .bool false) A λa A↦?_
    refine qa (hK83 _ _ (wp_cond_false (A.ev rfl) ?_))
    refine wp_skip ?_
    exact hJ5 _ _ ⟨⟨by omega, by omega, hb88⟩, A.keep _ ⟨rfl, rfl, trivial⟩, M⟩
   ·
    refine gcl A M (ef rfl rfl) (qii hs2 hb88) fun w92 hb91 M a A => ?_
    refine sdo (v := .bool true) A (qz rfl zk) λa A↦?_
    refine sdk (v := .bool true) A λa A↦?_
    refine qa (hK83 _ _ (wp_cond_true (A.ev rfl) ?_))
    refine wsk fun K93 hK93 => wrl (sda A λa A↦?_)
    refine qa (hK93 _ _ (wp_ret (hret _ _ (en1 A rfl (qf rfl) ?_))))
    exact ⟨by rw [← hr, zy, sh1 (.inr (.inr hb88))], M.bel⟩
theorem TrW_is1_22 : Is1 Tryz.prog 22 := ⟨⟨_, Tryz.underlying22, rfl⟩, by kernel_rfl⟩
theorem TrW_is1_3 : Is1 Tryz.prog 3 := ⟨⟨_, Tryz.underlying3, rfl⟩, by kernel_rfl⟩
theorem TrW_fld_30_0 : FieldAt Tryz.prog 30 0 0 := ⟨_, _, Tryz.underlying30, rfl, rfl, by kernel_rfl⟩
theorem TrW_fld_30_5 : FieldAt Tryz.prog 30 5 10 := ⟨_, _, Tryz.underlying30, rfl, rfl, by kernel_rfl⟩
theorem TrW_isS_30 : IsS Tryz.prog 30 11 := ⟨⟨_, Tryz.underlying30⟩, by kernel_rfl⟩
def Counts (t : Dt) : Prop := ∀ {w : World} {dp left : Int}, t.rd w → t.tr.bulk ≤ 4000000 → 0 ≤ left → left ≤ 20000 → 0 ≤ dp → dp ≤ 201 → Calls Tryz.prog 55 #[.agg t.cells.toArray, .int .i64 dp, .int .i64 left] w fun e w' => e = .returned (.int .i64 (uz qi dp left t.tr)) ∧ Below w.heap.size w w'
theorem zab : ∀ t : Dt, Counts t := Dt.indT fun d ts ih => by
 intro w dp left hrd hbk hl0 hl1 hd0 hd1
 have hok := (Dt.rd_iff.1 hrd)
 have hlen : ts.length ≤ 9223372036854775807 := Nat.le_trans hok.2.1 hok.2.2.1
 have M : Mg w w ([]) := Mg.start w
 refine qp (l := [(0, .agg (d.cells ts.length).toArray), (1, .int .i64 dp), (2, .int .i64 left)]) Tryz.func55 rfl Tryz.ntmps55 rfl rfl ?_
 intro Q hret hnorm hP a A
 refine wsk fun K1 hK1 => wrl (zr (vs := [.int .i64 d.k, .int .i64 d.n, .bool d.y.q.b1, .slice d.y.o1 d.y.q.t1.length d.y.c1, .slice d.y.o2 d.y.q.q1.length d.y.c2, .bool d.y.q.b2, .slice d.y.o3 d.y.q.t2.length d.y.c3, .slice d.y.o4 d.y.q.q2.length d.y.c4, .string d.s, .slice d.ro d.rl.length d.rc, .slice d.lo ts.length d.lc]) (t := 30) A M rfl rfl rfl pg (zg rfl rfl) (by decide) ?_)
 intro g2 w3 M a A
 refine sda A λa A↦?_
 refine qa (hK1 _ _ (wsk fun K4 hK4 => wsk fun K5 hK5 => wrl (sdm A λa A↦?_)))
 rcases tf (decide (200 < dp)) with hb6 | hb6
 ·
  have hb6' := of_decide_eq_true hb6
  refine sdc A je hb6 λa A↦?_
  refine sdm A λa A↦?_
  iterate 2 refine qh A rfl rfl rfl λa A↦?_
  refine sdk (v := .bool true) A λa A↦?_
  refine sdm A λa A↦?_
  iterate 3 refine qh A rfl rfl rfl λa A↦?_
  refine sdk (v := .bool true) A λa A↦?_
  refine qa (hK5 _ _ (wp_cond_true (A.ev rfl) ?_))
  refine wsk fun K7 hK7 => wrl (sda A λa A↦?_)
  refine qa (hK7 _ _ (wp_ret (hret _ _ (en1 A rfl (qf rfl) ?_))))
  rw [qni (by omega)]
  exact ⟨rfl, M.bel⟩
 ·
  have hb6' := of_decide_eq_false hb6
  refine sdc A je hb6 λa A↦?_
  iterate 2 refine sdm A λa A↦?_
  rcases tf (decide (left ≤ 0)) with hb8 | hb8
  ·
   have hb8' := of_decide_eq_true hb8
   refine sdc A xl hb8 λa A↦?_
   refine sdk (v := .bool true) A λa A↦?_
   refine sdm A λa A↦?_
   iterate 3 refine qh A rfl rfl rfl λa A↦?_
   refine sdk (v := .bool true) A λa A↦?_
   refine qa (hK5 _ _ (wp_cond_true (A.ev rfl) ?_))
   refine wsk fun K9 hK9 => wrl (sda A λa A↦?_)
   refine qa (hK9 _ _ (wp_ret (hret _ _ (en1 A rfl (qf rfl) ?_))))
   rw [qni (by omega)]
   exact ⟨rfl, M.bel⟩
  ·
   have hb8' := of_decide_eq_false hb8
   refine sdc A xl hb8 λa A↦?_
   refine sdk (v := .bool false) A λa A↦?_
   refine sdm A λa A↦?_
   refine sdo A (zi M TrW_isS_30 rfl 0 rfl (cs := [.int .i64 d.k, .int .i64 d.n, .bool d.y.q.b1, .slice d.y.o1 d.y.q.t1.length d.y.c1, .slice d.y.o2 d.y.q.q1.length d.y.c2, .bool d.y.q.b2, .slice d.y.o3 d.y.q.t2.length d.y.c3, .slice d.y.o4 d.y.q.q2.length d.y.c4, .string d.s, .slice d.ro d.rl.length d.rc, .slice d.lo ts.length d.lc]) rfl rfl) λa A↦?_
   rcases tf (ja d.k d.n d.y.q d.s d.rl.length ts.length) with hb10 | hb10
   ·
    refine gcl A M (ef rfl rfl) (qij (hok.1.below M.bel) (Nat.le_trans qkh hbk) hlen hb10) fun w12 hb11 M a A => ?_
    refine sdo (v := .bool false) A (qz rfl zk) λa A↦?_
    refine sdk (v := .bool false) A λa A↦?_
    refine qa (hK5 _ _ (wp_cond_false (A.ev rfl) ?_))
    refine wp_skip (hK4 _ _ (wsk fun K13 hK13 => wrl (sdm A λa A↦?_)))
    refine sdo (v := .int .i64 (left - 1)) A (qg rfl rfl (qvj (vb (by omega) (by omega)))) λa A↦?_
    refine sda A λa A↦?_
    refine qa (hK13 _ _ (wsk fun K14 hK14 => wsk fun K15 hK15 => wrl (sda A λa A↦?_)))
    refine qa (hK15 _ _ (wp_block (zx (fun m_ a w1 => ∃ (i : Nat) (m : Int), m_ = 1 + (ts.length - i) ∧ (i ≤ ts.length ∧ qca qi dp (decide (d.k = 8)) 0 (left - 1) ((ts.map Dt.tr).drop 0) = qca qi dp (decide (d.k = 8)) i m ((ts.map Dt.tr).drop i) ∧ -1 ≤ m ∧ m ≤ 20000) ∧ Sl a 52 [(0, .agg (d.cells ts.length).toArray), (1, .int .i64 dp), (2, .int .i64 m), (3, .pointer (some ⟨g2, 0, none⟩)), (6, .int .i64 0), (7, .int .i64 (((i : Nat) : Int))), (9, .int .i64 dp), (10, .bool false), (11, .bool false), (12, .int .i64 left), (13, .bool false), (14, .bool false), (15, .bool false), (16, .agg (d.cells ts.length).toArray), (17, .bool true), (18, .bool false), (19, .bool false), (20, .int .i64 left), (21, .int .i64 (left - 1))] ∧ Mg w w1 (.obj g2 (.cells (d.cells ts.length).toArray 30) :: [])) _ ⟨0, left - 1, rfl, ⟨Nat.zero_le _, rfl, by omega, by omega⟩, A.keep _ (by repeat' constructor), M⟩ ?_)))
    clear M A
    rintro m_ a w16 ⟨i, m, rfl, hinv18, A, M⟩ K17 hK17
    obtain ⟨hi0, hin9, hm0, hm1_⟩ := hinv18
    refine wsk fun K19 hK19 => wsk fun K20 hK20 => wrl (sdm A λa A↦?_)
    refine sdo (v := .pointer (some ⟨g2, 10, none⟩)) A (qb TrW_fld_30_5 rfl rfl) λa A↦?_
    refine sdo A (ql M TrW_is1_22 rfl 0 rfl rfl) λa A↦?_
    refine sdo A (qs Tryz.underlying22 rfl) λa A↦?_
    rcases tf (decide (((i : Nat) : Int) < ((ts.length : Nat) : Int))) with hb21 | hb21
    ·
     have hb21' := of_decide_eq_true hb21
     refine sdc A zf hb21 λa A↦?_
     iterate 2 refine sdm A λa A↦?_
     rcases tf (decide (0 ≤ m)) with hb22 | hb22
     ·
      have hb22' := of_decide_eq_true hb22
      refine sdc A xa hb22 λa A↦?_
      refine sdk (v := .bool true) A λa A↦?_
      refine qa (hK20 _ _ (wp_cond_true (A.ev rfl) ?_))
      refine wp_skip (hK19 _ _ (wsk fun K23 hK23 => wp_block (wsk fun K24 hK24 => wrl (sdm A λa A↦?_))))
      refine sdo (v := .int .i64 (dp + 1)) A (qg rfl rfl (jm (vb (by omega) (by omega)))) λa A↦?_
      refine sda A λa A↦?_
      refine qa (hK24 _ _ (wsk fun K25 hK25 => wsk fun K26 hK26 => wrl (sdo (v := .pointer (some ⟨g2, 0, none⟩)) A (qb TrW_fld_30_0 rfl rfl) λa A↦?_)))
      refine sdo A (ql M TrW_is1_3 rfl 0 rfl rfl) λa A↦?_
      rcases tf ((d.k == 8)) with hb27 | hb27
      ·
       have hb27' := eq_of_beq hb27
       refine sdc A qj hb27 λa A↦?_
       iterate 2 refine sdm A λa A↦?_
       rcases tf ((((i : Nat) : Int) == 1)) with hb28 | hb28
       ·
        have hb28' := eq_of_beq hb28
        refine sdc A qj hb28 λa A↦?_
        refine sdk (v := .bool true) A λa A↦?_
        refine qa (hK26 _ _ (wp_cond_true (A.ev rfl) ?_))
        refine wrl (sdm A λa A↦?_)
        refine sda A λa A↦?_
        refine qa (hK25 _ _ ?_)
        obtain ⟨t1, b1, o1, hi1, hm1, hr1, hl1, hH1⟩ := kid hrd (i := i) (by omega)
        have hD : (if decide (d.k = 8) = true ∧ i = 1 then dp else dp + 1) = dp := if_pos ⟨decide_eq_true hb27', by omega⟩
        refine wrl (sdo (v := .pointer (some ⟨g2, 10, none⟩)) A (qb TrW_fld_30_5 rfl rfl) λa A↦?_)
        refine sdo A (ql M TrW_is1_22 rfl 0 rfl rfl) λa A↦?_
        refine sdm A λa A↦?_
        refine sdo (v := .pointer (some ⟨b1, o1 + i * 11, none⟩)) A (zj (k := i) Tryz.underlying22 (by kernel_rfl) rfl rfl rfl hl1 (by omega)) λa A↦?_
        refine sdo A (zp M hH1 TrW_isS_30 rfl rfl) λa A↦?_
        iterate 2 refine sdm A λa A↦?_
        refine gcl A M (ef rfl rfl) (ih t1 hm1 (Dt.keep M.bel _ hr1) (by have := qcd (d := d) hm1; omega) (by omega) (by omega) (by omega) (by omega)) fun w30 hb29 M a A => ?_
        refine sda A λa A↦?_
        refine qa (hK23 _ _ (wrl (sdm A λa A↦?_)))
        refine sdo (v := .int .i64 (((i + 1 : Nat) : Int))) A (qg rfl rfl (fun w => (jm (vb (by omega) (by omega)) w).trans (by rw [show (((i : Nat) : Int) + 1 : Int) = ((i + 1 : Nat) : Int) from by omega]))) λa A↦?_
        refine sda A λa A↦?_
        refine qa ?_
        have hc9 := qth qi t1.tr (dp) m (by omega)
        refine hK17 _ _ _ (by omega) ⟨i + 1, uz qi (dp) m t1.tr, rfl, ⟨by omega, by rw [hin9, qnj hi1 (by omega) hD], by omega, by omega⟩, A.keep _ (by repeat' constructor), M⟩
       ·
        have hb28' := ne_of_beq_false hb28
        refine sdc A qj hb28 λa A↦?_
        refine sdk (v := .bool false) A λa A↦?_
        refine qa (hK26 _ _ (wp_cond_false (A.ev rfl) ?_))
        refine wp_skip (hK25 _ _ ?_)
        obtain ⟨t1, b1, o1, hi1, hm1, hr1, hl1, hH1⟩ := kid hrd (i := i) (by omega)
        have hD : (if decide (d.k = 8) = true ∧ i = 1 then dp else dp + 1) = dp + 1 := if_neg (fun e => by omega)
        refine wrl (sdo (v := .pointer (some ⟨g2, 10, none⟩)) A (qb TrW_fld_30_5 rfl rfl) λa A↦?_)
        refine sdo A (ql M TrW_is1_22 rfl 0 rfl rfl) λa A↦?_
        refine sdm A λa A↦?_
        refine sdo (v := .pointer (some ⟨b1, o1 + i * 11, none⟩)) A (zj (k := i) Tryz.underlying22 (by kernel_rfl) rfl rfl rfl hl1 (by omega)) λa A↦?_
        refine sdo A (zp M hH1 TrW_isS_30 rfl rfl) λa A↦?_
        iterate 2 refine sdm A λa A↦?_
        refine gcl A M (ef rfl rfl) (ih t1 hm1 (Dt.keep M.bel _ hr1) (by have := qcd (d := d) hm1; omega) (by omega) (by omega) (by omega) (by omega)) fun w32 hb31 M a A => ?_
        refine sda A λa A↦?_
        refine qa (hK23 _ _ (wrl (sdm A λa A↦?_)))
        refine sdo (v := .int .i64 (((i + 1 : Nat) : Int))) A (qg rfl rfl (fun w => (jm (vb (by omega) (by omega)) w).trans (by rw [show (((i : Nat) : Int) + 1 : Int) = ((i + 1 : Nat) : Int) from by omega]))) λa A↦?_
        refine sda A λa A↦?_
        refine qa ?_
        have hc9 := qth qi t1.tr (dp + 1) m (by omega)
        refine hK17 _ _ _ (by omega) ⟨i + 1, uz qi (dp + 1) m t1.tr, rfl, ⟨by omega, by rw [hin9, qnj hi1 (by omega) hD], by omega, by omega⟩, A.keep _ (by repeat' constructor), M⟩
      ·
       have hb27' := ne_of_beq_false hb27
       refine sdc A qj hb27 λa A↦?_
       refine sdm A λa A↦?_
       iterate 2 refine qh A rfl rfl rfl λa A↦?_
       refine sdk (v := .bool false) A λa A↦?_
       refine qa (hK26 _ _ (wp_cond_false (A.ev rfl) ?_))
       refine wp_skip (hK25 _ _ ?_)
       obtain ⟨t1, b1, o1, hi1, hm1, hr1, hl1, hH1⟩ := kid hrd (i := i) (by omega)
       have hD : (if decide (d.k = 8) = true ∧ i = 1 then dp else dp + 1) = dp + 1 := if_neg (fun e => hb27' (of_decide_eq_true e.1))
       refine wrl (sdo (v := .pointer (some ⟨g2, 10, none⟩)) A (qb TrW_fld_30_5 rfl rfl) λa A↦?_)
       refine sdo A (ql M TrW_is1_22 rfl 0 rfl rfl) λa A↦?_
       refine sdm A λa A↦?_
       refine sdo (v := .pointer (some ⟨b1, o1 + i * 11, none⟩)) A (zj (k := i) Tryz.underlying22 (by kernel_rfl) rfl rfl rfl hl1 (by omega)) λa A↦?_
       refine sdo A (zp M hH1 TrW_isS_30 rfl rfl) λa A↦?_
       iterate 2 refine sdm A λa A↦?_
       refine gcl A M (ef rfl rfl) (ih t1 hm1 (Dt.keep M.bel _ hr1) (by have := qcd (d := d) hm1; omega) (by omega) (by omega) (by omega) (by omega)) fun w34 hb33 M a A => ?_
       refine sda A λa A↦?_
       refine qa (hK23 _ _ (wrl (sdm A λa A↦?_)))
       refine sdo (v := .int .i64 (((i + 1 : Nat) : Int))) A (qg rfl rfl (fun w => (jm (vb (by omega) (by omega)) w).trans (by rw [show (((i : Nat) : Int) + 1 : Int) = ((i + 1 : Nat) : Int) from by omega]))) λa A↦?_
       refine sda A λa A↦?_
       refine qa ?_
       have hc9 := qth qi t1.tr (dp + 1) m (by omega)
       refine hK17 _ _ _ (by omega) ⟨i + 1, uz qi (dp + 1) m t1.tr, rfl, ⟨by omega, by rw [hin9, qnj hi1 (by omega) hD], by omega, by omega⟩, A.keep _ (by repeat' constructor), M⟩
     ·
      have hb22' := of_decide_eq_false hb22
      refine sdc A xa hb22 λa A↦?_
      refine sdk (v := .bool false) A λa A↦?_
      refine qa (hK20 _ _ (wp_cond_false (A.ev rfl) ?_))
      refine wp_exit (hK14 _ _ (wsk fun K35 hK35 => wrl (sdm A λa A↦?_)))
      refine sda A λa A↦?_
      refine qa (hK35 _ _ (wp_ret (hret _ _ (en1 A rfl (qf rfl) ?_))))
      rw [qwe (by omega) (by omega) (by rw [kh]; exact hb10), hin9, qge (by omega)]
      exact ⟨rfl, M.bel⟩
    ·
     have hb21' := of_decide_eq_false hb21
     refine sdc A zf hb21 λa A↦?_
     refine sdm A λa A↦?_
     iterate 2 refine qh A rfl rfl rfl λa A↦?_
     refine sdk (v := .bool false) A λa A↦?_
     refine qa (hK20 _ _ (wp_cond_false (A.ev rfl) ?_))
     refine wp_exit (hK14 _ _ (wsk fun K36 hK36 => wrl (sdm A λa A↦?_)))
     refine sda A λa A↦?_
     refine qa (hK36 _ _ (wp_ret (hret _ _ (en1 A rfl (qf rfl) ?_))))
     rw [qwe (by omega) (by omega) (by rw [kh]; exact hb10), hin9, um (by omega), qca]
     exact ⟨rfl, M.bel⟩
   ·
    refine gcl A M (ef rfl rfl) (qij (hok.1.below M.bel) (Nat.le_trans qkh hbk) hlen hb10) fun w38 hb37 M a A => ?_
    refine sdo (v := .bool true) A (qz rfl zk) λa A↦?_
    refine sdk (v := .bool true) A λa A↦?_
    refine qa (hK5 _ _ (wp_cond_true (A.ev rfl) ?_))
    refine wsk fun K39 hK39 => wrl (sda A λa A↦?_)
    refine qa (hK39 _ _ (wp_ret (hret _ _ (en1 A rfl (qf rfl) ?_))))
    rw [qni (.inr (.inr (by rw [kh]; exact hb10)))]
    exact ⟨rfl, M.bel⟩
theorem zac {w : World} {d : Nd} {ts : List Dt} (hrd : (Dt.mk d ts).rd w) (hbk : (Dt.mk d ts).tr.bulk ≤ 4000000) : Calls Tryz.prog 27 #[.agg (d.cells ts.length).toArray] w fun e w' => e = .returned (.bool (qr qi (Dt.mk d ts).tr)) ∧ Below w.heap.size w w' := by
 have M : Mg w w ([]) := Mg.start w
 refine qp (l := [(0, .agg (d.cells ts.length).toArray)]) Tryz.func27 rfl Tryz.ntmps27 rfl rfl ?_
 intro Q hret hnorm hP a A
 refine wsk fun K1 hK1 => wrl (zr (vs := [.int .i64 d.k, .int .i64 d.n, .bool d.y.q.b1, .slice d.y.o1 d.y.q.t1.length d.y.c1, .slice d.y.o2 d.y.q.q1.length d.y.c2, .bool d.y.q.b2, .slice d.y.o3 d.y.q.t2.length d.y.c3, .slice d.y.o4 d.y.q.q2.length d.y.c4, .string d.s, .slice d.ro d.rl.length d.rc, .slice d.lo ts.length d.lc]) (t := 30) A M rfl rfl rfl pg (zg rfl rfl) (by decide) ?_)
 intro g2 w3 M a A
 refine sda A λa A↦?_
 refine qa (hK1 _ _ (wsk fun K4 hK4 => wrl (sdo A (zi M TrW_isS_30 rfl 0 rfl (cs := [.int .i64 d.k, .int .i64 d.n, .bool d.y.q.b1, .slice d.y.o1 d.y.q.t1.length d.y.c1, .slice d.y.o2 d.y.q.q1.length d.y.c2, .bool d.y.q.b2, .slice d.y.o3 d.y.q.t2.length d.y.c3, .slice d.y.o4 d.y.q.q2.length d.y.c4, .string d.s, .slice d.ro d.rl.length d.rc, .slice d.lo ts.length d.lc]) rfl rfl) λa A↦?_)))
 refine gcl A M (ef rfl rfl) (zab (Dt.mk d ts) (Dt.keep M.bel _ hrd) hbk (by omega) (by omega) (by omega) (by omega)) fun w5 hb9 M a A => ?_
 refine sdo (v := .bool (decide (0 ≤ uz qi 1 20000 (Dt.mk d ts).tr))) A (qg rfl rfl xa) λa A↦?_
 refine sda A λa A↦?_
 refine qa (hK4 _ _ (wp_ret (hret _ _ (en1 A rfl (qf rfl) ?_))))
 exact ⟨by rw [← qpi], M.bel⟩
theorem rsound_any {w : World} {t : Dt} (hrd : t.rd w) (hbk : t.tr.bulk ≤ 4000000) : Calls Tryz.prog 27 #[.agg t.cells.toArray] w fun e w' => e = .returned (.bool (qr qi t.tr)) ∧ Below w.heap.size w w' := by
 obtain ⟨d, ts⟩ := t
 exact zac hrd hbk
theorem LiS_is1_22 : Is1 Tryz.prog 22 := ⟨⟨_, Tryz.underlying22, rfl⟩, by kernel_rfl⟩
theorem LiS_is1_28 : Is1 Tryz.prog 28 := ⟨⟨_, Tryz.underlying28, rfl⟩, by kernel_rfl⟩
theorem LiS_is1_3 : Is1 Tryz.prog 3 := ⟨⟨_, Tryz.underlying3, rfl⟩, by kernel_rfl⟩
theorem LiS_is1_5 : Is1 Tryz.prog 5 := ⟨⟨_, Tryz.underlying5, rfl⟩, by kernel_rfl⟩
theorem LiS_is1_9 : Is1 Tryz.prog 9 := ⟨⟨_, Tryz.underlying9, rfl⟩, by kernel_rfl⟩
theorem LiS_fld_30_0 : FieldAt Tryz.prog 30 0 0 := ⟨_, _, Tryz.underlying30, rfl, rfl, by kernel_rfl⟩
theorem LiS_fld_30_1 : FieldAt Tryz.prog 30 1 1 := ⟨_, _, Tryz.underlying30, rfl, rfl, by kernel_rfl⟩
theorem LiS_fld_30_2 : FieldAt Tryz.prog 30 2 2 := ⟨_, _, Tryz.underlying30, rfl, rfl, by kernel_rfl⟩
theorem LiS_fld_30_3 : FieldAt Tryz.prog 30 3 8 := ⟨_, _, Tryz.underlying30, rfl, rfl, by kernel_rfl⟩
theorem LiS_fld_30_4 : FieldAt Tryz.prog 30 4 9 := ⟨_, _, Tryz.underlying30, rfl, rfl, by kernel_rfl⟩
theorem LiS_fld_30_5 : FieldAt Tryz.prog 30 5 10 := ⟨_, _, Tryz.underlying30, rfl, rfl, by kernel_rfl⟩
theorem LiS_isS_27 : IsS Tryz.prog 27 6 := ⟨⟨_, Tryz.underlying27⟩, by kernel_rfl⟩
theorem LiS_isS_30 : IsS Tryz.prog 30 11 := ⟨⟨_, Tryz.underlying30⟩, by kernel_rfl⟩
theorem qja {w : World} {t u : Dt} (ht : t.rd w) (hu : u.rd w) {b : Bool} (h : SQ2 t u = b) : Calls Tryz.prog 43 #[t.d.y.val, u.d.y.val] w fun e w' => e = .returned (.bool b) ∧ Below w.heap.size w w' := qvb (Dt.okT ht).1.num (Dt.okT ht).1.len (Dt.okT hu).1.num (Dt.okT hu).1.len h
def RSames (n : Nat) : Prop := ∀ {w : World} {t u : Dt}, t.tr.bulk < n → t.rd w → u.rd w → Calls Tryz.prog 16 #[.agg (t.d.cells t.ts.length).toArray, .agg (u.d.cells u.ts.length).toArray] w fun e w' => e = .returned (.bool (yy t.tr u.tr)) ∧ Below w.heap.size w w'
set_option maxHeartbeats 1000000 in
theorem qsi {n : Nat} (ih : RSames n) : RSames (n + 1) := by
 intro w t u hn ht hu
 have hlt := (Dt.okT ht).2
 have hrt : t.d.rl.length ≤ 9223372036854775807 := Nat.le_trans (Dt.okT ht).1.rcap (Dt.okT ht).1.rmax
 have M : Mg w w ([]) := Mg.start w
 refine qp (l := [(0, .agg (t.d.cells t.ts.length).toArray), (1, .agg (u.d.cells u.ts.length).toArray)]) Tryz.func16 rfl Tryz.ntmps16 rfl rfl ?_
 intro Q hret hnorm hP a A
 refine wsk fun K1 hK1 => wrl (zr (vs := (t.d.cells t.ts.length)) (t := 30) A M rfl rfl rfl pg (zg rfl rfl) (by decide) ?_)
 intro g2 w3 M a A
 refine zr (vs := (u.d.cells u.ts.length)) (t := 30) A M rfl rfl rfl pg (zg rfl rfl) (by decide) ?_
 intro g4 w5 M a A
 refine sda A λa A↦?_
 refine qa (hK1 _ _ (wsk fun K6 hK6 => wsk fun K7 hK7 => wrl (sdo (v := .pointer (some ⟨g2, 0, none⟩)) A (qb LiS_fld_30_0 rfl rfl) λa A↦?_)))
 refine sdo A (ql M LiS_is1_3 rfl 1 rfl rfl) λa A↦?_
 refine sdo (v := .pointer (some ⟨g4, 0, none⟩)) A (qb LiS_fld_30_0 rfl rfl) λa A↦?_
 refine sdo A (ql M LiS_is1_3 rfl 0 rfl rfl) λa A↦?_
 rcases tf ((t.d.k != u.d.k)) with hb8 | hb8
 ·
  have hb8' := bne_iff_ne.1 hb8
  refine sdc A zt hb8 λa A↦?_
  refine sdm A λa A↦?_
  iterate 5 refine qh A rfl rfl rfl λa A↦?_
  refine sdk (v := .bool true) A λa A↦?_
  refine sdm A λa A↦?_
  iterate 5 refine qh A rfl rfl rfl λa A↦?_
  refine sdk (v := .bool true) A λa A↦?_
  refine sdm A λa A↦?_
  iterate 7 refine qh A rfl rfl rfl λa A↦?_
  refine sdk (v := .bool true) A λa A↦?_
  refine sdm A λa A↦?_
  iterate 7 refine qh A rfl rfl rfl λa A↦?_
  refine sdk (v := .bool true) A λa A↦?_
  refine sdm A λa A↦?_
  iterate 6 refine qh A rfl rfl rfl λa A↦?_
  refine sdk (v := .bool true) A λa A↦?_
  refine qa (hK7 _ _ (wp_cond_true (A.ev rfl) ?_))
  refine wsk fun K9 hK9 => wrl (sda A λa A↦?_)
  refine qa (hK9 _ _ (wp_ret (hret _ _ (en1 A rfl (qf rfl) ?_))))
  exact ⟨by rw [yv (.inl hb8')], M.bel⟩
 ·
  have hb8' := bne_eq_false_iff_eq.1 hb8
  refine sdc A zt hb8 λa A↦?_
  refine sdm A λa A↦?_
  refine sdo (v := .pointer (some ⟨g2, 1, none⟩)) A (qb LiS_fld_30_1 rfl rfl) λa A↦?_
  refine sdo A (ql M LiS_is1_3 rfl 1 rfl rfl) λa A↦?_
  refine sdo (v := .pointer (some ⟨g4, 1, none⟩)) A (qb LiS_fld_30_1 rfl rfl) λa A↦?_
  refine sdo A (ql M LiS_is1_3 rfl 0 rfl rfl) λa A↦?_
  rcases tf ((t.d.n != u.d.n)) with hb10 | hb10
  ·
   have hb10' := bne_iff_ne.1 hb10
   refine sdc A zt hb10 λa A↦?_
   refine sdk (v := .bool true) A λa A↦?_
   refine sdm A λa A↦?_
   iterate 5 refine qh A rfl rfl rfl λa A↦?_
   refine sdk (v := .bool true) A λa A↦?_
   refine sdm A λa A↦?_
   iterate 7 refine qh A rfl rfl rfl λa A↦?_
   refine sdk (v := .bool true) A λa A↦?_
   refine sdm A λa A↦?_
   iterate 7 refine qh A rfl rfl rfl λa A↦?_
   refine sdk (v := .bool true) A λa A↦?_
   refine sdm A λa A↦?_
   iterate 6 refine qh A rfl rfl rfl λa A↦?_
   refine sdk (v := .bool true) A λa A↦?_
   refine qa (hK7 _ _ (wp_cond_true (A.ev rfl) ?_))
   refine wsk fun K11 hK11 => wrl (sda A λa A↦?_)
   refine qa (hK11 _ _ (wp_ret (hret _ _ (en1 A rfl (qf rfl) ?_))))
   exact ⟨by rw [yv (.inr (.inl hb10'))], M.bel⟩
  ·
   have hb10' := bne_eq_false_iff_eq.1 hb10
   refine sdc A zt hb10 λa A↦?_
   refine sdk (v := .bool false) A λa A↦?_
   refine sdm A λa A↦?_
   refine sdo (v := .pointer (some ⟨g2, 8, none⟩)) A (qb LiS_fld_30_3 rfl rfl) λa A↦?_
   refine sdo A (ql M LiS_is1_9 rfl 1 rfl rfl) λa A↦?_
   refine sdo (v := .pointer (some ⟨g4, 8, none⟩)) A (qb LiS_fld_30_3 rfl rfl) λa A↦?_
   refine sdo A (ql M LiS_is1_9 rfl 0 rfl rfl) λa A↦?_
   rcases tf (decide (t.d.s = u.d.s)) with hb12 | hb12
   ·
    have hb12' := of_decide_eq_true hb12
    refine sdo (v := .bool false) A (qg rfl rfl (fun w => (qcc Tryz.underlying9 w).trans (by rw [hb12] <;> rfl))) λa A↦?_
    refine sdk (v := .bool false) A λa A↦?_
    refine sdm A λa A↦?_
    refine sdo (v := .pointer (some ⟨g2, 9, none⟩)) A (qb LiS_fld_30_4 rfl rfl) λa A↦?_
    refine sdo A (ql M LiS_is1_28 rfl 1 rfl rfl) λa A↦?_
    refine sdo A (qs Tryz.underlying28 rfl) λa A↦?_
    refine sdo (v := .pointer (some ⟨g4, 9, none⟩)) A (qb LiS_fld_30_4 rfl rfl) λa A↦?_
    refine sdo A (ql M LiS_is1_28 rfl 0 rfl rfl) λa A↦?_
    refine sdo A (qs Tryz.underlying28 rfl) λa A↦?_
    rcases tf ((((t.d.rl.length : Nat) : Int) != ((u.d.rl.length : Nat) : Int))) with hb13 | hb13
    ·
     have hb13' := bne_iff_ne.1 hb13
     refine sdc A zt hb13 λa A↦?_
     refine sdk (v := .bool true) A λa A↦?_
     refine sdm A λa A↦?_
     iterate 7 refine qh A rfl rfl rfl λa A↦?_
     refine sdk (v := .bool true) A λa A↦?_
     refine sdm A λa A↦?_
     iterate 6 refine qh A rfl rfl rfl λa A↦?_
     refine sdk (v := .bool true) A λa A↦?_
     refine qa (hK7 _ _ (wp_cond_true (A.ev rfl) ?_))
     refine wsk fun K14 hK14 => wrl (sda A λa A↦?_)
     refine qa (hK14 _ _ (wp_ret (hret _ _ (en1 A rfl (qf rfl) ?_))))
     exact ⟨by rw [yv (.inr (.inr (.inr (.inl (fun e => hb13' (by rw [e]))))))], M.bel⟩
    ·
     have hb13' := bne_eq_false_iff_eq.1 hb13
     refine sdc A zt hb13 λa A↦?_
     refine sdk (v := .bool false) A λa A↦?_
     refine sdm A λa A↦?_
     refine sdo (v := .pointer (some ⟨g2, 10, none⟩)) A (qb LiS_fld_30_5 rfl rfl) λa A↦?_
     refine sdo A (ql M LiS_is1_22 rfl 1 rfl rfl) λa A↦?_
     refine sdo A (qs Tryz.underlying22 rfl) λa A↦?_
     refine sdo (v := .pointer (some ⟨g4, 10, none⟩)) A (qb LiS_fld_30_5 rfl rfl) λa A↦?_
     refine sdo A (ql M LiS_is1_22 rfl 0 rfl rfl) λa A↦?_
     refine sdo A (qs Tryz.underlying22 rfl) λa A↦?_
     rcases tf ((((t.ts.length : Nat) : Int) != ((u.ts.length : Nat) : Int))) with hb15 | hb15
     ·
      have hb15' := bne_iff_ne.1 hb15
      refine sdc A zt hb15 λa A↦?_
      refine sdk (v := .bool true) A λa A↦?_
      refine sdm A λa A↦?_
      iterate 6 refine qh A rfl rfl rfl λa A↦?_
      refine sdk (v := .bool true) A λa A↦?_
      refine qa (hK7 _ _ (wp_cond_true (A.ev rfl) ?_))
      refine wsk fun K16 hK16 => wrl (sda A λa A↦?_)
      refine qa (hK16 _ _ (wp_ret (hret _ _ (en1 A rfl (qf rfl) ?_))))
      exact ⟨by rw [yv (.inr (.inr (.inr (.inr (.inl (fun e => hb15' (by rw [e])))))))], M.bel⟩
     ·
      have hb15' := bne_eq_false_iff_eq.1 hb15
      refine sdc A zt hb15 λa A↦?_
      refine sdk (v := .bool false) A λa A↦?_
      refine sdm A λa A↦?_
      refine sdo (v := .pointer (some ⟨g2, 2, none⟩)) A (qb LiS_fld_30_2 rfl rfl) λa A↦?_
      refine sdo A (zi M LiS_isS_27 rfl 1 rfl (cs := [.bool t.d.y.q.b1, .slice t.d.y.o1 t.d.y.q.t1.length t.d.y.c1, .slice t.d.y.o2 t.d.y.q.q1.length t.d.y.c2, .bool t.d.y.q.b2, .slice t.d.y.o3 t.d.y.q.t2.length t.d.y.c3, .slice t.d.y.o4 t.d.y.q.q2.length t.d.y.c4]) rfl rfl) λa A↦?_
      refine sdo (v := .pointer (some ⟨g4, 2, none⟩)) A (qb LiS_fld_30_2 rfl rfl) λa A↦?_
      refine sdo A (zi M LiS_isS_27 rfl 0 rfl (cs := [.bool u.d.y.q.b1, .slice u.d.y.o1 u.d.y.q.t1.length u.d.y.c1, .slice u.d.y.o2 u.d.y.q.q1.length u.d.y.c2, .bool u.d.y.q.b2, .slice u.d.y.o3 u.d.y.q.t2.length u.d.y.c3, .slice u.d.y.o4 u.d.y.q.q2.length u.d.y.c4]) rfl rfl) λa A↦?_
      rcases tf (SQ2 t u) with hb17 | hb17
      ·
       refine gcl A M (ef rfl rfl) (qja (Dt.keep M.bel _ ht) (Dt.keep M.bel _ hu) hb17) fun w19 hb18 M a A => ?_
       refine sdo (v := .bool false) A (qz rfl zk) λa A↦?_
       refine sdk (v := .bool false) A λa A↦?_
       refine qa (hK7 _ _ (wp_cond_false (A.ev rfl) ?_))
       refine wp_skip (hK6 _ _ (wsk fun K20 hK20 => wsk fun K21 hK21 => wrl (sda A λa A↦?_)))
       refine qa (hK21 _ _ (wp_block (zx (fun m_ a w1 => ∃ (i : Nat), m_ = 1 + (t.d.rl.length - i) ∧ (i ≤ t.d.rl.length ∧ ∀ j, j < i → t.d.rl.getD j 0 = u.d.rl.getD j 0) ∧ Sl a 89 [(0, .agg (t.d.cells t.ts.length).toArray), (1, .agg (u.d.cells u.ts.length).toArray), (2, .pointer (some ⟨g2, 0, none⟩)), (3, .pointer (some ⟨g4, 0, none⟩)), (5, .int .i64 (((i : Nat) : Int))), (7, .pointer (some ⟨g2, 0, none⟩)), (8, .int .i64 t.d.k), (9, .pointer (some ⟨g4, 0, none⟩)), (10, .int .i64 u.d.k), (11, .bool false), (12, .bool false), (13, .pointer (some ⟨g2, 1, none⟩)), (14, .int .i64 t.d.n), (15, .pointer (some ⟨g4, 1, none⟩)), (16, .int .i64 u.d.n), (17, .bool false), (18, .bool false), (19, .bool false), (20, .pointer (some ⟨g2, 8, none⟩)), (21, .string t.d.s), (22, .pointer (some ⟨g4, 8, none⟩)), (23, .string u.d.s), (24, .bool false), (25, .bool false), (26, .bool false), (27, .pointer (some ⟨g2, 9, none⟩)), (28, .slice t.d.ro t.d.rl.length t.d.rc), (29, .int .i64 (((t.d.rl.length : Nat) : Int))), (30, .pointer (some ⟨g4, 9, none⟩)), (31, .slice u.d.ro u.d.rl.length u.d.rc), (32, .int .i64 (((u.d.rl.length : Nat) : Int))), (33, .bool false), (34, .bool false), (35, .bool false), (36, .pointer (some ⟨g2, 10, none⟩)), (37, .slice t.d.lo t.ts.length t.d.lc), (38, .int .i64 (((t.ts.length : Nat) : Int))), (39, .pointer (some ⟨g4, 10, none⟩)), (40, .slice u.d.lo u.ts.length u.d.lc), (41, .int .i64 (((u.ts.length : Nat) : Int))), (42, .bool false), (43, .bool false), (44, .bool false), (45, .pointer (some ⟨g2, 2, none⟩)), (46, .agg #[.bool t.d.y.q.b1, .slice t.d.y.o1 t.d.y.q.t1.length t.d.y.c1, .slice t.d.y.o2 t.d.y.q.q1.length t.d.y.c2, .bool t.d.y.q.b2, .slice t.d.y.o3 t.d.y.q.t2.length t.d.y.c3, .slice t.d.y.o4 t.d.y.q.q2.length t.d.y.c4]), (47, .pointer (some ⟨g4, 2, none⟩)), (48, .agg #[.bool u.d.y.q.b1, .slice u.d.y.o1 u.d.y.q.t1.length u.d.y.c1, .slice u.d.y.o2 u.d.y.q.q1.length u.d.y.c2, .bool u.d.y.q.b2, .slice u.d.y.o3 u.d.y.q.t2.length u.d.y.c3, .slice u.d.y.o4 u.d.y.q.q2.length u.d.y.c4]), (49, .bool true), (50, .bool false), (51, .bool false)] ∧ Mg w w1 (.obj g4 (.cells (u.d.cells u.ts.length).toArray 30) :: .obj g2 (.cells (t.d.cells t.ts.length).toArray 30) :: [])) _ ⟨0, rfl, ⟨Nat.zero_le _, fun j hj => absurd hj (Nat.not_lt_zero _)⟩, A.keep _ (by repeat' constructor), M⟩ ?_)))
       clear M A
       rintro m_ a w22 ⟨i, rfl, hinv24, A, M⟩ K23 hK23
       obtain ⟨hi0, hin8⟩ := hinv24
       refine wsk fun K25 hK25 => wsk fun K26 hK26 => wrl (sdm A λa A↦?_)
       refine sdo (v := .pointer (some ⟨g2, 9, none⟩)) A (qb LiS_fld_30_4 rfl rfl) λa A↦?_
       refine sdo A (ql M LiS_is1_28 rfl 1 rfl rfl) λa A↦?_
       refine sdo A (qs Tryz.underlying28 rfl) λa A↦?_
       rcases tf (decide (((i : Nat) : Int) < ((t.d.rl.length : Nat) : Int))) with hb27 | hb27
       ·
        have hb27' := of_decide_eq_true hb27
        refine sdc A zf hb27 λa A↦?_
        refine qa (hK26 _ _ (wp_cond_true (A.ev rfl) ?_))
        refine wp_skip (hK25 _ _ (wsk fun K28 hK28 => wp_block (wsk fun K29 hK29 => xv (S := fun w1 => Mg w w1 (.obj g4 (.cells (u.d.cells u.ts.length).toArray 30) :: .obj g2 (.cells (t.d.cells t.ts.length).toArray 30) :: [])) (by kernel_rfl) ?_)))
        replace M := M.drew
        refine qm (v := .pointer (some ⟨g2, 9, none⟩)) A 0 rfl rfl rfl rfl hP (M.sub (cc (cc (List.nil_sublist _)))) (fun w1 M => qb LiS_fld_30_4 rfl rfl) λa A↦?_
        refine qm A 1 rfl rfl rfl rfl hP (M.sub (cc (cc (List.nil_sublist _)))) (fun w1 M => ql M LiS_is1_28 rfl 1 rfl rfl) λa A↦?_
        refine qm A 2 rfl rfl rfl rfl hP (M.sub (cc (cc (List.nil_sublist _)))) (fun w1 M => zd rfl) λa A↦?_
        obtain ⟨bt, ot, ht1, ht2, ht3⟩ := qfh (i := i) (Dt.okT ht).1.raw (by omega)
        refine qm (v := .pointer (some ⟨bt, ot + i, none⟩)) A 3 rfl rfl rfl rfl hP (M.sub (cc (cc (List.nil_sublist _)))) (fun w1 M => js (k := i) Tryz.underlying28 (by kernel_rfl) rfl rfl rfl ht1 (by omega)) λa A↦?_
        refine qm A 4 rfl rfl rfl rfl hP (M.sub (cc (cc (List.nil_sublist _)))) (fun w1 M => qfb M ht2 (ht3 i (by omega)) LiS_is1_5 rfl) λa A↦?_
        refine qm (v := .pointer (some ⟨g4, 9, none⟩)) A 5 rfl rfl rfl rfl hP (M.sub (cc (cc (List.nil_sublist _)))) (fun w1 M => qb LiS_fld_30_4 rfl rfl) λa A↦?_
        refine qm A 6 rfl rfl rfl rfl hP (M.sub (cc (cc (List.nil_sublist _)))) (fun w1 M => ql M LiS_is1_28 rfl 0 rfl rfl) λa A↦?_
        refine qm A 7 rfl rfl rfl rfl hP (M.sub (cc (cc (List.nil_sublist _)))) (fun w1 M => zd rfl) λa A↦?_
        obtain ⟨bu, ou, hu1, hu2, hu3⟩ := qfh (i := i) (Dt.okT hu).1.raw (by omega)
        refine qm (v := .pointer (some ⟨bu, ou + i, none⟩)) A 8 rfl rfl rfl rfl hP (M.sub (cc (cc (List.nil_sublist _)))) (fun w1 M => js (k := i) Tryz.underlying28 (by kernel_rfl) rfl rfl rfl hu1 (by omega)) λa A↦?_
        refine qm A 9 rfl rfl rfl rfl hP (M.sub (cc (cc (List.nil_sublist _)))) (fun w1 M => qfb M hu2 (hu3 i (by omega)) LiS_is1_5 rfl) λa A↦?_
        rcases tf (((((t.d.rl.getD i 0).toNat : Nat) : Int) != (((u.d.rl.getD i 0).toNat : Nat) : Int))) with hb30 | hb30
        ·
         have hb30' := bne_iff_ne.1 hb30
         refine qm (v := .bool true) A 10 rfl rfl rfl rfl hP (M.sub (cc (cc (List.nil_sublist _)))) (fun w1 M => qg rfl rfl (fun w => (zt w).trans (by rw [hb30]))) λa A↦?_
         refine jo (by kernel_rfl) ?_
         refine hK29 _ _ (wp_cond_true (A.ev rfl) ?_)
         refine wsk fun K31 hK31 => wrl (sda A λa A↦?_)
         refine qa (hK31 _ _ (wp_ret (hret _ _ (en1 A rfl (qf rfl) ?_))))
         exact ⟨by rw [yv (.inr (.inr (.inr (.inl (zjc hb30')))))], M.bel⟩
        ·
         have hb30' := bne_eq_false_iff_eq.1 hb30
         refine qm (v := .bool false) A 10 rfl rfl rfl rfl hP (M.sub (cc (cc (List.nil_sublist _)))) (fun w1 M => qg rfl rfl (fun w => (zt w).trans (by rw [hb30]))) λa A↦?_
         refine jo (by kernel_rfl) ?_
         refine hK29 _ _ (wp_cond_false (A.ev rfl) ?_)
         refine wp_skip (hK28 _ _ (wrl (sdm A λa A↦?_)))
         refine sdo (v := .int .i64 (((i + 1 : Nat) : Int))) A (qg rfl rfl (fun w => (jm (vb (by omega) (by omega)) w).trans (by rw [show (((i : Nat) : Int) + 1 : Int) = ((i + 1 : Nat) : Int) from by omega]))) λa A↦?_
         refine sda A λa A↦?_
         refine qa ?_
         refine hK23 _ _ _ (by omega) ⟨i + 1, rfl, ⟨by omega, fun j hj => if h9 : j < i then hin8 j h9 else by have h8 : j = i := (by omega); subst h8; exact zjd hb30'⟩, A.keep _ (by repeat' constructor), M⟩
       ·
        have hb27' := of_decide_eq_false hb27
        refine sdc A zf hb27 λa A↦?_
        refine qa (hK26 _ _ (wp_cond_false (A.ev rfl) ?_))
        refine wp_exit (hK20 _ _ (wsk fun K32 hK32 => wsk fun K33 hK33 => wrl (sda A λa A↦?_)))
        refine qa (hK33 _ _ (wp_block ?_))
        have hrl : t.d.rl = u.d.rl := qzi (by omega) (fun j hj => hin8 j (by omega))
        have hsy := zde hb8' hb10' hb12' hrl (by omega) hb17
        refine zx (fun m_ a w1 => ∃ (j : Nat), m_ = 1 + (t.ts.length - j) ∧ (j ≤ t.ts.length ∧ ka (t.ts.map Dt.tr) (u.ts.map Dt.tr) = ka ((t.ts.map Dt.tr).drop j) ((u.ts.map Dt.tr).drop j)) ∧ Sl a 89 [(0, .agg (t.d.cells t.ts.length).toArray), (1, .agg (u.d.cells u.ts.length).toArray), (2, .pointer (some ⟨g2, 0, none⟩)), (3, .pointer (some ⟨g4, 0, none⟩)), (5, .int .i64 (((i : Nat) : Int))), (6, .int .i64 (((j : Nat) : Int))), (7, .pointer (some ⟨g2, 0, none⟩)), (8, .int .i64 t.d.k), (9, .pointer (some ⟨g4, 0, none⟩)), (10, .int .i64 u.d.k), (11, .bool false), (12, .bool false), (13, .pointer (some ⟨g2, 1, none⟩)), (14, .int .i64 t.d.n), (15, .pointer (some ⟨g4, 1, none⟩)), (16, .int .i64 u.d.n), (17, .bool false), (18, .bool false), (19, .bool false), (20, .pointer (some ⟨g2, 8, none⟩)), (21, .string t.d.s), (22, .pointer (some ⟨g4, 8, none⟩)), (23, .string u.d.s), (24, .bool false), (25, .bool false), (26, .bool false), (27, .pointer (some ⟨g2, 9, none⟩)), (28, .slice t.d.ro t.d.rl.length t.d.rc), (29, .int .i64 (((t.d.rl.length : Nat) : Int))), (30, .pointer (some ⟨g4, 9, none⟩)), (31, .slice u.d.ro u.d.rl.length u.d.rc), (32, .int .i64 (((u.d.rl.length : Nat) : Int))), (33, .bool false), (34, .bool false), (35, .bool false), (36, .pointer (some ⟨g2, 10, none⟩)), (37, .slice t.d.lo t.ts.length t.d.lc), (38, .int .i64 (((t.ts.length : Nat) : Int))), (39, .pointer (some ⟨g4, 10, none⟩)), (40, .slice u.d.lo u.ts.length u.d.lc), (41, .int .i64 (((u.ts.length : Nat) : Int))), (42, .bool false), (43, .bool false), (44, .bool false), (45, .pointer (some ⟨g2, 2, none⟩)), (46, .agg #[.bool t.d.y.q.b1, .slice t.d.y.o1 t.d.y.q.t1.length t.d.y.c1, .slice t.d.y.o2 t.d.y.q.q1.length t.d.y.c2, .bool t.d.y.q.b2, .slice t.d.y.o3 t.d.y.q.t2.length t.d.y.c3, .slice t.d.y.o4 t.d.y.q.q2.length t.d.y.c4]), (47, .pointer (some ⟨g4, 2, none⟩)), (48, .agg #[.bool u.d.y.q.b1, .slice u.d.y.o1 u.d.y.q.t1.length u.d.y.c1, .slice u.d.y.o2 u.d.y.q.q1.length u.d.y.c2, .bool u.d.y.q.b2, .slice u.d.y.o3 u.d.y.q.t2.length u.d.y.c3, .slice u.d.y.o4 u.d.y.q.q2.length u.d.y.c4]), (49, .bool true), (50, .bool false), (51, .bool false), (52, .int .i64 (((i : Nat) : Int))), (53, .pointer (some ⟨g2, 9, none⟩)), (54, .slice t.d.ro t.d.rl.length t.d.rc), (55, .int .i64 (((t.d.rl.length : Nat) : Int))), (56, .bool false)] ∧ Mg w w1 (.obj g4 (.cells (u.d.cells u.ts.length).toArray 30) :: .obj g2 (.cells (t.d.cells t.ts.length).toArray 30) :: [])) _ ⟨0, rfl, ⟨Nat.zero_le _, rfl⟩, A.keep _ (by repeat' constructor), M⟩ ?_
        clear M A
        rintro m_ a w34 ⟨j, rfl, hinv36, A, M⟩ K35 hK35
        obtain ⟨hi1, hin9⟩ := hinv36
        refine wsk fun K37 hK37 => wsk fun K38 hK38 => wrl (sdm A λa A↦?_)
        refine sdo (v := .pointer (some ⟨g2, 10, none⟩)) A (qb LiS_fld_30_5 rfl rfl) λa A↦?_
        refine sdo A (ql M LiS_is1_22 rfl 1 rfl rfl) λa A↦?_
        refine sdo A (qs Tryz.underlying22 rfl) λa A↦?_
        rcases tf (decide (((j : Nat) : Int) < ((t.ts.length : Nat) : Int))) with hb39 | hb39
        ·
         have hb39' := of_decide_eq_true hb39
         refine sdc A zf hb39 λa A↦?_
         refine qa (hK38 _ _ (wp_cond_true (A.ev rfl) ?_))
         refine wp_skip (hK37 _ _ (wsk fun K40 hK40 => wp_block (wsk fun K41 hK41 => ?_)))
         obtain ⟨t1, bt1, ot1, it1, mt1, rt1_, lt1, Ht1⟩ := qqc ht (i := j) (by omega)
         obtain ⟨u1, bu1, ou1, iu1, mu1, ru1_, lu1, Hu1⟩ := qqc hu (i := j) (by omega)
         refine xv (S := fun w1 => Mg w w1 (.obj g4 (.cells (u.d.cells u.ts.length).toArray 30) :: .obj g2 (.cells (t.d.cells t.ts.length).toArray 30) :: [])) (by kernel_rfl) ?_
         replace M := M.drew
         refine qm (v := .pointer (some ⟨g2, 10, none⟩)) A 0 rfl rfl rfl rfl hP (M.sub (cc (cc (List.nil_sublist _)))) (fun w1 M => qb LiS_fld_30_5 rfl rfl) λa A↦?_
         refine qm A 1 rfl rfl rfl rfl hP (M.sub (cc (cc (List.nil_sublist _)))) (fun w1 M => ql M LiS_is1_22 rfl 1 rfl rfl) λa A↦?_
         refine qm A 2 rfl rfl rfl rfl hP (M.sub (cc (cc (List.nil_sublist _)))) (fun w1 M => zd rfl) λa A↦?_
         refine qm (v := .pointer (some ⟨bt1, ot1 + j * 11, none⟩)) A 3 rfl rfl rfl rfl hP (M.sub (cc (cc (List.nil_sublist _)))) (fun w1 M => zj (k := j) Tryz.underlying22 (by kernel_rfl) rfl rfl rfl lt1 (by omega)) λa A↦?_
         refine qm A 4 rfl rfl rfl rfl hP (M.sub (cc (cc (List.nil_sublist _)))) (fun w1 M => zp M Ht1 LiS_isS_30 rfl rfl) λa A↦?_
         refine qm (v := .pointer (some ⟨g4, 10, none⟩)) A 5 rfl rfl rfl rfl hP (M.sub (cc (cc (List.nil_sublist _)))) (fun w1 M => qb LiS_fld_30_5 rfl rfl) λa A↦?_
         refine qm A 6 rfl rfl rfl rfl hP (M.sub (cc (cc (List.nil_sublist _)))) (fun w1 M => ql M LiS_is1_22 rfl 0 rfl rfl) λa A↦?_
         refine qm A 7 rfl rfl rfl rfl hP (M.sub (cc (cc (List.nil_sublist _)))) (fun w1 M => zd rfl) λa A↦?_
         refine qm (v := .pointer (some ⟨bu1, ou1 + j * 11, none⟩)) A 8 rfl rfl rfl rfl hP (M.sub (cc (cc (List.nil_sublist _)))) (fun w1 M => zj (k := j) Tryz.underlying22 (by kernel_rfl) rfl rfl rfl lu1 (by omega)) λa A↦?_
         refine qm A 9 rfl rfl rfl rfl hP (M.sub (cc (cc (List.nil_sublist _)))) (fun w1 M => zp M Hu1 LiS_isS_30 rfl rfl) λa A↦?_
         rcases tf (yy t1.tr u1.tr) with hb42 | hb42
         ·
          refine zv (by kernel_rfl) (jy A 10 rfl rfl rfl rfl (zu rfl rfl (fun w => by kernel_rfl)) ((hb42 ▸ ih (by have := qki mt1; omega) (Dt.keep M.bel _ rt1_) (Dt.keep M.bel _ ru1_))) ?_)
          rintro _ w44 ⟨rfl, hb43⟩
          replace M := M.call hb43
          refine ⟨_, rfl, (M.sub (cc (cc (List.nil_sublist _)))), ?_⟩
          intro a A
          refine qm (v := .bool false) A 11 rfl rfl rfl rfl hP (M.sub (cc (cc (List.nil_sublist _)))) (fun w1 M => qz rfl zk) λa A↦?_
          refine jo (by kernel_rfl) ?_
          refine hK41 _ _ (wp_cond_false (A.ev rfl) ?_)
          refine wp_skip (hK40 _ _ (wrl (sdm A λa A↦?_)))
          refine sdo (v := .int .i64 (((j + 1 : Nat) : Int))) A (qg rfl rfl (fun w => (jm (vb (by omega) (by omega)) w).trans (by rw [show (((j : Nat) : Int) + 1 : Int) = ((j + 1 : Nat) : Int) from by omega]))) λa A↦?_
          refine sda A λa A↦?_
          refine qa ?_
          refine hK35 _ _ _ (by omega) ⟨j + 1, rfl, ⟨by omega, by rw [hin9, qsd it1 iu1, hb42, Bool.true_and]⟩, A.keep _ (by repeat' constructor), M⟩
         ·
          refine zv (by kernel_rfl) (jy A 10 rfl rfl rfl rfl (zu rfl rfl (fun w => by kernel_rfl)) ((hb42 ▸ ih (by have := qki mt1; omega) (Dt.keep M.bel _ rt1_) (Dt.keep M.bel _ ru1_))) ?_)
          rintro _ w46 ⟨rfl, hb45⟩
          replace M := M.call hb45
          refine ⟨_, rfl, (M.sub (cc (cc (List.nil_sublist _)))), ?_⟩
          intro a A
          refine qm (v := .bool true) A 11 rfl rfl rfl rfl hP (M.sub (cc (cc (List.nil_sublist _)))) (fun w1 M => qz rfl zk) λa A↦?_
          refine jo (by kernel_rfl) ?_
          refine hK41 _ _ (wp_cond_true (A.ev rfl) ?_)
          refine wsk fun K47 hK47 => wrl (sda A λa A↦?_)
          refine qa (hK47 _ _ (wp_ret (hret _ _ (en1 A rfl (qf rfl) ?_))))
          exact ⟨by rw [hsy, hin9, qsd it1 iu1, hb42]; rfl, M.bel⟩
        ·
         have hb39' := of_decide_eq_false hb39
         refine sdc A zf hb39 λa A↦?_
         refine qa (hK38 _ _ (wp_cond_false (A.ev rfl) ?_))
         refine wp_exit (hK32 _ _ (wsk fun K48 hK48 => wrl (sda A λa A↦?_)))
         refine qa (hK48 _ _ (wp_ret (hret _ _ (en1 A rfl (qf rfl) ?_))))
         exact ⟨by rw [hsy, hin9, qzh (by omega)], M.bel⟩
      ·
       refine gcl A M (ef rfl rfl) (qja (Dt.keep M.bel _ ht) (Dt.keep M.bel _ hu) hb17) fun w50 hb49 M a A => ?_
       refine sdo (v := .bool true) A (qz rfl zk) λa A↦?_
       refine sdk (v := .bool true) A λa A↦?_
       refine qa (hK7 _ _ (wp_cond_true (A.ev rfl) ?_))
       refine wsk fun K51 hK51 => wrl (sda A λa A↦?_)
       refine qa (hK51 _ _ (wp_ret (hret _ _ (en1 A rfl (qf rfl) ?_))))
       exact ⟨by rw [yv (.inr (.inr (.inr (.inr (.inr hb17)))))], M.bel⟩
   ·
    have hb12' := of_decide_eq_false hb12
    refine sdo (v := .bool true) A (qg rfl rfl (fun w => (qcc Tryz.underlying9 w).trans (by rw [hb12] <;> rfl))) λa A↦?_
    refine sdk (v := .bool true) A λa A↦?_
    refine sdm A λa A↦?_
    iterate 7 refine qh A rfl rfl rfl λa A↦?_
    refine sdk (v := .bool true) A λa A↦?_
    refine sdm A λa A↦?_
    iterate 7 refine qh A rfl rfl rfl λa A↦?_
    refine sdk (v := .bool true) A λa A↦?_
    refine sdm A λa A↦?_
    iterate 6 refine qh A rfl rfl rfl λa A↦?_
    refine sdk (v := .bool true) A λa A↦?_
    refine qa (hK7 _ _ (wp_cond_true (A.ev rfl) ?_))
    refine wsk fun K52 hK52 => wrl (sda A λa A↦?_)
    refine qa (hK52 _ _ (wp_ret (hret _ _ (en1 A rfl (qf rfl) ?_))))
    exact ⟨by rw [yv (.inr (.inr (.inl hb12')))], M.bel⟩
theorem vt : ∀ n, RSames n
 | 0 => fun h => absurd h (Nat.not_lt_zero _)
 | n + 1 => qsi (vt n)
/-- A list is sound. -/
def OkL (L : List Tr) : Prop := L.all (yw 2) = true ∧ xq L + L.length + 1 ≤ 20000 ∧ L.all (jx qi) = true
theorem qxe (L : List Tr) : qr qi (zn L nilT) = true ↔ OkL L := by
  rw [qhj]
  have h1 : yw 1 nilT = true := by rfl
  have h2 : jx qi nilT = true := by rfl
  have h3 : kw nilT = 1 := by rfl
  rw [h3]
  unfold OkL
  constructor
  · rintro ⟨⟨a, _⟩, b, c, _⟩; exact ⟨a, b, c⟩
  · rintro ⟨a, b, c⟩; exact ⟨⟨a, h1⟩, b, c, h2⟩
theorem OkL.of {L M : List Tr} (h : OkL L) (hm : ∀ x ∈ M, x ∈ L) (hn : xq M + M.length ≤ xq L + L.length) : OkL M := ⟨List.all_eq_true.2 fun x hx => List.all_eq_true.1 h.1 x (hm x hx), by have := h.2.1; omega, List.all_eq_true.2 fun x hx => List.all_eq_true.1 h.2.2 x (hm x hx)⟩
theorem zgi {A : List Tr} (h : OkL A) : ofS A = zn A nilT := by unfold ofS; rw [qic ((qxe A).2 h)]
theorem zig {A : List Tr} (h : OkL A) : qib (zn A nilT) = (zn A.reverse nilT, 0) := by
  unfold qib
  rw [if_neg (by rw [(qxe A).2 h]; decide), qeb]
/-! ### How much the answers hold -/
theorem zea (xs : List Tr) (z : Tr) : (fitS xs z).1.bulk ≤ Tr.bulks xs + xs.length + z.bulk + 1 := by
  unfold fitS
  split
  · show (zn xs z).bulk ≤ _; rw [vf]; omega
  · show vx.bulk ≤ _; rw [show vx.bulk = 1 from rfl]; omega
theorem zje : ∀ xs : List Tr, xs.length ≤ Tr.bulks xs
  | [] => Nat.le_refl _
  | t :: xs => by
    have := zje xs
    have h2 : 1 ≤ t.bulk := by cases t; rw [ve]; omega
    rw [Tr.bulks, List.length_cons]; omega
theorem zgj (xs : List Tr) : (ofS xs).bulk ≤ Tr.bulks xs + Tr.bulks xs + 2 := by
  have h1 := zea xs nilT
  have h2 := zje xs
  rw [show nilT.bulk = 1 from rfl] at h1
  unfold ofS
  omega
theorem qmg : ∀ {L xs : List Tr}, jh L = some xs → Tr.bulks xs + xs.length ≤ Tr.bulks L
  | [], xs, h => by cases h; exact Nat.le_refl _
  | t :: L, xs, h => by
    rw [jh] at h
    cases h1 : zq t with
    | none => rw [h1] at h; cases h
    | some a =>
      cases h2 : jh L with
      | none => rw [h1, h2] at h; cases h
      | some b =>
        rw [h1, h2] at h
        cases h
        have h3 := jl h1
        have h4 := qmg h2
        rw [jr, Tr.bulks, List.length_append]
        omega
/-- The items of a datum, and the error. -/
noncomputable def qad (t : Tr) : List Tr × Int :=
  if qr qi t = false then ([], 2) else match zq t with
    | none => ([], 10)
    | some xs => (xs, 0)
theorem qmh {t : Tr} (h : qr qi t = false) : qad t = ([], 2) := by unfold qad; rw [if_pos h]
theorem qjb {t : Tr} (h : qr qi t = true) (ha : zq t = none) : qad t = ([], 10) := by unfold qad; rw [if_neg (by rw [h]; decide), ha]
theorem qjc {t : Tr} {xs : List Tr} (h : qr qi t = true) (ha : zq t = some xs) : qad t = (xs, 0) := by unfold qad; rw [if_neg (by rw [h]; decide), ha]
theorem zjf {us vs : List Dt} (h : us.map Dt.tr = vs.map Dt.tr) {i : Nat} {t u : Dt} (ht : us[i]? = some t) (hu : vs[i]? = some u) : t.tr = u.tr := by
  have := congrArg (fun l => l[i]?) h
  simp only [List.getElem?_map, ht, hu, Option.map_some] at this
  exact Option.some.inj this
/-! ### A fixed fact -/
def xu (k : Int) : Dt := .mk ⟨k, 0, ⟨Q6.zero, none, 0, none, 0, none, 0, none, 0⟩, ⟨#[]⟩, none, 0, [], none, 0⟩ []
theorem zeb : qib (ofS [(xu 2).tr, (xu 10).tr]) = (zn [(xu 10).tr, (xu 2).tr] nilT, 0) := by
  have h : OkL [(xu 2).tr, (xu 10).tr] := by
    unfold xu
    rw [Dt.tr_mk, Dt.tr_mk]
    exact ⟨by rfl, by decide, by rfl⟩
  rw [zgi h, zig h]
  rfl
theorem zec (w : World) : ∀ t ∈ [xu 2, xu 10], t.rd w := fun t ht => by
  rcases List.mem_cons.1 ht with h | h
  · rw [h]; exact qfe w 2 (by decide) (by decide)
  · rw [List.mem_singleton.1 h]; exact qfe w 10 (by decide) (by decide)
theorem zad {t : Dt} {a b : Tr} (h : t.tr = .mk 8 0 Q6.zero ⟨#[]⟩ [] [a, b]) : t.d.k = 8 ∧ t.ts.length = 2 ∧ ∀ u, t.ts[0]? = some u → u.tr = a := by
  cases t with
  | mk d ts =>
    rw [Dt.tr_mk] at h
    injection h with h1 _ _ _ _ h2
    refine ⟨h1, ?_, fun u hu => ?_⟩
    · have := congrArg List.length h2; rw [List.length_map] at this; exact this
    · have := congrArg (fun l => l[0]?) h2
      simp only [List.getElem?_map] at this
      simp only [Dt.ts] at hu
      rw [hu] at this
      simpa using this
theorem LiM_is1_22 : Is1 Tryz.prog 22 := ⟨⟨_, Tryz.underlying22, rfl⟩, by kernel_rfl⟩
theorem LiM_is1_3 : Is1 Tryz.prog 3 := ⟨⟨_, Tryz.underlying3, rfl⟩, by kernel_rfl⟩
theorem LiM_fld_30_0 : FieldAt Tryz.prog 30 0 0 := ⟨_, _, Tryz.underlying30, rfl, rfl, by kernel_rfl⟩
theorem LiM_fld_30_5 : FieldAt Tryz.prog 30 5 10 := ⟨_, _, Tryz.underlying30, rfl, rfl, by kernel_rfl⟩
theorem LiM_isS_30 : IsS Tryz.prog 30 11 := ⟨⟨_, Tryz.underlying30⟩, by kernel_rfl⟩
theorem qci {w : World} : Calls Tryz.prog 38 #[] w fun e w' => e = .returned (.agg (zw.d.cells zw.ts.length).toArray) ∧ Below w.heap.size w w' := by
 have M : Mg w w ([]) := Mg.start w
 refine qp (l := []) Tryz.func38 rfl Tryz.ntmps38 rfl rfl ?_
 intro Q hret hnorm hP a A
 refine wsk fun K1 hK1 => wrl (zr (vs := (qe.d.cells qe.ts.length)) (t := 30) A M rfl rfl rfl pg (qt (z := .agg (qe.d.cells qe.ts.length).toArray) (by kernel_rfl) rfl) (by decide) ?_)
 intro g2 w3 M a A
 refine qa (hK1 _ _ (wsk fun K4 hK4 => wrl (sdo (v := .agg #[.int .i64 1, .int .i64 0, .bool false, .slice none 0 0, .slice none 0 0, .bool false, .slice none 0 0, .slice none 0 0, .string (⟨#[]⟩), .slice none 0 0, .slice none 0 0]) A (za rfl (fun w => by kernel_rfl)) λa A↦?_)))
 refine qx (us := [.int .i64 1, .int .i64 0, .bool false, .slice none 0 0, .slice none 0 0, .bool false, .slice none 0 0, .slice none 0 0, .string (⟨#[]⟩), .slice none 0 0, .slice none 0 0]) (L' := (.obj g2 (.cells #[.int .i64 1, .int .i64 0, .bool false, .slice none 0 0, .slice none 0 0, .bool false, .slice none 0 0, .slice none 0 0, .string (⟨#[]⟩), .slice none 0 0, .slice none 0 0] 30) :: [])) A M rfl rfl (qk rfl rfl rfl (by kernel_rfl) M 0 rfl rfl rfl) 0 rfl rfl rfl ?_
 intro w5 M
 refine qa (hK4 _ _ (wp_ret (hret _ _ (en1 A rfl (qw M LiM_isS_30 rfl 0 rfl (cs := [.int .i64 1, .int .i64 0, .bool false, .slice none 0 0, .slice none 0 0, .bool false, .slice none 0 0, .slice none 0 0, .string (⟨#[]⟩), .slice none 0 0, .slice none 0 0]) rfl rfl) ?_))))
 exact ⟨rfl, M.bel⟩
theorem zae {w0 w : World} {t : Dt} (h0 : Below w0.heap.size w0 w) (ht : t.rd w0) (hs : jx qi t.tr = true) (hb : t.tr.bulk ≤ 1000000000) : Calls Tryz.prog 33 #[.agg (t.d.cells t.ts.length).toArray] w fun e w' => ∃ so' ca' ys, ∃ q : Dt, e = .returned (.tuple #[.slice so' (ys : List Dt).length ca', .agg (q.d.cells q.ts.length).toArray]) ∧ (t.tr = zn (ys.map Dt.tr) q.tr ∧ q.d.k ≠ 8 ∧ jx qi q.tr = true ∧ (∀ x ∈ ys, x.rd w0) ∧ q.rd w0 ∧ ys.length ≤ t.tr.bulk) ∧ Mg w w' [.row 30 11 (.slice so' ys.length ca') ys.length (cellsOf ys)] := by
 have M : Mg w w ([]) := Mg.start w
 refine qp (l := [(0, .agg (t.d.cells t.ts.length).toArray)]) Tryz.func33 rfl Tryz.ntmps33 rfl rfl ?_
 intro Q hret hnorm hP a A
 refine wsk fun K1 hK1 => wrl (zr (vs := (t.d.cells t.ts.length)) (t := 30) A M rfl rfl rfl pg (zg rfl rfl) (by decide) ?_)
 intro g2 w3 M a A
 refine sda A λa A↦?_
 refine zr (vs := (qe.d.cells qe.ts.length)) (t := 30) A M rfl rfl rfl pg (qt (z := .agg (qe.d.cells qe.ts.length).toArray) (by kernel_rfl) rfl) (by decide) ?_
 intro g4 w5 M a A
 refine qa (hK1 _ _ (wsk fun K6 hK6 => wrl (kv (e := 30) (sz := 11) (m := 0) (vs := cellsOf []) A M rfl rfl rfl (zh rfl (by kernel_rfl)) rfl rfl (.inl (by decide)) ?_)))
 intro g7 w8 M a A
 refine sda A λa A↦?_
 refine qa (hK6 _ _ (wsk fun K9 hK9 => wp_block (zx (fun m_ a w1 => ∃ (p : Dt) (xs : List Dt) (so_ : Option Addr) (ca_ : Nat), m_ = 1 + p.tr.bulk ∧ (p.rd w0 ∧ jx qi p.tr = true ∧ (∀ x ∈ xs, x.rd w0) ∧ t.tr = zn (xs.map Dt.tr) p.tr ∧ xs.length + p.tr.bulk ≤ t.tr.bulk) ∧ Sl a 22 [(0, .agg (t.d.cells t.ts.length).toArray), (1, .pointer (some ⟨g2, 0, none⟩)), (2, .slice none 0 0), (3, .pointer (some ⟨g4, 0, none⟩)), (4, .slice so_ xs.length ca_), (5, .slice (some ⟨g7, 0, none⟩) 0 0)] ∧ Mg w w1 (.row 30 11 (.slice so_ xs.length ca_) xs.length (cellsOf xs) :: .obj g4 (.cells (qe.d.cells qe.ts.length).toArray 30) :: .obj g2 (.cells (p.d.cells p.ts.length).toArray 30) :: [])) _ ⟨t, [], some ⟨g7, 0, none⟩, 0, rfl, ⟨ht, hs, (fun x h => by cases h), rfl, (by show 0 + t.tr.bulk ≤ t.tr.bulk; omega)⟩, A.keep _ (by repeat' constructor), M⟩ ?_)))
 clear M A
 rintro m_ a w10 ⟨p, xs, so_, ca_, rfl, hinv12, A, M⟩ K11 hK11
 obtain ⟨hp, hps, hxs, htl, hbx⟩ := hinv12
 refine wsk fun K13 hK13 => wsk fun K14 hK14 => wrl (sdo (v := .pointer (some ⟨g2, 0, none⟩)) A (qb LiM_fld_30_0 rfl rfl) λa A↦?_)
 refine sdo A (ql M LiM_is1_3 rfl 2 rfl rfl) λa A↦?_
 rcases tf ((p.d.k == 8)) with hb15 | hb15
 ·
  have hb15' := eq_of_beq hb15
  refine sdc A qj hb15 λa A↦?_
  refine qa (hK14 _ _ (wp_cond_true (A.ev rfl) ?_))
  refine wp_skip (hK13 _ _ (wp_block (wsk fun K16 hK16 => ?_)))
  have l2p := (qod hps hb15').1
  have hbp := qra p
  obtain ⟨p0, bp0, op0, ip0, mp0, rp0_, lp0, Hp0⟩ := qqc hp (i := 0) (by omega)
  obtain ⟨p1, bp1, op1, ip1, mp1, rp1_, lp1, Hp1⟩ := qqc hp (i := 1) (by omega)
  replace Hp0 := Hp0.below h0
  replace Hp1 := Hp1.below h0
  refine wrl (sdm A λa A↦?_)
  refine sdo (v := .pointer (some ⟨g2, 10, none⟩)) A (qb LiM_fld_30_5 rfl rfl) λa A↦?_
  refine sdo A (ql M LiM_is1_22 rfl 2 rfl rfl) λa A↦?_
  refine sdo (v := .pointer (some ⟨bp0, op0 + 0 * 11, none⟩)) A (zj (k := 0) Tryz.underlying22 (by kernel_rfl) rfl rfl rfl lp0 (by omega)) λa A↦?_
  refine sdo A (zp M Hp0 LiM_isS_30 rfl rfl) λa A↦?_
  refine kv (e := 30) (sz := 11) (m := 1) (vs := cellsOf [p0]) A M rfl rfl rfl (zh rfl (by kernel_rfl)) rfl rfl (.inl (by decide)) ?_
  intro g17 w18 M a A
  refine xm (e := 30) (sz := 11) (k := 1) (q := xs.length) (m := 1) (xs := cellsOf xs) (news := cellsOf [p0]) (L' := fun v19 => (.row 30 11 (.slice (some ⟨g17, 0, none⟩) 1 1) 1 (cellsOf [p0]) :: .row 30 11 (v19) (xs.length + 1) (cellsOf xs ++ cellsOf [p0]) :: .obj g4 (.cells (qe.d.cells qe.ts.length).toArray 30) :: .obj g2 (.cells (p.d.cells p.ts.length).toArray 30) :: [])) A rfl rfl rfl (qaf (z := .agg #[.int .i64 0, .int .i64 0, .bool false, .slice none 0 0, .slice none 0 0, .bool false, .slice none 0 0, .slice none 0 0, .string ⟨#[]⟩, .slice none 0 0, .slice none 0 0]) (sz := 11) (by_ := 192) Tryz.underlying22 (by kernel_rfl) rfl rfl rfl M 1 rfl rfl rfl rfl (qgh (M.has 0 rfl)) (vk [p0]) (by omega)) (fun _ => rfl) ?_
  intro v19 w20 M a A
  replace M : Mg w w20 (.row 30 11 (.slice (some ⟨g17, 0, none⟩) 1 1) 1 (cellsOf [p0]) :: .row 30 11 (v19) ((xs ++ [p0]).length) (cellsOf (xs ++ [p0])) :: .obj g4 (.cells (qe.d.cells qe.ts.length).toArray 30) :: .obj g2 (.cells (p.d.cells p.ts.length).toArray 30) :: []) := by
   rw [jv, List.length_append]; exact M
  obtain ⟨so21, ca22, rfl⟩ := kk (M.has 1 rfl)
  refine sda A λa A↦?_
  refine qa (hK16 _ _ (wrl (sdo (v := .pointer (some ⟨g2, 10, none⟩)) A (qb LiM_fld_30_5 rfl rfl) λa A↦?_)))
  refine sdo A (ql M LiM_is1_22 rfl 3 rfl rfl) λa A↦?_
  refine sdo (v := .pointer (some ⟨bp1, op1 + 1 * 11, none⟩)) A (zj (k := 1) Tryz.underlying22 (by kernel_rfl) rfl rfl rfl lp1 (by omega)) λa A↦?_
  refine sdo A (zp M Hp1 LiM_isS_30 rfl rfl) λa A↦?_
  refine qx (us := (p1.d.cells p1.ts.length)) (L' := (.row 30 11 (.slice (some ⟨g17, 0, none⟩) 1 1) 1 (cellsOf [p0]) :: .row 30 11 (.slice so21 ((xs ++ [p0]).length) ca22) ((xs ++ [p0]).length) (cellsOf (xs ++ [p0])) :: .obj g4 (.cells (qe.d.cells qe.ts.length).toArray 30) :: .obj g2 (.cells (p1.d.cells p1.ts.length).toArray 30) :: [])) A M rfl rfl (qk rfl rfl rfl (by kernel_rfl) M 3 rfl rfl rfl) 3 rfl rfl rfl ?_
  intro w23 M
  refine qa ?_
  replace M : Mg w w23 (.row 30 11 (.slice so21 ((xs ++ [p0]).length) ca22) ((xs ++ [p0]).length) (cellsOf (xs ++ [p0])) :: .obj g4 (.cells (qe.d.cells qe.ts.length).toArray 30) :: .obj g2 (.cells (p1.d.cells p1.ts.length).toArray 30) :: []) := by
   have h9 := M.sub (cn (cc (cc (cc (.refl _)))))
   exact h9
  refine hK11 _ _ _ (by have := qki mp1; omega) ⟨p1, xs ++ [p0], so21, ca22, rfl, ⟨rp1_, (qoc hps).2 _ mp1, qqj hxs rp0_, qld htl hps hb15' ip0 ip1, by have := qki mp1; rw [List.length_append]; simp only [List.length_cons, List.length_nil]; omega⟩, A.keep _ (by repeat' constructor), M⟩
 ·
  have hb15' := ne_of_beq_false hb15
  refine sdc A qj hb15 λa A↦?_
  refine qa (hK14 _ _ (wp_cond_false (A.ev rfl) ?_))
  refine wp_exit (hK9 _ _ (wsk fun K24 hK24 => xv (S := fun w1 => Mg w w1 (.obj g2 (.cells (p.d.cells p.ts.length).toArray 30) :: [])) (by kernel_rfl) ?_))
  replace M := M.drew
  refine qm A 0 rfl rfl rfl rfl hP (M.sub (cn (cn (cc (List.nil_sublist _))))) (fun w1 M => zd rfl) λa A↦?_
  refine qm A 1 rfl rfl rfl rfl hP (M.sub (cn (cn (cc (List.nil_sublist _))))) (fun w1 M => zi M LiM_isS_30 rfl 0 rfl (cs := (p.d.cells p.ts.length)) rfl rfl) λa A↦?_
  refine qm A 2 rfl rfl rfl rfl hP (M.sub (cn (cn (cc (List.nil_sublist _))))) (fun w1 M => jp rfl) λa A↦?_
  refine zv (by kernel_rfl) (zfb (us := (p.d.cells p.ts.length)) (L' := (.row 30 11 (.slice so_ xs.length ca_) xs.length (cellsOf xs) :: .obj g4 (.cells (p.d.cells p.ts.length).toArray 30) :: .obj g2 (.cells (p.d.cells p.ts.length).toArray 30) :: [])) A M 3 rfl rfl rfl (qk rfl rfl rfl (by kernel_rfl) M 1 rfl rfl rfl) 1 rfl rfl rfl ?_)
  intro w25 M
  refine ⟨(M.sub (cn (cn (cc (List.nil_sublist _))))), ?_⟩
  refine jo (by kernel_rfl) ?_
  refine hK24 _ _ (wp_ret (hret _ _ (en2 A rfl (qf rfl) (qw M LiM_isS_30 rfl 1 rfl (cs := [.int .i64 p.d.k, .int .i64 p.d.n, .bool p.d.y.q.b1, .slice p.d.y.o1 p.d.y.q.t1.length p.d.y.c1, .slice p.d.y.o2 p.d.y.q.q1.length p.d.y.c2, .bool p.d.y.q.b2, .slice p.d.y.o3 p.d.y.q.t2.length p.d.y.c3, .slice p.d.y.o4 p.d.y.q.q2.length p.d.y.c4, .string p.d.s, .slice p.d.ro p.d.rl.length p.d.rc, .slice p.d.lo p.ts.length p.d.lc]) rfl rfl) ?_)))
  replace M : Mg w w25 (.row 30 11 (.slice so_ xs.length ca_) xs.length (cellsOf xs) :: []) := by
   have h9 := M.sub (cc (cn (cn (.refl _))))
   exact h9
  exact ⟨_, _, xs, p, rfl, ⟨htl, hb15', hps, hxs, hp, by omega⟩, M⟩
theorem ux {w0 w : World} {t : Dt} (h0 : Below w0.heap.size w0 w) (ht : t.rd w0) (hb : t.tr.bulk ≤ 4000000) : Calls Tryz.prog 8 #[.agg (t.d.cells t.ts.length).toArray] w fun e w' => (∃ so' ca' ys, e = .returned (.tuple #[.slice so' (ys : List Dt).length ca', .int .i64 0]) ∧ (qr qi t.tr = true ∧ zq t.tr = some (ys.map Dt.tr) ∧ (∀ x ∈ ys, x.rd w0) ∧ ys.length ≤ t.tr.bulk) ∧ Mg w w' [.row 30 11 (.slice so' ys.length ca') ys.length (cellsOf ys)]) ∨ (e = .returned (.tuple #[.slice none 0 0, .int .i64 10]) ∧ (qr qi t.tr = true ∧ zq t.tr = none) ∧ Below w.heap.size w w') ∨ (e = .returned (.tuple #[.slice none 0 0, .int .i64 2]) ∧ qr qi t.tr = false ∧ Below w.heap.size w w') := by
 have M : Mg w w ([]) := Mg.start w
 refine qp (l := [(0, .agg (t.d.cells t.ts.length).toArray)]) Tryz.func8 rfl Tryz.ntmps8 rfl rfl ?_
 intro Q hret hnorm hP a A
 refine wsk fun K1 hK1 => wrl (zr (vs := (t.d.cells t.ts.length)) (t := 30) A M rfl rfl rfl pg (zg rfl rfl) (by decide) ?_)
 intro g2 w3 M a A
 iterate 2 refine sda A λa A↦?_
 refine qa (hK1 _ _ (wsk fun K4 hK4 => wsk fun K5 hK5 => wrl (sdo A (zi M LiM_isS_30 rfl 0 rfl (cs := (t.d.cells t.ts.length)) rfl rfl) λa A↦?_)))
 rcases tf (qr qi t.tr) with hb6 | hb6
 ·
  refine gcl A M (ef rfl rfl) ((hb6 ▸ rsound_any (t := t) (Dt.keep M.bel _ (Dt.keep h0 _ ht)) (by omega))) fun w8 hb7 M a A => ?_
  refine sdo (v := .bool false) A (qz rfl zk) λa A↦?_
  refine qa (hK5 _ _ (wp_cond_false (A.ev rfl) ?_))
  refine wp_skip (hK4 _ _ (wsk fun K9 hK9 => wrl (sdo A (zi M LiM_isS_30 rfl 0 rfl (cs := (t.d.cells t.ts.length)) rfl rfl) λa A↦?_)))
  refine sct A (ef rfl rfl) (zae (h0.trans (M.bel.mono h0.size)) ht (yf hb6) (by omega)) ?_
  rintro _ w10 ⟨so7, ca7, ys, q, rfl, ⟨hy1, hq8, hqs, hy2, hqr, hy3⟩, hM7⟩
  replace M : Mg w w10 (.row 30 11 (.slice so7 ys.length ca7) ys.length (cellsOf ys) :: .obj g2 (.cells (t.d.cells t.ts.length).toArray 30) :: []) := (M.both hM7 (zb (by simp) (qy ze)) (zb (by simp) (qy ze)))
  refine ⟨_, rfl, ?_⟩
  intro a A
  refine sdm A λa A↦?_
  iterate 2 refine sdo A (qn (vs := [.slice so7 ys.length ca7, .agg (q.d.cells q.ts.length).toArray]) rfl rfl) λa A↦?_
  refine zr (vs := (qe.d.cells qe.ts.length)) (t := 30) A M rfl rfl rfl pg (qt (z := .agg (qe.d.cells qe.ts.length).toArray) (by kernel_rfl) rfl) (by decide) ?_
  intro g11 w12 M a A
  refine sda A λa A↦?_
  refine qx (us := (q.d.cells q.ts.length)) (L' := (.obj g11 (.cells (q.d.cells q.ts.length).toArray 30) :: .row 30 11 (.slice so7 ys.length ca7) ys.length (cellsOf ys) :: .obj g2 (.cells (t.d.cells t.ts.length).toArray 30) :: [])) A M rfl rfl (qk rfl rfl rfl (by kernel_rfl) M 0 rfl rfl rfl) 0 rfl rfl rfl ?_
  intro w13 M
  refine qa (hK9 _ _ (wsk fun K14 hK14 => wsk fun K15 hK15 => wrl (sdo (v := .pointer (some ⟨g11, 0, none⟩)) A (qb LiM_fld_30_0 rfl rfl) λa A↦?_)))
  refine sdo A (ql M LiM_is1_3 rfl 0 rfl rfl) λa A↦?_
  rcases tf ((q.d.k != 1)) with hb16 | hb16
  ·
   have hb16' := bne_iff_ne.1 hb16
   refine sdc A zt hb16 λa A↦?_
   refine qa (hK15 _ _ (wp_cond_true (A.ev rfl) ?_))
   refine wsk fun K17 hK17 => wrl ?_
   iterate 2 refine sda A λa A↦?_
   refine qa (hK17 _ _ (wp_ret (hret _ _ (en2 A rfl (qf rfl) (qf rfl) ?_))))
   exact .inr (.inl ⟨rfl, ⟨hb6, qhe hy1 hq8 hb16'⟩, M.bel⟩)
  ·
   have hb16' := bne_eq_false_iff_eq.1 hb16
   refine sdc A zt hb16 λa A↦?_
   refine qa (hK15 _ _ (wp_cond_false (A.ev rfl) ?_))
   refine wp_skip (hK14 _ _ (wsk fun K18 hK18 => wrl (sdm A λa A↦?_)))
   iterate 2 refine sda A λa A↦?_
   refine qa (hK18 _ _ (wp_ret (hret _ _ (en2 A rfl (qf rfl) (qf rfl) ?_))))
   replace M : Mg w w13 (.row 30 11 (.slice so7 ys.length ca7) ys.length (cellsOf ys) :: []) := by
    have h9 := M.sub (cn (cc (cn (.refl _))))
    exact h9
   exact .inl ⟨_, _, ys, rfl, ⟨hb6, qhd hy1 hqs hb16', hy2, hy3⟩, M⟩
 ·
  refine gcl A M (ef rfl rfl) ((hb6 ▸ rsound_any (t := t) (Dt.keep M.bel _ (Dt.keep h0 _ ht)) (by omega))) fun w20 hb19 M a A => ?_
  refine sdo (v := .bool true) A (qz rfl zk) λa A↦?_
  refine qa (hK5 _ _ (wp_cond_true (A.ev rfl) ?_))
  refine wsk fun K21 hK21 => wrl ?_
  iterate 2 refine sda A λa A↦?_
  refine qa (hK21 _ _ (wp_ret (hret _ _ (en2 A rfl (qf rfl) (qf rfl) ?_))))
  exact .inr (.inr ⟨rfl, hb6, M.bel⟩)
theorem ui {w0 w : World} {t : Dt} (h0 : Below w0.heap.size w0 w) (ht : t.rd w0) (hb : t.tr.bulk ≤ 4000000) (hs : qr qi t.tr = true) (h : (zq t.tr).isSome = true) : Calls Tryz.prog 8 #[.agg (t.d.cells t.ts.length).toArray] w fun e w' => ∃ so' ca' ys, e = .returned (.tuple #[.slice so' (ys : List Dt).length ca', .int .i64 0]) ∧ (zq t.tr = some (ys.map Dt.tr) ∧ (∀ x ∈ ys, x.rd w0) ∧ ys.length ≤ t.tr.bulk) ∧ Mg w w' [.row 30 11 (.slice so' ys.length ca') ys.length (cellsOf ys)] := by
 refine (ux h0 ht hb).mono ?_
 rintro e w' (⟨so', ca', ys, h1, h2, h3⟩ | ⟨_, h2, _⟩ | ⟨_, h2, _⟩)
 ·
  exact ⟨so', ca', ys, h1, h2.2, h3⟩
 ·
  rw [h2.2] at h; cases h
 ·
  rw [hs] at h2; cases h2
theorem uj {w0 w : World} {t : Dt} (h0 : Below w0.heap.size w0 w) (ht : t.rd w0) (hb : t.tr.bulk ≤ 4000000) (hs : qr qi t.tr = true) (h : (zq t.tr).isSome = false) : Calls Tryz.prog 8 #[.agg (t.d.cells t.ts.length).toArray] w fun e w' => e = .returned (.tuple #[.slice none 0 0, .int .i64 10]) ∧ Below w.heap.size w w' := by
 refine (ux h0 ht hb).mono ?_
 rintro e w' (⟨so', ca', ys, h1, h2, h3⟩ | ⟨h1, h2, h3⟩ | ⟨_, h2, _⟩)
 ·
  rw [h2.2.1] at h; cases h
 ·
  exact ⟨h1, h3⟩
 ·
  rw [hs] at h2; cases h2
theorem qjd {w0 w : World} {t : Dt} (h0 : Below w0.heap.size w0 w) (ht : t.rd w0) (hb : t.tr.bulk ≤ 4000000) (hs : qr qi t.tr = false) : Calls Tryz.prog 8 #[.agg (t.d.cells t.ts.length).toArray] w fun e w' => e = .returned (.tuple #[.slice none 0 0, .int .i64 2]) ∧ Below w.heap.size w w' := by
 refine (ux h0 ht hb).mono ?_
 rintro e w' (⟨so', ca', ys, h1, h2, h3⟩ | ⟨h1, h2, h3⟩ | ⟨h1, h2, h3⟩)
 ·
  rw [hs] at h2; cases h2.1
 ·
  rw [hs] at h2; cases h2.1
 ·
  exact ⟨h1, h3⟩
theorem zha {ts : List Dt} {k : Nat} {t : Dt} (h : ts[k - 1]? = some t) (hk : 0 < k) : (ts.drop (k - 1)).map Dt.tr = t.tr :: (ts.drop k).map Dt.tr := by
 obtain ⟨hl, rfl⟩ := List.getElem?_eq_some_iff.1 h
 rw [List.drop_eq_getElem_cons hl, show k - 1 + 1 = k by omega, List.map_cons]
theorem yh {w : World} {so : Option Addr} {ca : Nat} {ts : List Dt} (hR : Rt w so ts) (hD : ∀ t ∈ ts, t.rd w) {u : Dt} (hu : u.rd w) (hl : ts.length ≤ 1000000000) (P : Nat → Prop) (hPn : ∀ b, w.heap.size ≤ b → P b) (hPt : ∀ t ∈ ts, t.at_ P) (hPu : u.at_ P) : Calls Tryz.prog 40 #[.slice so ts.length ca, .agg (u.d.cells u.ts.length).toArray] w fun e w' => ∃ t2 : Dt, e = .returned (.agg (t2.d.cells t2.ts.length).toArray) ∧ (t2.rd w' ∧ t2.at_ P ∧ t2.tr = zn (ts.map Dt.tr) u.tr) ∧ Below w.heap.size w w' := by
 have M : Mg w w ([]) := Mg.start w
 refine qp (l := [(0, .slice so ts.length ca), (1, .agg (u.d.cells u.ts.length).toArray)]) Tryz.func40 rfl Tryz.ntmps40 rfl rfl ?_
 intro Q hret hnorm hP a A
 refine wsk fun K1 hK1 => wrl (zr (vs := (u.d.cells u.ts.length)) (t := 30) A M rfl rfl rfl pg (zg rfl rfl) (by decide) ?_)
 intro g2 w3 M a A
 refine zr (vs := (qe.d.cells qe.ts.length)) (t := 30) A M rfl rfl rfl pg (qt (z := .agg (qe.d.cells qe.ts.length).toArray) (by kernel_rfl) rfl) (by decide) ?_
 intro g4 w5 M a A
 refine qa (hK1 _ _ (wsk fun K6 hK6 => wsk fun K7 hK7 => wrl (sdm A λa A↦?_)))
 refine sdo A (qs Tryz.underlying22 rfl) λa A↦?_
 refine sdo (v := .int .i64 (((ts.length : Nat) : Int) - 1)) A (qg rfl rfl (ar_sub (in_i64 (by omega) (by omega)))) λa A↦?_
 refine sda A λa A↦?_
 refine qa (hK7 _ _ (wp_block ?_))
 have hge3 := (Ck.lt (M.has 1 rfl) g2 rfl).1
 have hge4 := (Ck.lt (M.has 0 rfl) g4 rfl).1
 refine zx (fun m_ a w1 => ∃ (k : Nat) (z : Dt), m_ = 1 + k ∧ (k ≤ ts.length ∧ z.rd w1 ∧ z.at_ (fun b => b ≠ g2 ∧ b ≠ g4) ∧ z.at_ P ∧ z.tr = zn ((ts.drop k).map Dt.tr) u.tr) ∧ Sl a 21 [(0, .slice so ts.length ca), (1, .agg (u.d.cells u.ts.length).toArray), (3, .pointer (some ⟨g2, 0, none⟩)), (4, .pointer (some ⟨g4, 0, none⟩)), (5, .int .i64 (((k : Nat) : Int) - 1)), (6, .slice so ts.length ca), (7, .int .i64 (((ts.length : Nat) : Int))), (8, .int .i64 (((ts.length : Nat) : Int) - 1))] ∧ Mg w w1 (.obj g4 (.cells (qe.d.cells qe.ts.length).toArray 30) :: .obj g2 (.cells (z.d.cells z.ts.length).toArray 30) :: [])) _ ⟨ts.length, u, rfl, ⟨Nat.le_refl _, Dt.keep M.bel _ hu, Dt.at_mono (fun b hb => by constructor <;> omega) _ (Dt.at_lt _ hu), hPu, by rw [List.drop_length]; rfl⟩, A.keep _ (by repeat' constructor), M⟩ ?_
 clear M A
 rintro m_ a w8 ⟨k, z, rfl, hinv10, A, M⟩ K9 hK9
 obtain ⟨hk0, hzr, hza, hzp, hzt⟩ := hinv10
 refine wsk fun K11 hK11 => wsk fun K12 hK12 => wrl (sdm A λa A↦?_)
 rcases tf (decide (0 ≤ ((k : Nat) : Int) - 1)) with hb13 | hb13
 ·
  have hb13' := of_decide_eq_true hb13
  refine sdc A xa hb13 λa A↦?_
  refine qa (hK12 _ _ (wp_cond_true (A.ev rfl) ?_))
  refine wp_skip (hK11 _ _ (wsk fun K14 hK14 => wp_block ?_))
  obtain ⟨t1, bt1, ot1, it1, mt1, rt1_, lt1, Ht1⟩ := qjh hR hD (i := (k - 1)) (by omega)
  have hl3 := (Ck.lt (M.has 1 rfl) g2 rfl).2
  have hl4 := (Ck.lt (M.has 0 rfl) g4 rfl).2
  refine xv (S := fun w1 => Mg w w1 ([])) (by kernel_rfl) ?_
  replace M := M.drew
  refine qm A 0 rfl rfl rfl rfl hP (M.sub (cn (cn (List.nil_sublist _)))) (fun w1 M => zd rfl) λa A↦?_
  refine qm A 1 rfl rfl rfl rfl hP (M.sub (cn (cn (List.nil_sublist _)))) (fun w1 M => zd rfl) λa A↦?_
  refine qm (v := .pointer (some ⟨bt1, ot1 + (k - 1) * 11, none⟩)) A 2 rfl rfl rfl rfl hP (M.sub (cn (cn (List.nil_sublist _)))) (fun w1 M => zj (k := (k - 1)) Tryz.underlying22 (by kernel_rfl) rfl rfl (by omega) lt1 (by omega)) λa A↦?_
  refine qm A 3 rfl rfl rfl rfl hP (M.sub (cn (cn (List.nil_sublist _)))) (fun w1 M => zp M Ht1 LiM_isS_30 rfl rfl) λa A↦?_
  refine zv (by kernel_rfl) (qbg A 4 rfl rfl rfl rfl (zi M LiM_isS_30 rfl 1 rfl (cs := (z.d.cells z.ts.length)) rfl rfl) (M.sub (cn (cn (List.nil_sublist _)))) ?_)
  intro a A
  replace hzr : z.rd w8.drew := Dt.keep (Below.refl _ w8).drew _ hzr
  have hdw : w8.drew.heap.size = w8.heap.size := rfl
  refine zv (by kernel_rfl) (qua (e := 30) (sz := 11) (m := 2) (vs := cellsOf [t1, z]) A M 5 rfl rfl rfl rfl (zh rfl (by kernel_rfl)) rfl rfl (by decide) ?_)
  intro g5 w15 M hg5 hb5
  replace hzr := Dt.keep hb5 _ hzr
  refine ⟨(M.sub (cn (cn (cn (List.nil_sublist _))))), ?_⟩
  intro a A
  refine qm (v := .agg ((xe g5 t1 z).d.cells (xe g5 t1 z).ts.length).toArray) A 6 rfl rfl rfl rfl hP (M.sub (cn (cn (cn (List.nil_sublist _))))) (fun w1 M => za rfl (fun w => by kernel_rfl)) λa A↦?_
  refine zv (by kernel_rfl) (ye (us := ((xe g5 t1 z).d.cells (xe g5 t1 z).ts.length)) (L' := (.row 30 11 (.slice (some ⟨g5, 0, none⟩) 2 2) 2 (cellsOf [t1, z]) :: .obj g4 (.cells (qe.d.cells qe.ts.length).toArray 30) :: .obj g2 (.cells ((xe g5 t1 z).d.cells (xe g5 t1 z).ts.length).toArray 30) :: [])) A M 7 rfl rfl rfl (qk (cs := (xe g5 t1 z).d.cells (xe g5 t1 z).ts.length) rfl rfl rfl (by kernel_rfl) M 2 rfl rfl (xn (xe g5 t1 z))) 2 rfl rfl rfl ?_)
  intro w16 M hK17
  replace hzr := Dt.kept hK17 _ hzr (Dt.at_mono (fun b hb => hb.1) _ hza)
  have hr9 : (xe g5 t1 z).rd w16 := qrd (Ck.lt (M.has 0 rfl) g5 rfl).2 (fun p v hp => by
   obtain ⟨b, o, e, hc⟩ := qgh (M.has 0 rfl) (fun e => by cases e)
   cases e
   have := hc p v hp
   rwa [Nat.zero_add] at this) (Dt.keep M.bel _ rt1_) hzr
  have ha9 : (xe g5 t1 z).at_ (fun b => b ≠ g2 ∧ b ≠ g4) := qhf ⟨by omega, by omega⟩ (Dt.at_mono (fun b hb => by constructor <;> omega) _ (Dt.at_lt _ rt1_)) hza
  have hp9 : (xe g5 t1 z).at_ P := qhf (hPn _ (by omega)) (hPt t1 mt1) hzp
  refine ⟨(M.sub (cn (cn (cn (List.nil_sublist _))))), ?_⟩
  refine jo (by kernel_rfl) ?_
  refine hK14 _ _ (wrl (sdm A λa A↦?_))
  refine sdo (v := .int .i64 (((k - 1 : Nat) : Int) - 1)) A (qg rfl rfl (ar_sub ((in_i64 (by omega) (by omega)).trans (by omega)))) λa A↦?_
  refine sda A λa A↦?_
  refine qa ?_
  replace M : Mg w w16 (.obj g4 (.cells (qe.d.cells qe.ts.length).toArray 30) :: .obj g2 (.cells ((xe g5 t1 z).d.cells (xe g5 t1 z).ts.length).toArray 30) :: []) := by
   have h9 := M.sub (cn (cc (cc (.refl _))))
   exact h9
  refine hK9 _ _ _ (by omega) ⟨k - 1, (xe g5 t1 z), rfl, ⟨by omega, hr9, ha9, hp9, by rw [qrc, hzt, zha it1 (by omega)]; rfl⟩, A.keep _ (by repeat' constructor), M⟩
 ·
  have hb13' := of_decide_eq_false hb13
  refine sdc A xa hb13 λa A↦?_
  refine qa (hK12 _ _ (wp_cond_false (A.ev rfl) ?_))
  refine wp_exit (hK6 _ _ (wsk fun K18 hK18 => wrl (sdo A (zi M LiM_isS_30 rfl 1 rfl (cs := (z.d.cells z.ts.length)) rfl rfl) λa A↦?_)))
  refine ji (us := (z.d.cells z.ts.length)) (L' := (.obj g4 (.cells (z.d.cells z.ts.length).toArray 30) :: .obj g2 (.cells (z.d.cells z.ts.length).toArray 30) :: [])) A M rfl rfl (qk rfl rfl rfl (by kernel_rfl) M 0 rfl rfl rfl) 0 rfl rfl rfl ?_
  intro w19 M hK20
  replace hzr := Dt.kept hK20 _ hzr (Dt.at_mono (fun b hb => hb.2) _ hza)
  refine qa (hK18 _ _ (wp_ret (hret _ _ (en1 A rfl (qw M LiM_isS_30 rfl 0 rfl (cs := [.int .i64 z.d.k, .int .i64 z.d.n, .bool z.d.y.q.b1, .slice z.d.y.o1 z.d.y.q.t1.length z.d.y.c1, .slice z.d.y.o2 z.d.y.q.q1.length z.d.y.c2, .bool z.d.y.q.b2, .slice z.d.y.o3 z.d.y.q.t2.length z.d.y.c3, .slice z.d.y.o4 z.d.y.q.q2.length z.d.y.c4, .string z.d.s, .slice z.d.ro z.d.rl.length z.d.rc, .slice z.d.lo z.ts.length z.d.lc]) rfl rfl) ?_))))
  obtain rfl : k = 0 := by omega
  exact ⟨z, rfl, ⟨hzr, hzp, hzt⟩, M.bel⟩
theorem LiN_isS_30 : IsS Tryz.prog 30 11 := ⟨⟨_, Tryz.underlying30⟩, by kernel_rfl⟩
theorem zhb {w : World} {so : Option Addr} {ca : Nat} {ts : List Dt} (hR : Rt w so ts) (hD : ∀ t ∈ ts, t.rd w) (hb : Tr.bulks (ts.map Dt.tr) ≤ 1100000) : Calls Tryz.prog 18 #[.slice so ts.length ca] w fun e w' => ∃ t2 : Dt, e = .returned (.agg (t2.d.cells t2.ts.length).toArray) ∧ (t2.rd w' ∧ t2.tr = ofS (ts.map Dt.tr)) ∧ Below w.heap.size w w' := by
 have hbl := jn ts
 have hnb : zw.tr.bulk = 1 := by rw [xw]; rfl
 have M : Mg w w ([]) := Mg.start w
 refine qp (l := [(0, .slice so ts.length ca)]) Tryz.func18 rfl Tryz.ntmps18 rfl rfl ?_
 intro Q hret hnorm hP a A
 refine wsk fun K1 hK1 => wrl (zr (vs := (qe.d.cells qe.ts.length)) (t := 30) A M rfl rfl rfl pg (qt (z := .agg (qe.d.cells qe.ts.length).toArray) (by kernel_rfl) rfl) (by decide) ?_)
 intro g2 w3 M a A
 refine qa (hK1 _ _ (wsk fun K4 hK4 => wrl (sdm A λa A↦?_)))
 refine gcl A M (ef rfl rfl) (qci) fun w6 hb5 M a A => ?_
 obtain ⟨hge7, hlt8⟩ := Ck.lt (M.has 0 rfl) g2 rfl
 refine sct A (ef rfl rfl) (yh (hR.below M.bel) (fun t ht => Dt.keep M.bel _ (hD t ht)) (yn _) (by omega) (fun b => b < w.heap.size ∨ w6.heap.size ≤ b) (fun b hb => .inr hb) (fun t ht => Dt.at_mono (fun b hb => .inl hb) _ (Dt.at_lt _ (hD t ht))) (qff _)) ?_
 rintro _ w10 ⟨t3, rfl, ⟨hrt3, hat3, htt3⟩, hb9⟩
 replace M := M.call hb9
 refine ⟨_, rfl, ?_⟩
 intro a A
 refine qoa (vs := (qe.d.cells qe.ts.length)) (t := 30) A M rfl rfl rfl pg (qt (z := .agg (qe.d.cells qe.ts.length).toArray) (by kernel_rfl) rfl) (by decide) ?_
 intro g11 w12 M hg13 hb14 a A
 have hnt3g11 := Dt.at_mono (q := (· ≠ g11)) (fun b hb => by intro e; omega) _ (Dt.at_lt _ hrt3)
 replace hrt3 := Dt.keep hb14 _ hrt3
 refine ji (us := (t3.d.cells t3.ts.length)) (L' := (.obj g11 (.cells (t3.d.cells t3.ts.length).toArray 30) :: .obj g2 (.cells (qe.d.cells qe.ts.length).toArray 30) :: [])) A M rfl rfl (qk rfl rfl rfl (by kernel_rfl) M 0 rfl rfl rfl) 0 rfl rfl rfl ?_
 intro w15 M hK16
 replace hrt3 := Dt.kept hK16 _ hrt3 hnt3g11
 refine qa (hK4 _ _ (wsk fun K17 hK17 => wsk fun K18 hK18 => wrl (sdo A (zi M LiN_isS_30 rfl 0 rfl (cs := (t3.d.cells t3.ts.length)) rfl rfl) λa A↦?_)))
 rcases tf (qr qi t3.tr) with hb19 | hb19
 ·
  refine sct A (ef rfl rfl) ((hb19 ▸ rsound_any (t := t3) hrt3 (by rw [htt3, vf, List.length_map]; omega))) ?_
  rintro _ w21 ⟨rfl, hb20⟩
  replace hrt3 := Dt.keep hb20 _ hrt3
  replace M := M.call hb20
  refine ⟨_, rfl, ?_⟩
  intro a A
  refine sdo (v := .bool false) A (qz rfl zk) λa A↦?_
  refine qa (hK18 _ _ (wp_cond_false (A.ev rfl) ?_))
  refine wp_skip (hK17 _ _ (wsk fun K22 hK22 => wrl (sdo A (zi M LiN_isS_30 rfl 0 rfl (cs := (t3.d.cells t3.ts.length)) rfl rfl) λa A↦?_)))
  refine ji (us := (t3.d.cells t3.ts.length)) (L' := (.obj g11 (.cells (t3.d.cells t3.ts.length).toArray 30) :: .obj g2 (.cells (t3.d.cells t3.ts.length).toArray 30) :: [])) A M rfl rfl (qk rfl rfl rfl (by kernel_rfl) M 1 rfl rfl rfl) 1 rfl rfl rfl ?_
  intro w23 M hK24
  replace hrt3 := Dt.kept hK24 _ hrt3 (Dt.at_mono (fun b hb => by rintro rfl; omega) _ hat3)
  refine qa (hK22 _ _ (wp_ret (hret _ _ (en1 A rfl (qw M LiN_isS_30 rfl 1 rfl (cs := [.int .i64 t3.d.k, .int .i64 t3.d.n, .bool t3.d.y.q.b1, .slice t3.d.y.o1 t3.d.y.q.t1.length t3.d.y.c1, .slice t3.d.y.o2 t3.d.y.q.q1.length t3.d.y.c2, .bool t3.d.y.q.b2, .slice t3.d.y.o3 t3.d.y.q.t2.length t3.d.y.c3, .slice t3.d.y.o4 t3.d.y.q.q2.length t3.d.y.c4, .string t3.d.s, .slice t3.d.ro t3.d.rl.length t3.d.rc, .slice t3.d.lo t3.ts.length t3.d.lc]) rfl rfl) ?_))))
  exact ⟨t3, rfl, ⟨hrt3, by unfold ofS; rw [htt3, xw] at hb19; rw [qic hb19, htt3, xw]⟩, M.bel⟩
 ·
  refine sct A (ef rfl rfl) ((hb19 ▸ rsound_any (t := t3) hrt3 (by rw [htt3, vf, List.length_map]; omega))) ?_
  rintro _ w26 ⟨rfl, hb25⟩
  replace hrt3 := Dt.keep hb25 _ hrt3
  replace M := M.call hb25
  refine ⟨_, rfl, ?_⟩
  intro a A
  refine sdo (v := .bool true) A (qz rfl zk) λa A↦?_
  refine qa (hK18 _ _ (wp_cond_true (A.ev rfl) ?_))
  refine wsk fun K27 hK27 => wrl (sdo (v := .agg (qe.d.cells qe.ts.length).toArray) A (za rfl (fun w => by kernel_rfl)) λa A↦?_)
  refine ji (us := (qe.d.cells qe.ts.length)) (L' := (.obj g11 (.cells (t3.d.cells t3.ts.length).toArray 30) :: .obj g2 (.cells (qe.d.cells qe.ts.length).toArray 30) :: [])) A M rfl rfl (qk rfl rfl rfl (by kernel_rfl) M 1 rfl rfl rfl) 1 rfl rfl rfl ?_
  intro w28 M hK29
  replace hrt3 := Dt.kept hK29 _ hrt3 (Dt.at_mono (fun b hb => by rintro rfl; omega) _ hat3)
  refine qa (hK27 _ _ (wp_ret (hret _ _ (en1 A rfl (qw M LiN_isS_30 rfl 1 rfl (cs := [.int .i64 0, .int .i64 0, .bool false, .slice none 0 0, .slice none 0 0, .bool false, .slice none 0 0, .slice none 0 0, .string (⟨#[]⟩), .slice none 0 0, .slice none 0 0]) rfl rfl) ?_))))
  exact ⟨qe, rfl, ⟨jc _, by unfold ofS; rw [htt3, xw] at hb19; rw [qxc hb19, jb]⟩, M.bel⟩
theorem zed {w : World} {t : Dt} (ht : t.rd w) (hb : t.tr.bulk ≤ 4000000) {P : Nat → Prop} (hPt : t.at_ P) : Calls Tryz.prog 39 #[.agg (t.d.cells t.ts.length).toArray] w fun e w' => ∃ (t2 : Dt) (k : Int), e = .returned (.tuple #[.agg (t2.d.cells t2.ts.length).toArray, .int .i64 k]) ∧ (t2.rd w' ∧ t2.at_ P ∧ (t2.tr, k) = if qr qi t.tr = true then (t.tr, 0) else (vx, 4)) ∧ Below w.heap.size w w' := by
 have M : Mg w w ([]) := Mg.start w
 refine qp (l := [(0, .agg (t.d.cells t.ts.length).toArray)]) Tryz.func39 rfl Tryz.ntmps39 rfl rfl ?_
 intro Q hret hnorm hP a A
 refine wsk fun K1 hK1 => wrl (zr (vs := (t.d.cells t.ts.length)) (t := 30) A M rfl rfl rfl pg (zg rfl rfl) (by decide) ?_)
 intro g2 w3 M a A
 refine zr (vs := (qe.d.cells qe.ts.length)) (t := 30) A M rfl rfl rfl pg (qt (z := .agg (qe.d.cells qe.ts.length).toArray) (by kernel_rfl) rfl) (by decide) ?_
 intro g4 w5 M a A
 refine sda A λa A↦?_
 refine qa (hK1 _ _ (wsk fun K6 hK6 => wsk fun K7 hK7 => wrl (sdo A (zi M LiN_isS_30 rfl 1 rfl (cs := (t.d.cells t.ts.length)) rfl rfl) λa A↦?_)))
 rcases tf (qr qi t.tr) with hb8 | hb8
 ·
  refine gcl A M (ef rfl rfl) ((hb8 ▸ rsound_any (t := t) (Dt.keep M.bel _ ht) hb)) fun w10 hb9 M a A => ?_
  refine sdo (v := .bool false) A (qz rfl zk) λa A↦?_
  refine qa (hK7 _ _ (wp_cond_false (A.ev rfl) ?_))
  refine wp_skip (hK6 _ _ (wsk fun K11 hK11 => wrl (sdo A (zi M LiN_isS_30 rfl 1 rfl (cs := (t.d.cells t.ts.length)) rfl rfl) λa A↦?_)))
  refine qx (us := (t.d.cells t.ts.length)) (L' := (.obj g4 (.cells (t.d.cells t.ts.length).toArray 30) :: .obj g2 (.cells (t.d.cells t.ts.length).toArray 30) :: [])) A M rfl rfl (qk rfl rfl rfl (by kernel_rfl) M 0 rfl rfl rfl) 0 rfl rfl rfl ?_
  intro w12 M
  refine sda A λa A↦?_
  refine qa (hK11 _ _ (wp_ret (hret _ _ (en2 A rfl (qw M LiN_isS_30 rfl 0 rfl (cs := [.int .i64 t.d.k, .int .i64 t.d.n, .bool t.d.y.q.b1, .slice t.d.y.o1 t.d.y.q.t1.length t.d.y.c1, .slice t.d.y.o2 t.d.y.q.q1.length t.d.y.c2, .bool t.d.y.q.b2, .slice t.d.y.o3 t.d.y.q.t2.length t.d.y.c3, .slice t.d.y.o4 t.d.y.q.q2.length t.d.y.c4, .string t.d.s, .slice t.d.ro t.d.rl.length t.d.rc, .slice t.d.lo t.ts.length t.d.lc]) rfl rfl) (qf rfl) ?_))))
  exact ⟨t, 0, rfl, ⟨Dt.keep M.bel _ ht, hPt, by rw [if_pos hb8]⟩, M.bel⟩
 ·
  refine gcl A M (ef rfl rfl) ((hb8 ▸ rsound_any (t := t) (Dt.keep M.bel _ ht) hb)) fun w14 hb13 M a A => ?_
  refine sdo (v := .bool true) A (qz rfl zk) λa A↦?_
  refine qa (hK7 _ _ (wp_cond_true (A.ev rfl) ?_))
  refine wsk fun K15 hK15 => wrl (sdo (v := .agg (qe.d.cells qe.ts.length).toArray) A (za rfl (fun w => by kernel_rfl)) λa A↦?_)
  refine qx (us := (qe.d.cells qe.ts.length)) (L' := (.obj g4 (.cells (qe.d.cells qe.ts.length).toArray 30) :: .obj g2 (.cells (t.d.cells t.ts.length).toArray 30) :: [])) A M rfl rfl (qk rfl rfl rfl (by kernel_rfl) M 0 rfl rfl rfl) 0 rfl rfl rfl ?_
  intro w16 M
  refine sda A λa A↦?_
  refine qa (hK15 _ _ (wp_ret (hret _ _ (en2 A rfl (qw M LiN_isS_30 rfl 0 rfl (cs := [.int .i64 0, .int .i64 0, .bool false, .slice none 0 0, .slice none 0 0, .bool false, .slice none 0 0, .slice none 0 0, .string (⟨#[]⟩), .slice none 0 0, .slice none 0 0]) rfl rfl) (qf rfl) ?_))))
  exact ⟨qe, 4, rfl, ⟨jc _, xi _, by rw [if_neg (by rw [hb8]; decide), jb]⟩, M.bel⟩
theorem zaf {w : World} {t : Dt} (ht : t.rd w) (hb : t.tr.bulk ≤ 1100000) {n : Int} : Calls Tryz.prog 14 #[.agg (t.d.cells t.ts.length).toArray, .int .i64 n] w fun e w' => ∃ (t2 : Dt) (k : Int), e = .returned (.tuple #[.agg (t2.d.cells t2.ts.length).toArray, .int .i64 k]) ∧ (t2.rd w' ∧ (t2.tr, k) = yx t.tr n) ∧ Below w.heap.size w w' := by
 have M : Mg w w ([]) := Mg.start w
 refine qp (l := [(0, .agg (t.d.cells t.ts.length).toArray), (1, .int .i64 n)]) Tryz.func14 rfl Tryz.ntmps14 rfl rfl ?_
 intro Q hret hnorm hP a A
 refine wsk fun K1 hK1 => wrl (zr (vs := (t.d.cells t.ts.length)) (t := 30) A M rfl rfl rfl pg (zg rfl rfl) (by decide) ?_)
 intro g2 w3 M a A
 refine zr (vs := (qe.d.cells qe.ts.length)) (t := 30) A M rfl rfl rfl pg (qt (z := .agg (qe.d.cells qe.ts.length).toArray) (by kernel_rfl) rfl) (by decide) ?_
 intro g4 w5 M a A
 refine sda A λa A↦?_
 refine qa (hK1 _ _ (wsk fun K6 hK6 => wrl (sdo A (zi M LiN_isS_30 rfl 1 rfl (cs := (t.d.cells t.ts.length)) rfl rfl) λa A↦?_)))
 rcases tf (qr qi t.tr) with hb7 | hb7
 ·
  rcases tf ((zq t.tr).isSome) with hb9 | hb9
  ·
   refine sct A (ef rfl rfl) (ui M.bel ht (by omega) hb7 hb9) ?_
   rintro _ w11 ⟨so7, ca7, ys, rfl, ⟨hy1, hy2, hy3⟩, hM7⟩
   have hyb := jl hy1
   replace M : Mg w w11 (.row 30 11 (.slice so7 ys.length ca7) ys.length (cellsOf ys) :: .obj g4 (.cells (qe.d.cells qe.ts.length).toArray 30) :: .obj g2 (.cells (t.d.cells t.ts.length).toArray 30) :: []) := (M.both hM7 (zb (by simp) (zb (by simp) (qy ze))) (zb (by simp) (qy ze)))
   refine ⟨_, rfl, ?_⟩
   intro a A
   refine sdm A λa A↦?_
   iterate 2 refine sdo A (qn (vs := [.slice so7 ys.length ca7, .int .i64 0]) rfl rfl) λa A↦?_
   iterate 2 refine sda A λa A↦?_
   refine qa (hK6 _ _ (wsk fun K12 hK12 => wsk fun K13 hK13 => wrl (sdm A λa A↦?_)))
   refine sdo (v := .bool false) A (qg rfl rfl (fun w => by kernel_rfl)) λa A↦?_
   refine qa (hK13 _ _ (wp_cond_false (A.ev rfl) ?_))
   refine wp_skip (hK12 _ _ (wsk fun K14 hK14 => wsk fun K15 hK15 => wrl (sdm A λa A↦?_)))
   rcases tf (decide (n < 0)) with hb16 | hb16
   ·
    have hb16' := of_decide_eq_true hb16
    refine sdc A zf hb16 λa A↦?_
    refine sdm A λa A↦?_
    iterate 4 refine qh A rfl rfl rfl λa A↦?_
    refine sdk (v := .bool true) A λa A↦?_
    refine qa (hK15 _ _ (wp_cond_true (A.ev rfl) ?_))
    refine wsk fun K17 hK17 => wrl (sdo (v := .agg (qe.d.cells qe.ts.length).toArray) A (za rfl (fun w => by kernel_rfl)) λa A↦?_)
    refine qx (us := (qe.d.cells qe.ts.length)) (L' := (.row 30 11 (.slice so7 ys.length ca7) ys.length (cellsOf ys) :: .obj g4 (.cells (qe.d.cells qe.ts.length).toArray 30) :: .obj g2 (.cells (t.d.cells t.ts.length).toArray 30) :: [])) A M rfl rfl (qk rfl rfl rfl (by kernel_rfl) M 1 rfl rfl rfl) 1 rfl rfl rfl ?_
    intro w18 M
    refine sda A λa A↦?_
    refine qa (hK17 _ _ (wp_ret (hret _ _ (en2 A rfl (qw M LiN_isS_30 rfl 1 rfl (cs := [.int .i64 0, .int .i64 0, .bool false, .slice none 0 0, .slice none 0 0, .bool false, .slice none 0 0, .slice none 0 0, .string (⟨#[]⟩), .slice none 0 0, .slice none 0 0]) rfl rfl) (qf rfl) ?_))))
    exact ⟨qe, 1, rfl, ⟨jc _, by unfold yx; rw [if_neg (by rw [hb7]; decide), hy1]; show _ = if _ then _ else _; rw [List.length_map, if_pos (by omega), jb]⟩, M.bel⟩
   ·
    have hb16' := of_decide_eq_false hb16
    refine sdc A zf hb16 λa A↦?_
    iterate 3 refine sdm A λa A↦?_
    refine sdo A (qs Tryz.underlying22 rfl) λa A↦?_
    rcases tf (decide (((ys.length : Nat) : Int) < n)) with hb19 | hb19
    ·
     have hb19' := of_decide_eq_true hb19
     refine sdc A je hb19 λa A↦?_
     refine sdk (v := .bool true) A λa A↦?_
     refine qa (hK15 _ _ (wp_cond_true (A.ev rfl) ?_))
     refine wsk fun K20 hK20 => wrl (sdo (v := .agg (qe.d.cells qe.ts.length).toArray) A (za rfl (fun w => by kernel_rfl)) λa A↦?_)
     refine qx (us := (qe.d.cells qe.ts.length)) (L' := (.row 30 11 (.slice so7 ys.length ca7) ys.length (cellsOf ys) :: .obj g4 (.cells (qe.d.cells qe.ts.length).toArray 30) :: .obj g2 (.cells (t.d.cells t.ts.length).toArray 30) :: [])) A M rfl rfl (qk rfl rfl rfl (by kernel_rfl) M 1 rfl rfl rfl) 1 rfl rfl rfl ?_
     intro w21 M
     refine sda A λa A↦?_
     refine qa (hK20 _ _ (wp_ret (hret _ _ (en2 A rfl (qw M LiN_isS_30 rfl 1 rfl (cs := [.int .i64 0, .int .i64 0, .bool false, .slice none 0 0, .slice none 0 0, .bool false, .slice none 0 0, .slice none 0 0, .string (⟨#[]⟩), .slice none 0 0, .slice none 0 0]) rfl rfl) (qf rfl) ?_))))
     exact ⟨qe, 1, rfl, ⟨jc _, by unfold yx; rw [if_neg (by rw [hb7]; decide), hy1]; show _ = if _ then _ else _; rw [List.length_map, if_pos (by omega), jb]⟩, M.bel⟩
    ·
     have hb19' := of_decide_eq_false hb19
     refine sdc A je hb19 λa A↦?_
     refine sdk (v := .bool false) A λa A↦?_
     refine qa (hK15 _ _ (wp_cond_false (A.ev rfl) ?_))
     refine wp_skip (hK14 _ _ (wsk fun K22 hK22 => xv (S := fun w1 => Mg w w1 ([])) (by kernel_rfl) ?_))
     replace M := M.drew
     refine qm A 0 rfl rfl rfl rfl hP (M.sub (cn (cn (cn (List.nil_sublist _))))) (fun w1 M => zd rfl) λa A↦?_
     refine qm A 1 rfl rfl rfl rfl hP (M.sub (cn (cn (cn (List.nil_sublist _))))) (fun w1 M => zd rfl) λa A↦?_
     have hcp7 := qfd (M.has 0 rfl)
     refine qm (v := .slice ((if ca7 = n.toNat then so7 else so7.map (·.add (n.toNat * 11)))) ((ys.drop n.toNat).length) ((ca7 - n.toNat))) A 2 rfl rfl rfl rfl hP (M.sub (cn (cn (cn (List.nil_sublist _))))) (fun w1 M => (by rw [List.length_drop]; exact qcb (sz := 11) (lo := n.toNat) Tryz.underlying22 (by kernel_rfl) rfl rfl (by omega) (by omega))) λa A↦?_
     refine zv (by kernel_rfl) (jy A 3 rfl rfl rfl rfl (zu rfl rfl (fun w => by kernel_rfl)) (qci) ?_)
     rintro _ w24 ⟨rfl, hb23⟩
     replace M := M.call hb23
     refine ⟨_, rfl, (M.sub (cn (cn (cn (List.nil_sublist _))))), ?_⟩
     intro a A
     obtain ⟨hge25, hlt26⟩ := Ck.lt (M.has 1 rfl) g4 rfl
     obtain ⟨hge27, hlt28⟩ := Ck.lt (M.has 2 rfl) g2 rfl
     refine zv (by kernel_rfl) (jy A 4 rfl rfl rfl rfl (zu rfl rfl (fun w => by kernel_rfl)) (yh ((vj (M.has 0 rfl)).1.drop ca7 n.toNat hcp7) (fun t ht => Dt.keep M.bel _ (hy2 t (List.mem_of_mem_drop ht))) (yn _) (by rw [List.length_drop]; omega) (fun b => b < w.heap.size ∨ w24.heap.size ≤ b) (fun b hb => .inr hb) (fun t ht => Dt.at_mono (fun b hb => .inl hb) _ (Dt.at_lt _ (hy2 t (List.mem_of_mem_drop ht)))) (qff _)) ?_)
     rintro _ w30 ⟨t3, rfl, ⟨hrt3, hat3, htt3⟩, hb29⟩
     replace M := M.call hb29
     refine ⟨_, rfl, (M.sub (cn (cn (cn (List.nil_sublist _))))), ?_⟩
     intro a A
     refine zv (by kernel_rfl) (ye (us := (t3.d.cells t3.ts.length)) (L' := (.row 30 11 (.slice so7 ys.length ca7) ys.length (cellsOf ys) :: .obj g4 (.cells (t3.d.cells t3.ts.length).toArray 30) :: .obj g2 (.cells (t.d.cells t.ts.length).toArray 30) :: [])) A M 5 rfl rfl rfl (qk rfl rfl rfl (by kernel_rfl) M 1 rfl rfl rfl) 1 rfl rfl rfl ?_)
     intro w31 M hK32
     replace hrt3 := Dt.kept hK32 _ hrt3 (Dt.at_mono (fun b hb => by rintro rfl; omega) _ hat3)
     refine ⟨(M.sub (cn (cn (cn (List.nil_sublist _))))), ?_⟩
     refine qm A 6 rfl rfl rfl rfl hP (M.sub (cn (cn (cn (List.nil_sublist _))))) (fun w1 M => jp rfl) λa A↦?_
     refine jo (by kernel_rfl) ?_
     refine hK22 _ _ (wp_ret (hret _ _ (en2 A rfl (qw M LiN_isS_30 rfl 1 rfl (cs := [.int .i64 t3.d.k, .int .i64 t3.d.n, .bool t3.d.y.q.b1, .slice t3.d.y.o1 t3.d.y.q.t1.length t3.d.y.c1, .slice t3.d.y.o2 t3.d.y.q.q1.length t3.d.y.c2, .bool t3.d.y.q.b2, .slice t3.d.y.o3 t3.d.y.q.t2.length t3.d.y.c3, .slice t3.d.y.o4 t3.d.y.q.q2.length t3.d.y.c4, .string t3.d.s, .slice t3.d.ro t3.d.rl.length t3.d.rc, .slice t3.d.lo t3.ts.length t3.d.lc]) rfl rfl) (qf rfl) ?_)))
     exact ⟨t3, 0, rfl, ⟨hrt3, by unfold yx; rw [if_neg (by rw [hb7]; decide), hy1]; show _ = if _ then _ else _; rw [List.length_map, if_neg (by omega), htt3, xw, List.map_drop]⟩, M.bel⟩
  ·
   refine gcl A M (ef rfl rfl) (uj M.bel ht (by omega) hb7 hb9) fun w34 hb33 M a A => ?_
   refine sdm A λa A↦?_
   iterate 2 refine sdo A (qn (vs := [.slice none 0 0, .int .i64 10]) rfl rfl) λa A↦?_
   iterate 2 refine sda A λa A↦?_
   refine qa (hK6 _ _ (wsk fun K35 hK35 => wsk fun K36 hK36 => wrl (sdm A λa A↦?_)))
   refine sdo (v := .bool true) A (qg rfl rfl (fun w => by kernel_rfl)) λa A↦?_
   refine qa (hK36 _ _ (wp_cond_true (A.ev rfl) ?_))
   refine wsk fun K37 hK37 => wrl (sdo (v := .agg (qe.d.cells qe.ts.length).toArray) A (za rfl (fun w => by kernel_rfl)) λa A↦?_)
   refine sdm A λa A↦?_
   refine qx (us := (qe.d.cells qe.ts.length)) (L' := (.obj g4 (.cells (qe.d.cells qe.ts.length).toArray 30) :: .obj g2 (.cells (t.d.cells t.ts.length).toArray 30) :: [])) A M rfl rfl (qk rfl rfl rfl (by kernel_rfl) M 0 rfl rfl rfl) 0 rfl rfl rfl ?_
   intro w38 M
   refine sda A λa A↦?_
   refine qa (hK37 _ _ (wp_ret (hret _ _ (en2 A rfl (qw M LiN_isS_30 rfl 0 rfl (cs := [.int .i64 0, .int .i64 0, .bool false, .slice none 0 0, .slice none 0 0, .bool false, .slice none 0 0, .slice none 0 0, .string (⟨#[]⟩), .slice none 0 0, .slice none 0 0]) rfl rfl) (qf rfl) ?_))))
   exact ⟨qe, 10, rfl, ⟨jc _, by unfold yx; rw [if_neg (by rw [hb7]; decide), yt hb9, jb]⟩, M.bel⟩
 ·
  refine gcl A M (ef rfl rfl) (qjd M.bel ht (by omega) hb7) fun w40 hb39 M a A => ?_
  refine sdm A λa A↦?_
  iterate 2 refine sdo A (qn (vs := [.slice none 0 0, .int .i64 2]) rfl rfl) λa A↦?_
  iterate 2 refine sda A λa A↦?_
  refine qa (hK6 _ _ (wsk fun K41 hK41 => wsk fun K42 hK42 => wrl (sdm A λa A↦?_)))
  refine sdo (v := .bool true) A (qg rfl rfl (fun w => by kernel_rfl)) λa A↦?_
  refine qa (hK42 _ _ (wp_cond_true (A.ev rfl) ?_))
  refine wsk fun K43 hK43 => wrl (sdo (v := .agg (qe.d.cells qe.ts.length).toArray) A (za rfl (fun w => by kernel_rfl)) λa A↦?_)
  refine sdm A λa A↦?_
  refine qx (us := (qe.d.cells qe.ts.length)) (L' := (.obj g4 (.cells (qe.d.cells qe.ts.length).toArray 30) :: .obj g2 (.cells (t.d.cells t.ts.length).toArray 30) :: [])) A M rfl rfl (qk rfl rfl rfl (by kernel_rfl) M 0 rfl rfl rfl) 0 rfl rfl rfl ?_
  intro w44 M
  refine sda A λa A↦?_
  refine qa (hK43 _ _ (wp_ret (hret _ _ (en2 A rfl (qw M LiN_isS_30 rfl 0 rfl (cs := [.int .i64 0, .int .i64 0, .bool false, .slice none 0 0, .slice none 0 0, .bool false, .slice none 0 0, .slice none 0 0, .string (⟨#[]⟩), .slice none 0 0, .slice none 0 0]) rfl rfl) (qf rfl) ?_))))
  exact ⟨qe, 2, rfl, ⟨jc _, by unfold yx; rw [if_pos hb7, jb]⟩, M.bel⟩
theorem qpe {w : World} {t : Dt} (ht : t.rd w) (hb : t.tr.bulk ≤ 1100000) : Calls Tryz.prog 12 #[.agg (t.d.cells t.ts.length).toArray] w fun e w' => ∃ (t2 : Dt) (k : Int), e = .returned (.tuple #[.agg (t2.d.cells t2.ts.length).toArray, .int .i64 k]) ∧ (t2.rd w' ∧ (t2.tr, k) = qib t.tr) ∧ Below w.heap.size w w' := by
 have M : Mg w w ([]) := Mg.start w
 refine qp (l := [(0, .agg (t.d.cells t.ts.length).toArray)]) Tryz.func12 rfl Tryz.ntmps12 rfl rfl ?_
 intro Q hret hnorm hP a A
 refine wsk fun K1 hK1 => wrl (zr (vs := (t.d.cells t.ts.length)) (t := 30) A M rfl rfl rfl pg (zg rfl rfl) (by decide) ?_)
 intro g2 w3 M a A
 refine zr (vs := (qe.d.cells qe.ts.length)) (t := 30) A M rfl rfl rfl pg (qt (z := .agg (qe.d.cells qe.ts.length).toArray) (by kernel_rfl) rfl) (by decide) ?_
 intro g4 w5 M a A
 refine sda A λa A↦?_
 refine qa (hK1 _ _ (wsk fun K6 hK6 => wrl (sdo A (zi M LiN_isS_30 rfl 1 rfl (cs := (t.d.cells t.ts.length)) rfl rfl) λa A↦?_)))
 rcases tf (qr qi t.tr) with hb7 | hb7
 ·
  rcases tf ((zq t.tr).isSome) with hb9 | hb9
  ·
   refine sct A (ef rfl rfl) (ui M.bel ht (by omega) hb7 hb9) ?_
   rintro _ w11 ⟨so7, ca7, ys, rfl, ⟨hy1, hy2, hy3⟩, hM7⟩
   have hyb := jl hy1
   replace M : Mg w w11 (.row 30 11 (.slice so7 ys.length ca7) ys.length (cellsOf ys) :: .obj g4 (.cells (qe.d.cells qe.ts.length).toArray 30) :: .obj g2 (.cells (t.d.cells t.ts.length).toArray 30) :: []) := (M.both hM7 (zb (by simp) (zb (by simp) (qy ze))) (zb (by simp) (qy ze)))
   refine ⟨_, rfl, ?_⟩
   intro a A
   refine sdm A λa A↦?_
   iterate 2 refine sdo A (qn (vs := [.slice so7 ys.length ca7, .int .i64 0]) rfl rfl) λa A↦?_
   iterate 2 refine sda A λa A↦?_
   refine qa (hK6 _ _ (wsk fun K12 hK12 => wsk fun K13 hK13 => wrl (sdm A λa A↦?_)))
   refine sdo (v := .bool false) A (qg rfl rfl (fun w => by kernel_rfl)) λa A↦?_
   refine qa (hK13 _ _ (wp_cond_false (A.ev rfl) ?_))
   refine wp_skip (hK12 _ _ (wsk fun K14 hK14 => wrl (sct A (ef rfl rfl) (qci) ?_)))
   rintro _ w16 ⟨rfl, hb15⟩
   replace M := M.call hb15
   refine ⟨_, rfl, ?_⟩
   intro a A
   refine zr (vs := (qe.d.cells qe.ts.length)) (t := 30) A M rfl rfl rfl pg (qt (z := .agg (qe.d.cells qe.ts.length).toArray) (by kernel_rfl) rfl) (by decide) ?_
   intro g17 w18 M a A
   refine qx (us := (zw.d.cells zw.ts.length)) (L' := (.obj g17 (.cells (zw.d.cells zw.ts.length).toArray 30) :: .row 30 11 (.slice so7 ys.length ca7) ys.length (cellsOf ys) :: .obj g4 (.cells (qe.d.cells qe.ts.length).toArray 30) :: .obj g2 (.cells (t.d.cells t.ts.length).toArray 30) :: [])) A M rfl rfl (qk rfl rfl rfl (by kernel_rfl) M 0 rfl rfl rfl) 0 rfl rfl rfl ?_
   intro w19 M
   refine qa (hK14 _ _ (wsk fun K20 hK20 => wsk fun K21 hK21 => wrl (sda A λa A↦?_)))
   refine qa (hK21 _ _ (wp_block (zx (fun m_ a w1 => ∃ (i : Nat) (z : Dt), m_ = 1 + (ys.length - i) ∧ (i ≤ ys.length ∧ z.rd w1 ∧ z.at_ (fun b => b ≠ g17 ∧ b ≠ g4) ∧ z.tr = zn (((ys.take i).map Dt.tr).reverse) nilT) ∧ Sl a 32 [(0, .agg (t.d.cells t.ts.length).toArray), (1, .pointer (some ⟨g2, 0, none⟩)), (2, .pointer (some ⟨g4, 0, none⟩)), (3, .int .i64 0), (4, .slice so7 ys.length ca7), (5, .int .i64 0), (6, .pointer (some ⟨g17, 0, none⟩)), (7, .int .i64 (((i : Nat) : Int))), (8, .tuple #[.slice so7 ys.length ca7, .int .i64 0]), (9, .agg (t.d.cells t.ts.length).toArray), (10, .tuple #[.slice so7 ys.length ca7, .int .i64 0]), (11, .slice so7 ys.length ca7), (12, .int .i64 0), (13, .int .i64 0), (14, .bool false), (17, .agg (zw.d.cells zw.ts.length).toArray)] ∧ Mg w w1 (.obj g17 (.cells (z.d.cells z.ts.length).toArray 30) :: .row 30 11 (.slice so7 ys.length ca7) ys.length (cellsOf ys) :: .obj g4 (.cells (qe.d.cells qe.ts.length).toArray 30) :: .obj g2 (.cells (t.d.cells t.ts.length).toArray 30) :: [])) _ ⟨0, zw, rfl, ⟨Nat.zero_le _, yn _, qff _, xw⟩, A.keep _ (by repeat' constructor), M⟩ ?_)))
   clear M A
   rintro m_ a w22 ⟨i, z, rfl, hinv24, A, M⟩ K23 hK23
   obtain ⟨hi0, hzr, hza, hzt⟩ := hinv24
   refine wsk fun K25 hK25 => wsk fun K26 hK26 => wrl ?_
   iterate 2 refine sdm A λa A↦?_
   refine sdo A (qs Tryz.underlying22 rfl) λa A↦?_
   rcases tf (decide (((i : Nat) : Int) < ((ys.length : Nat) : Int))) with hb27 | hb27
   ·
    have hb27' := of_decide_eq_true hb27
    refine sdc A zf hb27 λa A↦?_
    refine qa (hK26 _ _ (wp_cond_true (A.ev rfl) ?_))
    refine wp_skip (hK25 _ _ (wsk fun K28 hK28 => wp_block ?_))
    obtain ⟨g9, c9, e9⟩ := qha (M.has 1 rfl) (show ys.length ≠ 0 by omega)
    have hso9 : so7 = some ⟨g9, 0, none⟩ := by injection e9
    obtain ⟨t1, it1⟩ : ∃ t1, ys[i]? = some t1 := ⟨_, List.getElem?_eq_getElem (show i < ys.length by omega)⟩
    have rt1_ := hy2 t1 (List.mem_of_getElem? it1)
    obtain ⟨hge6, hlt6⟩ := Ck.lt (M.has 0 rfl) g17 rfl
    obtain ⟨hge2, hlt2⟩ := Ck.lt (M.has 2 rfl) g4 rfl
    refine xv (S := fun w1 => Mg w w1 (.row 30 11 (.slice so7 ys.length ca7) ys.length (cellsOf ys) :: [])) (by kernel_rfl) ?_
    replace M := M.drew
    refine qm A 0 rfl rfl rfl rfl hP (M.sub (cn (cc (cn (cn (List.nil_sublist _)))))) (fun w1 M => zd rfl) λa A↦?_
    refine qm A 1 rfl rfl rfl rfl hP (M.sub (cn (cc (cn (cn (List.nil_sublist _)))))) (fun w1 M => zd rfl) λa A↦?_
    refine qm (v := .pointer (some ⟨g9, 0 + i * 11, none⟩)) A 2 rfl rfl rfl rfl hP (M.sub (cn (cc (cn (cn (List.nil_sublist _)))))) (fun w1 M => zj (k := i) Tryz.underlying22 (by kernel_rfl) rfl rfl rfl hso9 (by omega)) λa A↦?_
    refine qm A 3 rfl rfl rfl rfl hP (M.sub (cn (cc (cn (cn (List.nil_sublist _)))))) (fun w1 M => zbe (o := i * 11) (cs := t1.d.cells t1.ts.length) M 0 rfl hso9 LiN_isS_30 (xh it1) rfl rfl) λa A↦?_
    refine qfj (rs := [4, 5]) (by kernel_rfl) (by simp) ⟨?_, ?_, trivial⟩
    ·
     replace hzr : z.rd w22.drew := Dt.keep (Below.refl _ w22).drew _ hzr
     have hdw : w22.drew.heap.size = w22.heap.size := rfl
     refine qua (e := 30) (sz := 11) (m := 1) (vs := cellsOf [t1]) A M 4 rfl rfl rfl rfl (zh rfl (by kernel_rfl)) rfl rfl (by decide) ?_
     intro g5 w29 M hg5 hb30
     replace hzr := Dt.keep hb30 _ hzr
     refine ⟨(M.sub (cn (cn (cc (cn (cn (List.nil_sublist _))))))), ?_⟩
     intro a A
     refine zv (by kernel_rfl) (qbg A 5 rfl rfl rfl rfl (zi M LiN_isS_30 rfl 1 rfl (cs := (z.d.cells z.ts.length)) rfl rfl) (M.sub (cn (cn (cc (cn (cn (List.nil_sublist _))))))) ?_)
     intro a A
     have hs31 := hb30.size
     refine zv (by kernel_rfl) (jy A 6 rfl rfl rfl rfl (zu rfl rfl (fun w => by kernel_rfl)) (yh (ts := [t1]) (vj (M.has 0 rfl)).1 (fun t ht => by rw [List.mem_singleton.1 ht]; exact Dt.keep M.bel _ rt1_) hzr (by simp) (fun b => b ≠ g17 ∧ b ≠ g4) (fun b hb => ⟨by omega, by omega⟩) (fun t ht => by rw [List.mem_singleton.1 ht]; exact Dt.at_mono (fun b hb => by constructor <;> omega) _ (Dt.at_lt _ rt1_)) hza) ?_)
     rintro _ w32 ⟨t3, rfl, ⟨hrt3, hat3, htt3⟩, hbl3⟩
     replace M := M.call hbl3
     refine ⟨_, rfl, (M.sub (cn (cn (cc (cn (cn (List.nil_sublist _))))))), ?_⟩
     intro a A
     refine zv (by kernel_rfl) (ye (us := (t3.d.cells t3.ts.length)) (L' := (.row 30 11 (.slice (some ⟨g5, 0, none⟩) 1 1) 1 (cellsOf [t1]) :: .obj g17 (.cells (t3.d.cells t3.ts.length).toArray 30) :: .row 30 11 (.slice so7 ys.length ca7) ys.length (cellsOf ys) :: .obj g4 (.cells (qe.d.cells qe.ts.length).toArray 30) :: .obj g2 (.cells (t.d.cells t.ts.length).toArray 30) :: [])) A M 7 rfl rfl rfl (qk rfl rfl rfl (by kernel_rfl) M 1 rfl rfl rfl) 1 rfl rfl rfl ?_)
     intro w33 M hK34
     replace hrt3 := Dt.kept hK34 _ hrt3 (Dt.at_mono (fun b hb => hb.1) _ hat3)
     refine ⟨(M.sub (cn (cn (cc (cn (cn (List.nil_sublist _))))))), ?_⟩
     refine jo (by kernel_rfl) ?_
     refine hK28 _ _ (wrl (sdm A λa A↦?_))
     refine sdo (v := .int .i64 (((i + 1 : Nat) : Int))) A (qg rfl rfl (ar_add ((in_i64 (by omega) (by omega)).trans (by omega)))) λa A↦?_
     refine sda A λa A↦?_
     refine qa ?_
     replace M : Mg w w33 (.obj g17 (.cells (t3.d.cells t3.ts.length).toArray 30) :: .row 30 11 (.slice so7 ys.length ca7) ys.length (cellsOf ys) :: .obj g4 (.cells (qe.d.cells qe.ts.length).toArray 30) :: .obj g2 (.cells (t.d.cells t.ts.length).toArray 30) :: []) := by
      have h9 := M.sub (cn (cc (cc (cc (cc (.refl _))))))
      exact h9
     refine hK23 _ _ _ (by omega) ⟨i + 1, t3, rfl, ⟨by omega, hrt3, hat3, by rw [htt3, hzt, uw it1, List.reverse_append]; rfl⟩, A.keep _ (by repeat' constructor), M⟩
    ·
     refine qbg A 5 rfl rfl rfl rfl (zi M LiN_isS_30 rfl 0 rfl (cs := (z.d.cells z.ts.length)) rfl rfl) (M.sub (cn (cc (cn (cn (List.nil_sublist _)))))) λa A↦?_
     replace hzr : z.rd w22.drew := Dt.keep (Below.refl _ w22).drew _ hzr
     have hdw : w22.drew.heap.size = w22.heap.size := rfl
     refine zv (by kernel_rfl) (qua (e := 30) (sz := 11) (m := 1) (vs := cellsOf [t1]) A M 4 rfl rfl rfl rfl (zh rfl (by kernel_rfl)) rfl rfl (by decide) ?_)
     intro g5 w35 M hg5 hb36
     replace hzr := Dt.keep hb36 _ hzr
     refine ⟨(M.sub (cn (cn (cc (cn (cn (List.nil_sublist _))))))), ?_⟩
     intro a A
     have hs37 := hb36.size
     refine zv (by kernel_rfl) (jy A 6 rfl rfl rfl rfl (zu rfl rfl (fun w => by kernel_rfl)) (yh (ts := [t1]) (vj (M.has 0 rfl)).1 (fun t ht => by rw [List.mem_singleton.1 ht]; exact Dt.keep M.bel _ rt1_) hzr (by simp) (fun b => b ≠ g17 ∧ b ≠ g4) (fun b hb => ⟨by omega, by omega⟩) (fun t ht => by rw [List.mem_singleton.1 ht]; exact Dt.at_mono (fun b hb => by constructor <;> omega) _ (Dt.at_lt _ rt1_)) hza) ?_)
     rintro _ w38 ⟨t3, rfl, ⟨hrt3, hat3, htt3⟩, hbl3⟩
     replace M := M.call hbl3
     refine ⟨_, rfl, (M.sub (cn (cn (cc (cn (cn (List.nil_sublist _))))))), ?_⟩
     intro a A
     refine zv (by kernel_rfl) (ye (us := (t3.d.cells t3.ts.length)) (L' := (.row 30 11 (.slice (some ⟨g5, 0, none⟩) 1 1) 1 (cellsOf [t1]) :: .obj g17 (.cells (t3.d.cells t3.ts.length).toArray 30) :: .row 30 11 (.slice so7 ys.length ca7) ys.length (cellsOf ys) :: .obj g4 (.cells (qe.d.cells qe.ts.length).toArray 30) :: .obj g2 (.cells (t.d.cells t.ts.length).toArray 30) :: [])) A M 7 rfl rfl rfl (qk rfl rfl rfl (by kernel_rfl) M 1 rfl rfl rfl) 1 rfl rfl rfl ?_)
     intro w39 M hK40
     replace hrt3 := Dt.kept hK40 _ hrt3 (Dt.at_mono (fun b hb => hb.1) _ hat3)
     refine ⟨(M.sub (cn (cn (cc (cn (cn (List.nil_sublist _))))))), ?_⟩
     refine jo (by kernel_rfl) ?_
     refine hK28 _ _ (wrl (sdm A λa A↦?_))
     refine sdo (v := .int .i64 (((i + 1 : Nat) : Int))) A (qg rfl rfl (ar_add ((in_i64 (by omega) (by omega)).trans (by omega)))) λa A↦?_
     refine sda A λa A↦?_
     refine qa ?_
     replace M : Mg w w39 (.obj g17 (.cells (t3.d.cells t3.ts.length).toArray 30) :: .row 30 11 (.slice so7 ys.length ca7) ys.length (cellsOf ys) :: .obj g4 (.cells (qe.d.cells qe.ts.length).toArray 30) :: .obj g2 (.cells (t.d.cells t.ts.length).toArray 30) :: []) := by
      have h9 := M.sub (cn (cc (cc (cc (cc (.refl _))))))
      exact h9
     refine hK23 _ _ _ (by omega) ⟨i + 1, t3, rfl, ⟨by omega, hrt3, hat3, by rw [htt3, hzt, uw it1, List.reverse_append]; rfl⟩, A.keep _ (by repeat' constructor), M⟩
   ·
    have hb27' := of_decide_eq_false hb27
    refine sdc A zf hb27 λa A↦?_
    refine qa (hK26 _ _ (wp_cond_false (A.ev rfl) ?_))
    refine wp_exit (hK20 _ _ (wsk fun K41 hK41 => wrl (sdo A (zi M LiN_isS_30 rfl 0 rfl (cs := (z.d.cells z.ts.length)) rfl rfl) λa A↦?_)))
    refine ji (us := (z.d.cells z.ts.length)) (L' := (.obj g17 (.cells (z.d.cells z.ts.length).toArray 30) :: .row 30 11 (.slice so7 ys.length ca7) ys.length (cellsOf ys) :: .obj g4 (.cells (z.d.cells z.ts.length).toArray 30) :: .obj g2 (.cells (t.d.cells t.ts.length).toArray 30) :: [])) A M rfl rfl (qk rfl rfl rfl (by kernel_rfl) M 2 rfl rfl rfl) 2 rfl rfl rfl ?_
    intro w42 M hK43
    replace hzr := Dt.kept hK43 _ hzr (Dt.at_mono (fun b hb => hb.2) _ hza)
    refine sda A λa A↦?_
    refine qa (hK41 _ _ (wp_ret (hret _ _ (en2 A rfl (qw M LiN_isS_30 rfl 2 rfl (cs := [.int .i64 z.d.k, .int .i64 z.d.n, .bool z.d.y.q.b1, .slice z.d.y.o1 z.d.y.q.t1.length z.d.y.c1, .slice z.d.y.o2 z.d.y.q.q1.length z.d.y.c2, .bool z.d.y.q.b2, .slice z.d.y.o3 z.d.y.q.t2.length z.d.y.c3, .slice z.d.y.o4 z.d.y.q.q2.length z.d.y.c4, .string z.d.s, .slice z.d.ro z.d.rl.length z.d.rc, .slice z.d.lo z.ts.length z.d.lc]) rfl rfl) (qf rfl) ?_))))
    exact ⟨z, 0, rfl, ⟨hzr, by unfold qib; rw [if_neg (by rw [hb7]; decide), hy1, hzt, List.take_of_length_le (show ys.length ≤ i by omega)]⟩, M.bel⟩
  ·
   refine gcl A M (ef rfl rfl) (uj M.bel ht (by omega) hb7 hb9) fun w45 hb44 M a A => ?_
   refine sdm A λa A↦?_
   iterate 2 refine sdo A (qn (vs := [.slice none 0 0, .int .i64 10]) rfl rfl) λa A↦?_
   iterate 2 refine sda A λa A↦?_
   refine qa (hK6 _ _ (wsk fun K46 hK46 => wsk fun K47 hK47 => wrl (sdm A λa A↦?_)))
   refine sdo (v := .bool true) A (qg rfl rfl (fun w => by kernel_rfl)) λa A↦?_
   refine qa (hK47 _ _ (wp_cond_true (A.ev rfl) ?_))
   refine wsk fun K48 hK48 => wrl (sdo (v := .agg (qe.d.cells qe.ts.length).toArray) A (za rfl (fun w => by kernel_rfl)) λa A↦?_)
   refine sdm A λa A↦?_
   refine qx (us := (qe.d.cells qe.ts.length)) (L' := (.obj g4 (.cells (qe.d.cells qe.ts.length).toArray 30) :: .obj g2 (.cells (t.d.cells t.ts.length).toArray 30) :: [])) A M rfl rfl (qk rfl rfl rfl (by kernel_rfl) M 0 rfl rfl rfl) 0 rfl rfl rfl ?_
   intro w49 M
   refine sda A λa A↦?_
   refine qa (hK48 _ _ (wp_ret (hret _ _ (en2 A rfl (qw M LiN_isS_30 rfl 0 rfl (cs := [.int .i64 0, .int .i64 0, .bool false, .slice none 0 0, .slice none 0 0, .bool false, .slice none 0 0, .slice none 0 0, .string (⟨#[]⟩), .slice none 0 0, .slice none 0 0]) rfl rfl) (qf rfl) ?_))))
   exact ⟨qe, 10, rfl, ⟨jc _, by unfold qib; rw [if_neg (by rw [hb7]; decide), yt hb9, jb]⟩, M.bel⟩
 ·
  refine gcl A M (ef rfl rfl) (qjd M.bel ht (by omega) hb7) fun w51 hb50 M a A => ?_
  refine sdm A λa A↦?_
  iterate 2 refine sdo A (qn (vs := [.slice none 0 0, .int .i64 2]) rfl rfl) λa A↦?_
  iterate 2 refine sda A λa A↦?_
  refine qa (hK6 _ _ (wsk fun K52 hK52 => wsk fun K53 hK53 => wrl (sdm A λa A↦?_)))
  refine sdo (v := .bool true) A (qg rfl rfl (fun w => by kernel_rfl)) λa A↦?_
  refine qa (hK53 _ _ (wp_cond_true (A.ev rfl) ?_))
  refine wsk fun K54 hK54 => wrl (sdo (v := .agg (qe.d.cells qe.ts.length).toArray) A (za rfl (fun w => by kernel_rfl)) λa A↦?_)
  refine sdm A λa A↦?_
  refine qx (us := (qe.d.cells qe.ts.length)) (L' := (.obj g4 (.cells (qe.d.cells qe.ts.length).toArray 30) :: .obj g2 (.cells (t.d.cells t.ts.length).toArray 30) :: [])) A M rfl rfl (qk rfl rfl rfl (by kernel_rfl) M 0 rfl rfl rfl) 0 rfl rfl rfl ?_
  intro w55 M
  refine sda A λa A↦?_
  refine qa (hK54 _ _ (wp_ret (hret _ _ (en2 A rfl (qw M LiN_isS_30 rfl 0 rfl (cs := [.int .i64 0, .int .i64 0, .bool false, .slice none 0 0, .slice none 0 0, .bool false, .slice none 0 0, .slice none 0 0, .string (⟨#[]⟩), .slice none 0 0, .slice none 0 0]) rfl rfl) (qf rfl) ?_))))
  exact ⟨qe, 2, rfl, ⟨jc _, by unfold qib; rw [if_pos hb7, jb]⟩, M.bel⟩
theorem zih {ts : List Dt} {t : Dt} (h : t ∈ ts) (hs : qr qi t.tr = false) : (ts.all fun t => qr qi t.tr) = false := by
 apply Bool.eq_false_iff.2
 intro k
 rw [List.all_eq_true.1 k t h] at hs
 cases hs
theorem zee {ts : List Dt} {i : Nat} {t : Dt} (h : ((ts.take i).all fun t => qr qi t.tr) = true) (hi : ts[i]? = some t) (hs : qr qi t.tr = true) : ((ts.take (i + 1)).all fun t => qr qi t.tr) = true := by
 obtain ⟨hl, rfl⟩ := List.getElem?_eq_some_iff.1 hi
 rw [List.take_succ_eq_append_getElem hl, List.all_append, h, List.all_cons, hs]
 rfl
theorem zef {ts : List Dt} {i : Nat} {t : Dt} {xs : List Tr} (h : jh ((ts.take i).map Dt.tr) = some xs) (hi : ts[i]? = some t) (ht : zq t.tr = none) (hlt : i < ts.length - 1) : jh ((ts.take (ts.length - 1)).map Dt.tr) = none := by
 refine qle (ts := ts.take (ts.length - 1)) (i := i) (xs := xs) ?_ ?_ ht
 ·
  rw [List.take_take, Nat.min_eq_left (by omega)]; exact h
 ·
  rw [List.getElem?_take, if_pos hlt]; exact hi
theorem qsj {w : World} {so : Option Addr} {ca : Nat} {ts : List Dt} (hR : Rt w so ts) (hD : ∀ t ∈ ts, t.rd w) (hb : Tr.bulks (ts.map Dt.tr) ≤ 1100000) : Calls Tryz.prog 10 #[.slice so ts.length ca] w fun e w' => ∃ (t2 : Dt) (k : Int), e = .returned (.tuple #[.agg (t2.d.cells t2.ts.length).toArray, .int .i64 k]) ∧ (t2.rd w' ∧ (t2.tr, k) = qia (ts.map Dt.tr)) ∧ Below w.heap.size w w' := by
 have hbl := jn ts
 have M : Mg w w ([]) := Mg.start w
 refine qp (l := [(0, .slice so ts.length ca)]) Tryz.func10 rfl Tryz.ntmps10 rfl rfl ?_
 intro Q hret hnorm hP a A
 refine wsk fun K1 hK1 => wrl (zr (vs := (qe.d.cells qe.ts.length)) (t := 30) A M rfl rfl rfl pg (qt (z := .agg (qe.d.cells qe.ts.length).toArray) (by kernel_rfl) rfl) (by decide) ?_)
 intro g2 w3 M a A
 refine sda A λa A↦?_
 refine qa (hK1 _ _ (wsk fun K4 hK4 => wsk fun K5 hK5 => wrl (sda A λa A↦?_)))
 refine qa (hK5 _ _ (wp_block (zx (fun m_ a w1 => ∃ (i : Nat), m_ = 1 + (ts.length - i) ∧ (i ≤ ts.length ∧ ((ts.take i).all fun t => qr qi t.tr) = true) ∧ Sl a 60 [(0, .slice so ts.length ca), (2, .pointer (some ⟨g2, 0, none⟩)), (4, .int .i64 (((i : Nat) : Int)))] ∧ Mg w w1 (.obj g2 (.cells (qe.d.cells qe.ts.length).toArray 30) :: [])) _ ⟨0, rfl, ⟨Nat.zero_le _, rfl⟩, A.keep _ ⟨rfl, rfl, rfl, trivial⟩, M⟩ ?_)))
 clear M A
 rintro m_ a w6 ⟨i, rfl, hinv8, A, M⟩ K7 hK7
 obtain ⟨hi0, hin8⟩ := hinv8
 refine wsk fun K9 hK9 => wsk fun K10 hK10 => wrl ?_
 iterate 2 refine sdm A λa A↦?_
 refine sdo A (qs Tryz.underlying22 rfl) λa A↦?_
 rcases tf (decide (((i : Nat) : Int) < ((ts.length : Nat) : Int))) with hb11 | hb11
 ·
  have hb11' := of_decide_eq_true hb11
  refine sdc A zf hb11 λa A↦?_
  refine qa (hK10 _ _ (wp_cond_true (A.ev rfl) ?_))
  refine wp_skip (hK9 _ _ (wsk fun K12 hK12 => wp_block (wsk fun K13 hK13 => ?_)))
  obtain ⟨t1, bt1, ot1, it1, mt1, rt1_, lt1, Ht1⟩ := qjh hR hD (i := i) (by omega)
  refine wrl ?_
  iterate 2 refine sdm A λa A↦?_
  refine sdo (v := .pointer (some ⟨bt1, ot1 + i * 11, none⟩)) A (zj (k := i) Tryz.underlying22 (by kernel_rfl) rfl rfl rfl lt1 (by omega)) λa A↦?_
  refine sdo A (zp M Ht1 LiN_isS_30 rfl rfl) λa A↦?_
  rcases tf (qr qi t1.tr) with hb14 | hb14
  ·
   refine gcl A M (ef rfl rfl) ((hb14 ▸ rsound_any (t := t1) (Dt.keep M.bel _ rt1_) (by have := ke mt1; omega))) fun w16 hb15 M a A => ?_
   refine sdo (v := .bool false) A (qz rfl zk) λa A↦?_
   refine qa (hK13 _ _ (wp_cond_false (A.ev rfl) ?_))
   refine wp_skip (hK12 _ _ (wrl (sdm A λa A↦?_)))
   refine sdo (v := .int .i64 (((i + 1 : Nat) : Int))) A (qg rfl rfl (ar_add ((in_i64 (by omega) (by omega)).trans (by omega)))) λa A↦?_
   refine sda A λa A↦?_
   refine qa ?_
   refine hK7 _ _ _ (by omega) ⟨i + 1, rfl, ⟨by omega, zee hin8 it1 hb14⟩, A.keep _ ⟨rfl, rfl, rfl, trivial⟩, M⟩
  ·
   refine gcl A M (ef rfl rfl) ((hb14 ▸ rsound_any (t := t1) (Dt.keep M.bel _ rt1_) (by have := ke mt1; omega))) fun w18 hb17 M a A => ?_
   refine sdo (v := .bool true) A (qz rfl zk) λa A↦?_
   refine qa (hK13 _ _ (wp_cond_true (A.ev rfl) ?_))
   refine wsk fun K19 hK19 => wrl (sdo (v := .agg (qe.d.cells qe.ts.length).toArray) A (za rfl (fun w => by kernel_rfl)) λa A↦?_)
   refine qx (us := (qe.d.cells qe.ts.length)) (L' := (.obj g2 (.cells (qe.d.cells qe.ts.length).toArray 30) :: [])) A M rfl rfl (qk rfl rfl rfl (by kernel_rfl) M 0 rfl rfl rfl) 0 rfl rfl rfl ?_
   intro w20 M
   refine sda A λa A↦?_
   refine qa (hK19 _ _ (wp_ret (hret _ _ (en2 A rfl (qw M LiN_isS_30 rfl 0 rfl (cs := [.int .i64 0, .int .i64 0, .bool false, .slice none 0 0, .slice none 0 0, .bool false, .slice none 0 0, .slice none 0 0, .string (⟨#[]⟩), .slice none 0 0, .slice none 0 0]) rfl rfl) (qf rfl) ?_))))
   exact ⟨qe, 2, rfl, ⟨jc _, by rw [qri (zih mt1 hb14), jb]⟩, M.bel⟩
 ·
  have hb11' := of_decide_eq_false hb11
  refine sdc A zf hb11 λa A↦?_
  refine qa (hK10 _ _ (wp_cond_false (A.ev rfl) ?_))
  refine wp_exit (hK4 _ _ (wsk fun K21 hK21 => wsk fun K22 hK22 => wrl (sdm A λa A↦?_)))
  refine sdo A (qs Tryz.underlying22 rfl) λa A↦?_
  rcases tf ((((ts.length : Nat) : Int) == 0)) with hb23 | hb23
  ·
   have hb23' := eq_of_beq hb23
   refine sdc A qj hb23 λa A↦?_
   refine qa (hK22 _ _ (wp_cond_true (A.ev rfl) ?_))
   refine wsk fun K24 hK24 => wrl (sct A (ef rfl rfl) (qci) ?_)
   rintro _ w26 ⟨rfl, hb25⟩
   replace M := M.call hb25
   refine ⟨_, rfl, ?_⟩
   intro a A
   refine qx (us := (zw.d.cells zw.ts.length)) (L' := (.obj g2 (.cells (zw.d.cells zw.ts.length).toArray 30) :: [])) A M rfl rfl (qk rfl rfl rfl (by kernel_rfl) M 0 rfl rfl rfl) 0 rfl rfl rfl ?_
   intro w27 M
   refine sda A λa A↦?_
   refine qa (hK24 _ _ (wp_ret (hret _ _ (en2 A rfl (qw M LiN_isS_30 rfl 0 rfl (cs := [.int .i64 zw.d.k, .int .i64 zw.d.n, .bool zw.d.y.q.b1, .slice zw.d.y.o1 zw.d.y.q.t1.length zw.d.y.c1, .slice zw.d.y.o2 zw.d.y.q.q1.length zw.d.y.c2, .bool zw.d.y.q.b2, .slice zw.d.y.o3 zw.d.y.q.t2.length zw.d.y.c3, .slice zw.d.y.o4 zw.d.y.q.q2.length zw.d.y.c4, .string zw.d.s, .slice zw.d.ro zw.d.rl.length zw.d.rc, .slice zw.d.lo zw.ts.length zw.d.lc]) rfl rfl) (qf rfl) ?_))))
   have e9 : ts = [] := List.length_eq_zero_iff.1 (by omega)
   exact ⟨zw, 0, rfl, ⟨yn _, by rw [e9]; exact (Prod.ext xw rfl : (zw.tr, (0 : Int)) = (nilT, 0)).trans qrj.symm⟩, M.bel⟩
  ·
   have hb23' := ne_of_beq_false hb23
   refine sdc A qj hb23 λa A↦?_
   refine qa (hK22 _ _ (wp_cond_false (A.ev rfl) ?_))
   refine wp_skip (hK21 _ _ (wsk fun K28 hK28 => wrl (kv (e := 30) (sz := 11) (m := 0) (vs := cellsOf []) A M rfl rfl rfl (zh rfl (by kernel_rfl)) rfl rfl (.inl (by decide)) ?_)))
   intro g29 w30 M a A
   refine sda A λa A↦?_
   refine qa (hK28 _ _ (wsk fun K31 hK31 => wsk fun K32 hK32 => wrl (sda A λa A↦?_)))
   refine qa (hK32 _ _ (wp_block ?_))
   have hall : (ts.all fun t => qr qi t.tr) = true := by rw [List.take_of_length_le (show ts.length ≤ i by omega)] at hin8; exact hin8
   refine zx (fun m_ a w1 => ∃ (j : Nat) (xs : List Dt) (so_ : Option Addr) (ca_ : Nat), m_ = 1 + (ts.length - j) ∧ (j ≤ ts.length - 1 ∧ (∀ x ∈ xs, x.rd w) ∧ Tr.bulks (xs.map Dt.tr) ≤ Tr.bulks ((ts.take j).map Dt.tr) ∧ jh ((ts.take j).map Dt.tr) = some (xs.map Dt.tr)) ∧ Sl a 60 [(0, .slice so ts.length ca), (2, .pointer (some ⟨g2, 0, none⟩)), (4, .int .i64 (((i : Nat) : Int))), (5, .slice so_ xs.length ca_), (6, .int .i64 (((j : Nat) : Int))), (9, .int .i64 (((i : Nat) : Int))), (10, .slice so ts.length ca), (11, .int .i64 (((ts.length : Nat) : Int))), (12, .bool false), (22, .slice so ts.length ca), (23, .int .i64 (((ts.length : Nat) : Int))), (24, .bool false), (26, .slice (some ⟨g29, 0, none⟩) 0 0)] ∧ Mg w w1 (.row 30 11 (.slice so_ xs.length ca_) xs.length (cellsOf xs) :: .obj g2 (.cells (qe.d.cells qe.ts.length).toArray 30) :: [])) _ ⟨0, [], some ⟨g29, 0, none⟩, 0, rfl, ⟨Nat.zero_le _, (fun x h => by cases h), Nat.zero_le _, rfl⟩, A.keep _ (by repeat' constructor), M⟩ ?_
   clear M A
   rintro m_ a w33 ⟨j, xs, so_, ca_, rfl, hinv35, A, M⟩ K34 hK34
   obtain ⟨hi0, hxs, hbx, hJ⟩ := hinv35
   have hxl := jn xs
   refine wsk fun K36 hK36 => wsk fun K37 hK37 => wrl ?_
   iterate 2 refine sdm A λa A↦?_
   refine sdo A (qs Tryz.underlying22 rfl) λa A↦?_
   refine sdo (v := .int .i64 (((ts.length - 1 : Nat) : Int))) A (qg rfl rfl (ar_sub ((in_i64 (by omega) (by omega)).trans (by omega)))) λa A↦?_
   rcases tf (decide (((j : Nat) : Int) < ((ts.length - 1 : Nat) : Int))) with hb38 | hb38
   ·
    have hb38' := of_decide_eq_true hb38
    refine sdc A zf hb38 λa A↦?_
    refine qa (hK37 _ _ (wp_cond_true (A.ev rfl) ?_))
    refine wp_skip (hK36 _ _ (wsk fun K39 hK39 => wp_block (wsk fun K40 hK40 => ?_)))
    obtain ⟨t1, bt1, ot1, it1, mt1, rt1_, lt1, Ht1⟩ := qjh hR hD (i := j) (by omega)
    have hbt := qai it1
    have hbp := qaj (ts := ts) (j + 1)
    have hs1 := qpa hall t1 mt1
    refine wrl ?_
    iterate 2 refine sdm A λa A↦?_
    refine sdo (v := .pointer (some ⟨bt1, ot1 + j * 11, none⟩)) A (zj (k := j) Tryz.underlying22 (by kernel_rfl) rfl rfl rfl lt1 (by omega)) λa A↦?_
    refine sdo A (zp M Ht1 LiN_isS_30 rfl rfl) λa A↦?_
    rcases tf ((zq t1.tr).isSome) with hb41 | hb41
    ·
     refine sct A (ef rfl rfl) (ui M.bel rt1_ (by have := ke mt1; omega) hs1 hb41) ?_
     rintro _ w43 ⟨so7, ca7, ys, rfl, ⟨hy1, hy2, hy3⟩, hM7⟩
     have hyb := jl hy1
     replace M : Mg w w43 (.row 30 11 (.slice so7 ys.length ca7) ys.length (cellsOf ys) :: .row 30 11 (.slice so_ xs.length ca_) xs.length (cellsOf xs) :: .obj g2 (.cells (qe.d.cells qe.ts.length).toArray 30) :: []) := (M.both hM7 (zb (by simp) (zb (by simp) (qy ze))) (zb (by simp) (qy ze)))
     refine ⟨_, rfl, ?_⟩
     intro a A
     refine sdm A λa A↦?_
     iterate 2 refine sdo A (qn (vs := [.slice so7 ys.length ca7, .int .i64 0]) rfl rfl) λa A↦?_
     iterate 2 refine sda A λa A↦?_
     refine qa (hK40 _ _ (wsk fun K44 hK44 => wsk fun K45 hK45 => wrl (sdm A λa A↦?_)))
     refine sdo (v := .bool false) A (qg rfl rfl (fun w => by kernel_rfl)) λa A↦?_
     refine qa (hK45 _ _ (wp_cond_false (A.ev rfl) ?_))
     refine wp_skip (hK44 _ _ (wrl ?_))
     iterate 2 refine sdm A λa A↦?_
     refine xm (e := 30) (sz := 11) (k := 1) (q := xs.length) (m := ys.length) (xs := cellsOf xs) (news := cellsOf ys) (L' := fun v46 => (.row 30 11 (.slice so7 ys.length ca7) ys.length (cellsOf ys) :: .row 30 11 (v46) (xs.length + ys.length) (cellsOf xs ++ cellsOf ys) :: .obj g2 (.cells (qe.d.cells qe.ts.length).toArray 30) :: [])) A rfl rfl rfl (qaf (z := .agg #[.int .i64 0, .int .i64 0, .bool false, .slice none 0 0, .slice none 0 0, .bool false, .slice none 0 0, .slice none 0 0, .string ⟨#[]⟩, .slice none 0 0, .slice none 0 0]) (sz := 11) (by_ := 192) Tryz.underlying22 (by kernel_rfl) rfl rfl rfl M 1 rfl rfl rfl (xg ys) (qgh (M.has 0 rfl)) (vk ys) (by omega)) (fun _ => rfl) ?_
     intro v46 w47 M a A
     replace M : Mg w w47 (.row 30 11 (.slice so7 ys.length ca7) ys.length (cellsOf ys) :: .row 30 11 (v46) ((xs ++ ys).length) (cellsOf (xs ++ ys)) :: .obj g2 (.cells (qe.d.cells qe.ts.length).toArray 30) :: []) := by
      rw [jv, List.length_append]; exact M
     obtain ⟨so48, ca49, rfl⟩ := kk (M.has 1 rfl)
     refine sda A λa A↦?_
     refine qa (hK39 _ _ (wrl (sdm A λa A↦?_)))
     refine sdo (v := .int .i64 (((j + 1 : Nat) : Int))) A (qg rfl rfl (ar_add ((in_i64 (by omega) (by omega)).trans (by omega)))) λa A↦?_
     refine sda A λa A↦?_
     refine qa ?_
     replace M : Mg w w47 (.row 30 11 (.slice so48 ((xs ++ ys).length) ca49) ((xs ++ ys).length) (cellsOf (xs ++ ys)) :: .obj g2 (.cells (qe.d.cells qe.ts.length).toArray 30) :: []) := by
      have h9 := M.sub (cn (cc (cc (.refl _))))
      exact h9
     refine hK34 _ _ _ (by omega) ⟨j + 1, xs ++ ys, so48, ca49, rfl, ⟨by omega, (fun x hx => (List.mem_append.1 hx).elim (hxs x) (hy2 x)), by rw [List.map_append, jr]; omega, by rw [uw it1, List.map_append]; exact qah hJ hy1⟩, A.keep _ (by repeat' constructor), M⟩
    ·
     refine gcl A M (ef rfl rfl) (uj M.bel rt1_ (by have := ke mt1; omega) hs1 hb41) fun w51 hb50 M a A => ?_
     refine sdm A λa A↦?_
     iterate 2 refine sdo A (qn (vs := [.slice none 0 0, .int .i64 10]) rfl rfl) λa A↦?_
     iterate 2 refine sda A λa A↦?_
     refine qa (hK40 _ _ (wsk fun K52 hK52 => wsk fun K53 hK53 => wrl (sdm A λa A↦?_)))
     refine sdo (v := .bool true) A (qg rfl rfl (fun w => by kernel_rfl)) λa A↦?_
     refine qa (hK53 _ _ (wp_cond_true (A.ev rfl) ?_))
     refine wsk fun K54 hK54 => wrl (sdo (v := .agg (qe.d.cells qe.ts.length).toArray) A (za rfl (fun w => by kernel_rfl)) λa A↦?_)
     refine sdm A λa A↦?_
     refine qx (us := (qe.d.cells qe.ts.length)) (L' := (.row 30 11 (.slice so_ xs.length ca_) xs.length (cellsOf xs) :: .obj g2 (.cells (qe.d.cells qe.ts.length).toArray 30) :: [])) A M rfl rfl (qk rfl rfl rfl (by kernel_rfl) M 1 rfl rfl rfl) 1 rfl rfl rfl ?_
     intro w55 M
     refine sda A λa A↦?_
     refine qa (hK54 _ _ (wp_ret (hret _ _ (en2 A rfl (qw M LiN_isS_30 rfl 1 rfl (cs := [.int .i64 0, .int .i64 0, .bool false, .slice none 0 0, .slice none 0 0, .bool false, .slice none 0 0, .slice none 0 0, .string (⟨#[]⟩), .slice none 0 0, .slice none 0 0]) rfl rfl) (qf rfl) ?_))))
     exact ⟨qe, 10, rfl, ⟨jc _, by rw [qlh hall (fun e => by rw [e] at hb23'; exact hb23' rfl) (zef hJ it1 (yt hb41) (by omega)), jb]⟩, M.bel⟩
   ·
    have hb38' := of_decide_eq_false hb38
    refine sdc A zf hb38 λa A↦?_
    refine qa (hK37 _ _ (wp_cond_false (A.ev rfl) ?_))
    refine wp_exit (hK31 _ _ (wsk fun K56 hK56 => ?_))
    obtain ⟨t9, bt9, ot9, it9, mt9, rt9_, lt9, Ht9⟩ := qjh hR hD (i := (ts.length - 1)) (by omega)
    obtain rfl : j = ts.length - 1 := by omega
    have hjb := qmg hJ
    have hgb : Tr.bulks ((ts.take (ts.length - 1)).map Dt.tr) + t9.tr.bulk = Tr.bulks (ts.map Dt.tr) := by
     have h7 := qai it9
     rw [show ts.length - 1 + 1 = ts.length by omega, List.take_length] at h7
     omega
    refine wrl ?_
    iterate 3 refine sdm A λa A↦?_
    refine sdo A (qs Tryz.underlying22 rfl) λa A↦?_
    refine sdo (v := .int .i64 (((ts.length - 1 : Nat) : Int))) A (qg rfl rfl (ar_sub ((in_i64 (by omega) (by omega)).trans (by omega)))) λa A↦?_
    refine sdo (v := .pointer (some ⟨bt9, ot9 + (ts.length - 1) * 11, none⟩)) A (zj (k := (ts.length - 1)) Tryz.underlying22 (by kernel_rfl) rfl rfl rfl lt9 (by omega)) λa A↦?_
    refine sdo A (zp M Ht9 LiN_isS_30 rfl rfl) λa A↦?_
    obtain ⟨hge57, hlt58⟩ := Ck.lt (M.has 1 rfl) g2 rfl
    refine sct A (ef rfl rfl) (yh (vj (M.has 0 rfl)).1 (fun t ht => Dt.keep M.bel _ (hxs t ht)) (Dt.keep M.bel _ rt9_) (by omega) (fun b => b < w.heap.size ∨ w33.heap.size ≤ b) (fun b hb => .inr hb) (fun t ht => Dt.at_mono (fun b hb => .inl hb) _ (Dt.at_lt _ (hxs t ht))) (Dt.at_mono (fun b hb => .inl hb) _ (Dt.at_lt _ rt9_))) ?_
    rintro _ w60 ⟨t3, rfl, ⟨hrt3, hat3, htt3⟩, hb59⟩
    replace M := M.call hb59
    refine ⟨_, rfl, ?_⟩
    intro a A
    refine sct A (ef rfl rfl) (zed hrt3 (by rw [htt3, vf, List.length_map]; omega) hat3) ?_
    rintro _ w62 ⟨t2, k2, rfl, ⟨hrt2, hat2, htt2⟩, hb61⟩
    replace M := M.call hb61
    refine ⟨_, rfl, ?_⟩
    intro a A
    iterate 2 refine sdo A (qn (vs := [.agg (t2.d.cells t2.ts.length).toArray, .int .i64 k2]) rfl rfl) λa A↦?_
    refine ji (us := (t2.d.cells t2.ts.length)) (L' := (.row 30 11 (.slice so_ xs.length ca_) xs.length (cellsOf xs) :: .obj g2 (.cells (t2.d.cells t2.ts.length).toArray 30) :: [])) A M rfl rfl (qk rfl rfl rfl (by kernel_rfl) M 1 rfl rfl rfl) 1 rfl rfl rfl ?_
    intro w63 M hK64
    replace hrt2 := Dt.kept hK64 _ hrt2 (Dt.at_mono (fun b hb => by rintro rfl; omega) _ hat2)
    refine sda A λa A↦?_
    refine qa (hK56 _ _ (wp_ret (hret _ _ (en2 A rfl (qw M LiN_isS_30 rfl 1 rfl (cs := [.int .i64 t2.d.k, .int .i64 t2.d.n, .bool t2.d.y.q.b1, .slice t2.d.y.o1 t2.d.y.q.t1.length t2.d.y.c1, .slice t2.d.y.o2 t2.d.y.q.q1.length t2.d.y.c2, .bool t2.d.y.q.b2, .slice t2.d.y.o3 t2.d.y.q.t2.length t2.d.y.c3, .slice t2.d.y.o4 t2.d.y.q.q2.length t2.d.y.c4, .string t2.d.s, .slice t2.d.ro t2.d.rl.length t2.d.rc, .slice t2.d.lo t2.ts.length t2.d.lc]) rfl rfl) (qf rfl) ?_))))
    exact ⟨t2, k2, rfl, ⟨hrt2, by rw [qli hall it9 hJ, htt2, htt3]; rfl⟩, M.bel⟩
theorem LiJ_is1_22 : Is1 Tryz.prog 22 := ⟨⟨_, Tryz.underlying22, rfl⟩, by kernel_rfl⟩
theorem LiJ_is1_3 : Is1 Tryz.prog 3 := ⟨⟨_, Tryz.underlying3, rfl⟩, by kernel_rfl⟩
theorem LiJ_fld_30_0 : FieldAt Tryz.prog 30 0 0 := ⟨_, _, Tryz.underlying30, rfl, rfl, by kernel_rfl⟩
theorem LiJ_fld_30_5 : FieldAt Tryz.prog 30 5 10 := ⟨_, _, Tryz.underlying30, rfl, rfl, by kernel_rfl⟩
theorem LiJ_isS_30 : IsS Tryz.prog 30 11 := ⟨⟨_, Tryz.underlying30⟩, by kernel_rfl⟩
theorem zag {w : World} (hT : Tabs8 w) : Calls Tryz.prog 15 #[] w fun e w' => e = .returned (.bool true) ∧ Below w.heap.size w w' := by
 have M : Mg w w ([]) := Mg.start w
 refine qp (l := []) Tryz.func15 rfl Tryz.ntmps15 rfl rfl ?_
 intro Q hret hnorm hP a A
 refine wsk fun K1 hK1 => wrl (sda A λa A↦?_)
 refine qa (hK1 _ _ (wsk fun K2 hK2 => wrl (sdo (v := .agg #[.int .i64 2, .int .i64 0, .bool false, .slice none 0 0, .slice none 0 0, .bool false, .slice none 0 0, .slice none 0 0, .string (⟨#[]⟩), .slice none 0 0, .slice none 0 0]) A (za rfl (fun w => by kernel_rfl)) λa A↦?_)))
 refine sdo (v := .agg #[.int .i64 10, .int .i64 0, .bool false, .slice none 0 0, .slice none 0 0, .bool false, .slice none 0 0, .slice none 0 0, .string (⟨#[]⟩), .slice none 0 0, .slice none 0 0]) A (za rfl (fun w => by kernel_rfl)) λa A↦?_
 refine kv (e := 30) (sz := 11) (m := 2) (vs := cellsOf [xu 2, xu 10]) A M rfl rfl rfl (zh rfl (by kernel_rfl)) rfl rfl (.inl (by decide)) ?_
 intro g3 w4 M a A
 refine sct A (ef rfl rfl) (of_any (ts := [xu 2, xu 10]) (vj (M.has 0 rfl)).1 (zec _) (by decide) (hT.below M.bel)) ?_
 rintro _ w6 ⟨x, rfl, ⟨hrx, -, htx⟩, hb5⟩
 have hbx := zgj [(xu 2).tr, (xu 10).tr]
 have hbx9 : Tr.bulks [(xu 2).tr, (xu 10).tr] = 2 := by rfl
 replace M := M.call hb5
 refine ⟨_, rfl, ?_⟩
 intro a A
 have hB1 := M.bel
 replace hT := hT.below M.bel
 replace M : Mg w6 w6 [] := Mg.start w6
 refine zr (vs := (qe.d.cells qe.ts.length)) (t := 30) A M rfl rfl rfl pg (qt (z := .agg (qe.d.cells qe.ts.length).toArray) (by kernel_rfl) rfl) (by decide) ?_
 intro g7 w8 M a A
 refine qx (us := (x.d.cells x.ts.length)) (L' := (.obj g7 (.cells (x.d.cells x.ts.length).toArray 30) :: [])) A M rfl rfl (qk rfl rfl rfl (by kernel_rfl) M 0 rfl rfl rfl) 0 rfl rfl rfl ?_
 intro w9 M
 refine qa (hK2 _ _ (wsk fun K10 hK10 => wrl (sdo A (zi M LiJ_isS_30 rfl 0 rfl (cs := (x.d.cells x.ts.length)) rfl rfl) λa A↦?_)))
 refine sct A (ef rfl rfl) (qef (t := x) (Dt.keep M.bel _ hrx) (by have h9 : x.tr.bulk ≤ 6 := (by rw [htx]; show (ofS [(xu 2).tr, (xu 10).tr]).bulk ≤ 6; omega); omega) (hT.below M.bel)) ?_
 rintro _ w12 ⟨r, kr, rfl, ⟨hrr, -, htr⟩, hb11⟩
 replace M := M.call hb11
 refine ⟨_, rfl, ?_⟩
 intro a A
 have hB2 := hB1.trans (M.bel.mono hB1.size)
 replace hT := hT.below M.bel
 replace hrx := Dt.keep M.bel _ hrx
 have hHg7 := M.here 0 (cs := (x.d.cells x.ts.length)) rfl
 replace M : Mg w12 w12 [] := Mg.start w12
 refine sdm A λa A↦?_
 iterate 2 refine sdo A (qn (vs := [.agg (r.d.cells r.ts.length).toArray, .int .i64 kr]) rfl rfl) λa A↦?_
 refine zr (vs := (qe.d.cells qe.ts.length)) (t := 30) A M rfl rfl rfl pg (qt (z := .agg (qe.d.cells qe.ts.length).toArray) (by kernel_rfl) rfl) (by decide) ?_
 intro g13 w14 M a A
 refine qx (us := (r.d.cells r.ts.length)) (L' := (.obj g13 (.cells (r.d.cells r.ts.length).toArray 30) :: [])) A M rfl rfl (qk rfl rfl rfl (by kernel_rfl) M 0 rfl rfl rfl) 0 rfl rfl rfl ?_
 intro w15 M
 refine sda A λa A↦?_
 refine qa (hK10 _ _ (wsk fun K16 hK16 => ?_))
 have e9 : (r.tr, kr) = (zn [(xu 10).tr, (xu 2).tr] nilT, 0) := htr.trans (by rw [htx]; exact zeb)
 obtain ⟨f1, f2, f3⟩ := zad (congrArg Prod.fst e9)
 have f4 : kr = 0 := congrArg Prod.snd e9
 obtain ⟨r0, br0, or0, ir0, mr0, rr0_, lr0, Hr0⟩ := qqc hrr (i := 0) (by omega)
 have f5 : r0.d.k = 10 := by rw [← zia, f3 _ ir0]; rfl
 refine wrl (sdm A λa A↦?_)
 refine sdo (v := .bool true) A (qg rfl rfl (fun w => (qj w).trans (by rw [show ((kr == 0)) = true from (beq_iff_eq.2 f4)]))) λa A↦?_
 refine sdm A λa A↦?_
 refine sdo (v := .pointer (some ⟨g13, 0, none⟩)) A (qb LiJ_fld_30_0 rfl rfl) λa A↦?_
 refine sdo A (ql M LiJ_is1_3 rfl 0 rfl rfl) λa A↦?_
 refine sdo (v := .bool true) A (qg rfl rfl (fun w => (qj w).trans (by rw [show ((r.d.k == 8)) = true from (beq_iff_eq.2 f1)]))) λa A↦?_
 refine sdk (v := .bool true) A λa A↦?_
 refine sdm A λa A↦?_
 refine sdo (v := .pointer (some ⟨g13, 10, none⟩)) A (qb LiJ_fld_30_5 rfl rfl) λa A↦?_
 refine sdo A (ql M LiJ_is1_22 rfl 0 rfl rfl) λa A↦?_
 refine sdo A (qs Tryz.underlying22 rfl) λa A↦?_
 refine sdo (v := .bool true) A (qg rfl rfl (fun w => (qj w).trans (by rw [show ((((r.ts.length : Nat) : Int) == 2)) = true from (beq_iff_eq.2 (by omega))]))) λa A↦?_
 refine sdk (v := .bool true) A λa A↦?_
 refine sdm A λa A↦?_
 refine sdo (v := .pointer (some ⟨g13, 10, none⟩)) A (qb LiJ_fld_30_5 rfl rfl) λa A↦?_
 refine sdo A (ql M LiJ_is1_22 rfl 0 rfl rfl) λa A↦?_
 refine sdo (v := .pointer (some ⟨br0, or0 + 0 * 11, none⟩)) A (zj (k := 0) Tryz.underlying22 (by kernel_rfl) rfl rfl rfl lr0 (by omega)) λa A↦?_
 refine sdo (v := .pointer (some ⟨br0, or0 + 0 * 11, none⟩)) A (qb LiJ_fld_30_0 rfl rfl) λa A↦?_
 refine sdo A (ul (j := 0) M Hr0 LiJ_is1_3 rfl rfl rfl) λa A↦?_
 refine sdo (v := .bool true) A (qg rfl rfl (fun w => (qj w).trans (by rw [show ((r0.d.k == 10)) = true from (beq_iff_eq.2 f5)]))) λa A↦?_
 refine sdk (v := .bool true) A λa A↦?_
 refine sda A λa A↦?_
 refine qa (hK16 _ _ (wp_ret (hret _ _ (en1 A rfl (qf rfl) ?_))))
 exact ⟨rfl, hB2.trans (M.bel.mono hB2.size)⟩
theorem LiO_isS_30 : IsS Tryz.prog 30 11 := ⟨⟨_, Tryz.underlying30⟩, by kernel_rfl⟩
theorem qta {w : World} {sa sb : Option Addr} {ca cb : Nat} {us vs : List Dt} (hRa : Rt w sa us) (hDa : ∀ t ∈ us, t.rd w) (hRb : Rt w sb vs) (hDb : ∀ t ∈ vs, t.rd w) (he : us.map Dt.tr = vs.map Dt.tr) (hl : us.length ≤ 1000000000) : Calls Tryz.prog 19 #[.slice sa us.length ca, .slice sb vs.length cb] w fun e w' => e = .returned (.bool true) ∧ Below w.heap.size w w' := by
 have hel : us.length = vs.length := by have := congrArg List.length he; simpa using this
 have M : Mg w w ([]) := Mg.start w
 refine qp (l := [(0, .slice sa us.length ca), (1, .slice sb vs.length cb)]) Tryz.func19 rfl Tryz.ntmps19 rfl rfl ?_
 intro Q hret hnorm hP a A
 refine wsk fun K1 hK1 => wrl (sda A λa A↦?_)
 refine qa (hK1 _ _ (wsk fun K2 hK2 => wsk fun K3 hK3 => wrl (sdm A λa A↦?_)))
 refine sdo A (qs Tryz.underlying22 rfl) λa A↦?_
 refine sdm A λa A↦?_
 refine sdo A (qs Tryz.underlying22 rfl) λa A↦?_
 refine sdo (v := .bool false) A (qg rfl rfl (fun w => (zt w).trans (by rw [show ((((us.length : Nat) : Int) != ((vs.length : Nat) : Int))) = false from (bne_eq_false_iff_eq.2 (by omega))]))) λa A↦?_
 refine qa (hK3 _ _ (wp_cond_false (A.ev rfl) ?_))
 refine wp_skip (hK2 _ _ (wsk fun K4 hK4 => wsk fun K5 hK5 => wrl (sda A λa A↦?_)))
 refine qa (hK5 _ _ (wp_block (zx (fun m_ a w1 => ∃ (i : Nat), m_ = 1 + (us.length - i) ∧ (i ≤ us.length) ∧ Sl a 27 [(0, .slice sa us.length ca), (1, .slice sb vs.length cb), (5, .int .i64 (((i : Nat) : Int))), (6, .slice sa us.length ca), (7, .int .i64 (((us.length : Nat) : Int))), (8, .slice sb vs.length cb), (9, .int .i64 (((vs.length : Nat) : Int))), (10, .bool false)] ∧ Mg w w1 ([])) _ ⟨0, rfl, Nat.zero_le _, A.keep _ (by repeat' constructor), M⟩ ?_)))
 clear M A
 rintro m_ a w6 ⟨i, rfl, hinv8, A, M⟩ K7 hK7
 have hi0 := hinv8
 refine wsk fun K9 hK9 => wsk fun K10 hK10 => wrl ?_
 iterate 2 refine sdm A λa A↦?_
 refine sdo A (qs Tryz.underlying22 rfl) λa A↦?_
 rcases tf (decide (((i : Nat) : Int) < ((us.length : Nat) : Int))) with hb11 | hb11
 ·
  have hb11' := of_decide_eq_true hb11
  refine sdc A zf hb11 λa A↦?_
  refine qa (hK10 _ _ (wp_cond_true (A.ev rfl) ?_))
  refine wp_skip (hK9 _ _ (wsk fun K12 hK12 => wp_block (wsk fun K13 hK13 => ?_)))
  obtain ⟨t1, bt1, ot1, it1, mt1, rt1_, lt1, Ht1⟩ := qjh hRa hDa (i := i) (by omega)
  obtain ⟨u1, bu1, ou1, iu1, mu1, ru1_, lu1, Hu1⟩ := qjh hRb hDb (i := i) (by omega)
  refine xv (S := fun w1 => Mg w w1 ([])) (by kernel_rfl) ?_
  replace M := M.drew
  refine qm A 0 rfl rfl rfl rfl hP (M.sub (List.nil_sublist _)) (fun w1 M => zd rfl) λa A↦?_
  refine qm A 1 rfl rfl rfl rfl hP (M.sub (List.nil_sublist _)) (fun w1 M => zd rfl) λa A↦?_
  refine qm (v := .pointer (some ⟨bt1, ot1 + i * 11, none⟩)) A 2 rfl rfl rfl rfl hP (M.sub (List.nil_sublist _)) (fun w1 M => zj (k := i) Tryz.underlying22 (by kernel_rfl) rfl rfl rfl lt1 (by omega)) λa A↦?_
  refine qm A 3 rfl rfl rfl rfl hP (M.sub (List.nil_sublist _)) (fun w1 M => zp M Ht1 LiO_isS_30 rfl rfl) λa A↦?_
  refine qm A 4 rfl rfl rfl rfl hP (M.sub (List.nil_sublist _)) (fun w1 M => zd rfl) λa A↦?_
  refine qm A 5 rfl rfl rfl rfl hP (M.sub (List.nil_sublist _)) (fun w1 M => zd rfl) λa A↦?_
  refine qm (v := .pointer (some ⟨bu1, ou1 + i * 11, none⟩)) A 6 rfl rfl rfl rfl hP (M.sub (List.nil_sublist _)) (fun w1 M => zj (k := i) Tryz.underlying22 (by kernel_rfl) rfl rfl rfl lu1 (by omega)) λa A↦?_
  refine qm A 7 rfl rfl rfl rfl hP (M.sub (List.nil_sublist _)) (fun w1 M => zp M Hu1 LiO_isS_30 rfl rfl) λa A↦?_
  refine zv (by kernel_rfl) (jy A 8 rfl rfl rfl rfl (zu rfl rfl (fun w => by kernel_rfl)) ((((uh t1.tr u1.tr).2 (zjf he it1 iu1)) ▸ vt (t1.tr.bulk + 1) (t := t1) (u := u1) (Nat.lt_succ_self _) (Dt.keep M.bel _ rt1_) (Dt.keep M.bel _ ru1_))) ?_)
  rintro _ w15 ⟨rfl, hb14⟩
  replace M := M.call hb14
  refine ⟨_, rfl, (M.sub (List.nil_sublist _)), ?_⟩
  intro a A
  refine qm (v := .bool false) A 9 rfl rfl rfl rfl hP (M.sub (List.nil_sublist _)) (fun w1 M => qz rfl zk) λa A↦?_
  refine jo (by kernel_rfl) ?_
  refine hK13 _ _ (wp_cond_false (A.ev rfl) ?_)
  refine wp_skip (hK12 _ _ (wrl (sdm A λa A↦?_)))
  refine sdo (v := .int .i64 (((i + 1 : Nat) : Int))) A (qg rfl rfl (fun w => (jm (vb (by omega) (by omega)) w).trans (by rw [show (((i : Nat) : Int) + 1 : Int) = ((i + 1 : Nat) : Int) from by omega]))) λa A↦?_
  refine sda A λa A↦?_
  refine qa ?_
  refine hK7 _ _ _ (by omega) ⟨i + 1, rfl, by omega, A.keep _ (by repeat' constructor), M⟩
 ·
  have hb11' := of_decide_eq_false hb11
  refine sdc A zf hb11 λa A↦?_
  refine qa (hK10 _ _ (wp_cond_false (A.ev rfl) ?_))
  refine wp_exit (hK4 _ _ (wsk fun K16 hK16 => wrl (sda A λa A↦?_)))
  refine qa (hK16 _ _ (wp_ret (hret _ _ (en1 A rfl (qf rfl) ?_))))
  exact ⟨rfl, M.bel⟩
theorem zah {w : World} {t : Dt} (ht : t.rd w) (hb : t.tr.bulk ≤ 300000000) (hT : Tabs8 w) : Calls Tryz.prog 7 #[.agg (t.d.cells t.ts.length).toArray] w fun e w' => ∃ so' ca' ys k, e = .returned (.tuple #[.slice so' (ys : List Dt).length ca', .int .i64 k]) ∧ ((ys.map Dt.tr, k) = qad t.tr ∧ Rt w' so' ys ∧ (∀ x ∈ ys, x.rd w')) ∧ Below w.heap.size w w' := by
 have M : Mg w w ([]) := Mg.start w
 refine qp (l := [(0, .agg (t.d.cells t.ts.length).toArray)]) Tryz.func7 rfl Tryz.ntmps7 rfl rfl ?_
 intro Q hret hnorm hP a A
 refine wsk fun K1 hK1 => wrl (zr (vs := (t.d.cells t.ts.length)) (t := 30) A M rfl rfl rfl pg (zg rfl rfl) (by decide) ?_)
 intro g2 w3 M a A
 iterate 2 refine sda A λa A↦?_
 refine qa (hK1 _ _ (wsk fun K4 hK4 => wrl (sdo A (zi M LiO_isS_30 rfl 0 rfl (cs := (t.d.cells t.ts.length)) rfl rfl) λa A↦?_)))
 rcases tf (qr qi t.tr) with hb5 | hb5
 ·
  rcases tf ((zq t.tr).isSome) with hb7 | hb7
  ·
   refine sct A (ef rfl rfl) (qbc M.bel ht (by omega) (hT.below M.bel) hb5 hb7) ?_
   rintro _ w9 ⟨so7, ca7, ys, rfl, ⟨hy1, hy2, hy3⟩, hM7⟩
   have hyb := jl hy1
   replace M : Mg w w9 (.row 30 11 (.slice so7 ys.length ca7) ys.length (cellsOf ys) :: .obj g2 (.cells (t.d.cells t.ts.length).toArray 30) :: []) := (M.both hM7 (zb (by simp) (qy ze)) (zb (by simp) (qy ze)))
   refine ⟨_, rfl, ?_⟩
   intro a A
   refine sdm A λa A↦?_
   iterate 2 refine sdo A (qn (vs := [.slice so7 ys.length ca7, .int .i64 0]) rfl rfl) λa A↦?_
   iterate 2 refine sda A λa A↦?_
   refine qa (hK4 _ _ (wsk fun K10 hK10 => wsk fun K11 hK11 => wrl (sdm A λa A↦?_)))
   refine sdo (v := .bool false) A (qg rfl rfl (fun w => by kernel_rfl)) λa A↦?_
   refine qa (hK11 _ _ (wp_cond_false (A.ev rfl) ?_))
   refine wp_skip (hK10 _ _ (wsk fun K12 hK12 => wrl (sdm A λa A↦?_)))
   refine sct A (ef rfl rfl) (qla (fun t _ => qag t) (vj (M.has 0 rfl)).1 (fun t ht => Dt.keep M.bel _ (hy2 t ht)) (by omega)) ?_
   rintro _ w13 ⟨v8, us, rfl, ⟨hu1, hu2⟩, hM8⟩
   obtain ⟨so8, ca8, rfl⟩ := kk (hM8.has 0 rfl)
   have hR8 := (vj (hM8.has 0 rfl)).1
   replace M := M.call hM8.bel
   refine ⟨_, rfl, ?_⟩
   intro a A
   iterate 2 refine sda A λa A↦?_
   refine qa (hK12 _ _ (wp_ret (hret _ _ (en2 A rfl (qf rfl) (qf rfl) ?_))))
   exact ⟨so8, ca8, us, 0, rfl, ⟨by rw [qjc hb5 hy1, hu1], hR8, fun x hx => (hu2 x hx).1⟩, M.bel⟩
  ·
   refine gcl A M (ef rfl rfl) (qbd M.bel ht (by omega) (hT.below M.bel) hb5 hb7) fun w15 hb14 M a A => ?_
   refine sdm A λa A↦?_
   iterate 2 refine sdo A (qn (vs := [.slice none 0 0, .int .i64 10]) rfl rfl) λa A↦?_
   iterate 2 refine sda A λa A↦?_
   refine qa (hK4 _ _ (wsk fun K16 hK16 => wsk fun K17 hK17 => wrl (sdm A λa A↦?_)))
   refine sdo (v := .bool true) A (qg rfl rfl (fun w => by kernel_rfl)) λa A↦?_
   refine qa (hK17 _ _ (wp_cond_true (A.ev rfl) ?_))
   refine wsk fun K18 hK18 => wrl (sdm A λa A↦?_)
   iterate 2 refine sda A λa A↦?_
   refine qa (hK18 _ _ (wp_ret (hret _ _ (en2 A rfl (qf rfl) (qf rfl) ?_))))
   exact ⟨none, 0, [], 10, rfl, ⟨(qjb hb5 (yt hb7)).symm, (fun h => absurd rfl h), (fun x h => by cases h)⟩, M.bel⟩
 ·
  refine gcl A M (ef rfl rfl) (qdg M.bel ht (by omega) (hT.below M.bel) hb5) fun w20 hb19 M a A => ?_
  refine sdm A λa A↦?_
  iterate 2 refine sdo A (qn (vs := [.slice none 0 0, .int .i64 2]) rfl rfl) λa A↦?_
  iterate 2 refine sda A λa A↦?_
  refine qa (hK4 _ _ (wsk fun K21 hK21 => wsk fun K22 hK22 => wrl (sdm A λa A↦?_)))
  refine sdo (v := .bool true) A (qg rfl rfl (fun w => by kernel_rfl)) λa A↦?_
  refine qa (hK22 _ _ (wp_cond_true (A.ev rfl) ?_))
  refine wsk fun K23 hK23 => wrl (sdm A λa A↦?_)
  iterate 2 refine sda A λa A↦?_
  refine qa (hK23 _ _ (wp_ret (hret _ _ (en2 A rfl (qf rfl) (qf rfl) ?_))))
  exact ⟨none, 0, [], 2, rfl, ⟨(qmh hb5).symm, (fun h => absurd rfl h), (fun x h => by cases h)⟩, M.bel⟩
theorem qvh {w : World} {t : Dt} (ht : t.rd w) (hb : t.tr.bulk ≤ 1100000) : Calls Tryz.prog 8 #[.agg (t.d.cells t.ts.length).toArray] w fun e w' => ∃ so' ca' ys k, e = .returned (.tuple #[.slice so' (ys : List Dt).length ca', .int .i64 k]) ∧ ((ys.map Dt.tr, k) = qad t.tr ∧ Rt w' so' ys ∧ (∀ x ∈ ys, x.rd w')) ∧ Below w.heap.size w w' := by
 refine (ux (Below.refl _ w) ht (by omega)).mono ?_
 rintro e w' (⟨so', ca', ys, h1, h2, h3⟩ | ⟨h1, h2, h3⟩ | ⟨h1, h2, h3⟩)
 ·
  exact ⟨so', ca', ys, 0, h1, ⟨(qjc h2.1 h2.2.1).symm, (vj (h3.has 0 rfl)).1, fun x hx => Dt.keep h3.bel _ (h2.2.2.1 x hx)⟩, h3.bel⟩
 ·
  exact ⟨none, 0, [], 10, h1, ⟨(qjb h2.1 h2.2).symm, (fun h => absurd rfl h), (fun x h => by cases h)⟩, h3⟩
 ·
  exact ⟨none, 0, [], 2, h1, ⟨(qmh h2).symm, (fun h => absurd rfl h), (fun x h => by cases h)⟩, h3⟩
theorem zeg (t : Tr) : (qad t).1.length ≤ t.bulk := by
 unfold qad
 split
 ·
  exact Nat.zero_le _
 ·
  cases h : zq t with
  | none => exact Nat.zero_le _
  | some xs => have := jl h; show xs.length ≤ _; omega
set_option maxHeartbeats 1000000 in
theorem qkb {w : World} {si : Option Addr} {ca : Nat} {ts : List Dt} (hR : Rt w si ts) (hca : ts.length ≤ ca) (hD : ∀ t ∈ ts, t.rd w) {d : Dt} (hrd : d.rd w) {n : Int} (hT : Tabs8 w) (hb : Tr.bulks (ts.map Dt.tr) ≤ 1048576) (hb2 : d.tr.bulk ≤ 1048576) : Calls Tryz.prog 3 #[.slice si ts.length ca, .agg (d.d.cells d.ts.length).toArray, .int .i64 n] w fun e w' => e = .returned (.bool true) ∧ Below w.heap.size w w' := by
 have hbl := jn ts
 have M : Mg w w ([]) := Mg.start w
 refine qp (l := [(0, .slice si ts.length ca), (1, .agg (d.d.cells d.ts.length).toArray), (2, .int .i64 n)]) Tryz.func3 rfl Tryz.ntmps3 rfl rfl ?_
 intro Q hret hnorm hP a A
 refine wsk fun K1 hK1 => wrl (zr (vs := (d.d.cells d.ts.length)) (t := 30) A M rfl rfl rfl pg (zg rfl rfl) (by decide) ?_)
 intro g2 w3 M a A
 refine sda A λa A↦?_
 refine qa (hK1 _ _ (wsk fun K4 hK4 => wrl (sdo A (zi M LiO_isS_30 rfl 0 rfl (cs := (d.d.cells d.ts.length)) rfl rfl) λa A↦?_)))
 refine sct A (ef rfl rfl) (zah (Dt.keep M.bel _ hrd) (by omega) (hT.below M.bel)) ?_
 rintro _ w6 ⟨sl, cl, ll, kl, rfl, ⟨htl, hRl, hDl⟩, hb5⟩
 replace M := M.call hb5
 refine ⟨_, rfl, ?_⟩
 intro a A
 have hB1 := M.bel
 replace hT := hT.below M.bel
 replace hR := hR.below M.bel
 replace hD := fun t ht => Dt.keep M.bel _ (hD t ht)
 replace hrd := Dt.keep M.bel _ hrd
 have hHg2 := M.here 0 (cs := (d.d.cells d.ts.length)) rfl
 replace M : Mg w6 w6 [] := Mg.start w6
 refine sdm A λa A↦?_
 iterate 2 refine sdo A (qn (vs := [.slice sl ll.length cl, .int .i64 kl]) rfl rfl) λa A↦?_
 iterate 2 refine sda A λa A↦?_
 refine qa (hK4 _ _ (wsk fun K7 hK7 => wrl (sdo A (zp M hHg2 LiO_isS_30 rfl rfl) λa A↦?_)))
 refine sct A (ef rfl rfl) (qvh (Dt.keep M.bel _ hrd) (by omega)) ?_
 rintro _ w9 ⟨sm, cm, lm, km, rfl, ⟨htm, hRm, hDm⟩, hb8⟩
 replace M := M.call hb8
 refine ⟨_, rfl, ?_⟩
 intro a A
 have hB2 := hB1.trans (M.bel.mono hB1.size)
 replace hT := hT.below M.bel
 replace hHg2 := hHg2.below M.bel
 replace hR := hR.below M.bel
 replace hD := fun t ht => Dt.keep M.bel _ (hD t ht)
 replace hRl := hRl.below M.bel
 replace hDl := fun t ht => Dt.keep M.bel _ (hDl t ht)
 replace hrd := Dt.keep M.bel _ hrd
 replace M : Mg w9 w9 [] := Mg.start w9
 refine sdm A λa A↦?_
 iterate 2 refine sdo A (qn (vs := [.slice sm lm.length cm, .int .i64 km]) rfl rfl) λa A↦?_
 iterate 2 refine sda A λa A↦?_
 refine qa (hK7 _ _ (wsk fun K10 hK10 => wrl (sdm A λa A↦?_)))
 refine sct A (ef rfl rfl) (quh (hR.below M.bel) (fun t ht => Dt.keep M.bel _ (hD t ht)) hca (by omega) (hT.below M.bel)) ?_
 rintro _ w12 ⟨aa, kaa, rfl, ⟨hraa, -, htaa⟩, hb11⟩
 replace M := M.call hb11
 refine ⟨_, rfl, ?_⟩
 intro a A
 have hB3 := hB2.trans (M.bel.mono hB2.size)
 replace hT := hT.below M.bel
 replace hHg2 := hHg2.below M.bel
 replace hR := hR.below M.bel
 replace hD := fun t ht => Dt.keep M.bel _ (hD t ht)
 replace hRl := hRl.below M.bel
 replace hDl := fun t ht => Dt.keep M.bel _ (hDl t ht)
 replace hRm := hRm.below M.bel
 replace hDm := fun t ht => Dt.keep M.bel _ (hDm t ht)
 replace hrd := Dt.keep M.bel _ hrd
 replace M : Mg w12 w12 [] := Mg.start w12
 refine sdm A λa A↦?_
 iterate 2 refine sdo A (qn (vs := [.agg (aa.d.cells aa.ts.length).toArray, .int .i64 kaa]) rfl rfl) λa A↦?_
 refine zr (vs := (qe.d.cells qe.ts.length)) (t := 30) A M rfl rfl rfl pg (qt (z := .agg (qe.d.cells qe.ts.length).toArray) (by kernel_rfl) rfl) (by decide) ?_
 intro g13 w14 M a A
 refine qx (us := (aa.d.cells aa.ts.length)) (L' := (.obj g13 (.cells (aa.d.cells aa.ts.length).toArray 30) :: [])) A M rfl rfl (qk rfl rfl rfl (by kernel_rfl) M 0 rfl rfl rfl) 0 rfl rfl rfl ?_
 intro w15 M
 refine sda A λa A↦?_
 refine qa (hK10 _ _ (wsk fun K16 hK16 => wrl (sdm A λa A↦?_)))
 refine sct A (ef rfl rfl) (qsj (hR.below M.bel) (fun t ht => Dt.keep M.bel _ (hD t ht)) (by omega)) ?_
 rintro _ w18 ⟨bb, kbb, rfl, ⟨hrbb, htbb⟩, hb17⟩
 replace M := M.call hb17
 refine ⟨_, rfl, ?_⟩
 intro a A
 have hB4 := hB3.trans (M.bel.mono hB3.size)
 replace hT := hT.below M.bel
 replace hHg2 := hHg2.below M.bel
 replace hR := hR.below M.bel
 replace hD := fun t ht => Dt.keep M.bel _ (hD t ht)
 replace hRl := hRl.below M.bel
 replace hDl := fun t ht => Dt.keep M.bel _ (hDl t ht)
 replace hRm := hRm.below M.bel
 replace hDm := fun t ht => Dt.keep M.bel _ (hDm t ht)
 replace hrd := Dt.keep M.bel _ hrd
 replace hraa := Dt.keep M.bel _ hraa
 have hHg13 := M.here 0 (cs := (aa.d.cells aa.ts.length)) rfl
 replace M : Mg w18 w18 [] := Mg.start w18
 refine sdm A λa A↦?_
 iterate 2 refine sdo A (qn (vs := [.agg (bb.d.cells bb.ts.length).toArray, .int .i64 kbb]) rfl rfl) λa A↦?_
 refine zr (vs := (qe.d.cells qe.ts.length)) (t := 30) A M rfl rfl rfl pg (qt (z := .agg (qe.d.cells qe.ts.length).toArray) (by kernel_rfl) rfl) (by decide) ?_
 intro g19 w20 M a A
 refine qx (us := (bb.d.cells bb.ts.length)) (L' := (.obj g19 (.cells (bb.d.cells bb.ts.length).toArray 30) :: [])) A M rfl rfl (qk rfl rfl rfl (by kernel_rfl) M 0 rfl rfl rfl) 0 rfl rfl rfl ?_
 intro w21 M
 refine sda A λa A↦?_
 refine qa (hK16 _ _ (wsk fun K22 hK22 => wrl (sdo A (zp M hHg2 LiO_isS_30 rfl rfl) λa A↦?_)))
 refine sct A (ef rfl rfl) (qef (Dt.keep M.bel _ hrd) (by omega) (hT.below M.bel)) ?_
 rintro _ w24 ⟨r, kr, rfl, ⟨hrr, -, htr⟩, hb23⟩
 replace M := M.call hb23
 refine ⟨_, rfl, ?_⟩
 intro a A
 have hB5 := hB4.trans (M.bel.mono hB4.size)
 replace hT := hT.below M.bel
 replace hHg2 := hHg2.below M.bel
 replace hHg13 := hHg13.below M.bel
 replace hR := hR.below M.bel
 replace hD := fun t ht => Dt.keep M.bel _ (hD t ht)
 replace hRl := hRl.below M.bel
 replace hDl := fun t ht => Dt.keep M.bel _ (hDl t ht)
 replace hRm := hRm.below M.bel
 replace hDm := fun t ht => Dt.keep M.bel _ (hDm t ht)
 replace hrd := Dt.keep M.bel _ hrd
 replace hraa := Dt.keep M.bel _ hraa
 replace hrbb := Dt.keep M.bel _ hrbb
 have hHg19 := M.here 0 (cs := (bb.d.cells bb.ts.length)) rfl
 replace M : Mg w24 w24 [] := Mg.start w24
 refine sdm A λa A↦?_
 iterate 2 refine sdo A (qn (vs := [.agg (r.d.cells r.ts.length).toArray, .int .i64 kr]) rfl rfl) λa A↦?_
 refine zr (vs := (qe.d.cells qe.ts.length)) (t := 30) A M rfl rfl rfl pg (qt (z := .agg (qe.d.cells qe.ts.length).toArray) (by kernel_rfl) rfl) (by decide) ?_
 intro g25 w26 M a A
 refine qx (us := (r.d.cells r.ts.length)) (L' := (.obj g25 (.cells (r.d.cells r.ts.length).toArray 30) :: [])) A M rfl rfl (qk rfl rfl rfl (by kernel_rfl) M 0 rfl rfl rfl) 0 rfl rfl rfl ?_
 intro w27 M
 refine sda A λa A↦?_
 refine qa (hK22 _ _ (wsk fun K28 hK28 => wrl (sdo A (zp M hHg2 LiO_isS_30 rfl rfl) λa A↦?_)))
 refine sct A (ef rfl rfl) (qpe (Dt.keep M.bel _ hrd) (by omega)) ?_
 rintro _ w30 ⟨s, ks, rfl, ⟨hrs, hts⟩, hb29⟩
 replace M := M.call hb29
 refine ⟨_, rfl, ?_⟩
 intro a A
 have hB6 := hB5.trans (M.bel.mono hB5.size)
 replace hT := hT.below M.bel
 replace hHg2 := hHg2.below M.bel
 replace hHg13 := hHg13.below M.bel
 replace hHg19 := hHg19.below M.bel
 replace hR := hR.below M.bel
 replace hD := fun t ht => Dt.keep M.bel _ (hD t ht)
 replace hRl := hRl.below M.bel
 replace hDl := fun t ht => Dt.keep M.bel _ (hDl t ht)
 replace hRm := hRm.below M.bel
 replace hDm := fun t ht => Dt.keep M.bel _ (hDm t ht)
 replace hrd := Dt.keep M.bel _ hrd
 replace hraa := Dt.keep M.bel _ hraa
 replace hrbb := Dt.keep M.bel _ hrbb
 replace hrr := Dt.keep M.bel _ hrr
 have hHg25 := M.here 0 (cs := (r.d.cells r.ts.length)) rfl
 replace M : Mg w30 w30 [] := Mg.start w30
 refine sdm A λa A↦?_
 iterate 2 refine sdo A (qn (vs := [.agg (s.d.cells s.ts.length).toArray, .int .i64 ks]) rfl rfl) λa A↦?_
 refine zr (vs := (qe.d.cells qe.ts.length)) (t := 30) A M rfl rfl rfl pg (qt (z := .agg (qe.d.cells qe.ts.length).toArray) (by kernel_rfl) rfl) (by decide) ?_
 intro g31 w32 M a A
 refine qx (us := (s.d.cells s.ts.length)) (L' := (.obj g31 (.cells (s.d.cells s.ts.length).toArray 30) :: [])) A M rfl rfl (qk rfl rfl rfl (by kernel_rfl) M 0 rfl rfl rfl) 0 rfl rfl rfl ?_
 intro w33 M
 refine sda A λa A↦?_
 refine qa (hK28 _ _ (wsk fun K34 hK34 => wrl (sdo A (zp M hHg2 LiO_isS_30 rfl rfl) λa A↦?_)))
 refine sdm A λa A↦?_
 refine sct A (ef rfl rfl) (zci (Dt.keep M.bel _ hrd) (by omega) (hT.below M.bel)) ?_
 rintro _ w36 ⟨tt, ktt, rfl, ⟨hrtt, -, httt⟩, hb35⟩
 replace M := M.call hb35
 refine ⟨_, rfl, ?_⟩
 intro a A
 have hB7 := hB6.trans (M.bel.mono hB6.size)
 replace hT := hT.below M.bel
 replace hHg2 := hHg2.below M.bel
 replace hHg13 := hHg13.below M.bel
 replace hHg19 := hHg19.below M.bel
 replace hHg25 := hHg25.below M.bel
 replace hR := hR.below M.bel
 replace hD := fun t ht => Dt.keep M.bel _ (hD t ht)
 replace hRl := hRl.below M.bel
 replace hDl := fun t ht => Dt.keep M.bel _ (hDl t ht)
 replace hRm := hRm.below M.bel
 replace hDm := fun t ht => Dt.keep M.bel _ (hDm t ht)
 replace hrd := Dt.keep M.bel _ hrd
 replace hraa := Dt.keep M.bel _ hraa
 replace hrbb := Dt.keep M.bel _ hrbb
 replace hrr := Dt.keep M.bel _ hrr
 replace hrs := Dt.keep M.bel _ hrs
 have hHg31 := M.here 0 (cs := (s.d.cells s.ts.length)) rfl
 replace M : Mg w36 w36 [] := Mg.start w36
 refine sdm A λa A↦?_
 iterate 2 refine sdo A (qn (vs := [.agg (tt.d.cells tt.ts.length).toArray, .int .i64 ktt]) rfl rfl) λa A↦?_
 refine zr (vs := (qe.d.cells qe.ts.length)) (t := 30) A M rfl rfl rfl pg (qt (z := .agg (qe.d.cells qe.ts.length).toArray) (by kernel_rfl) rfl) (by decide) ?_
 intro g37 w38 M a A
 refine qx (us := (tt.d.cells tt.ts.length)) (L' := (.obj g37 (.cells (tt.d.cells tt.ts.length).toArray 30) :: [])) A M rfl rfl (qk rfl rfl rfl (by kernel_rfl) M 0 rfl rfl rfl) 0 rfl rfl rfl ?_
 intro w39 M
 refine sda A λa A↦?_
 refine qa (hK34 _ _ (wsk fun K40 hK40 => wrl (sdo A (zp M hHg2 LiO_isS_30 rfl rfl) λa A↦?_)))
 refine sdm A λa A↦?_
 refine sct A (ef rfl rfl) (zaf (Dt.keep M.bel _ hrd) (by omega)) ?_
 rintro _ w42 ⟨uu, kuu, rfl, ⟨hruu, htuu⟩, hb41⟩
 replace M := M.call hb41
 refine ⟨_, rfl, ?_⟩
 intro a A
 have hB8 := hB7.trans (M.bel.mono hB7.size)
 replace hT := hT.below M.bel
 replace hHg2 := hHg2.below M.bel
 replace hHg13 := hHg13.below M.bel
 replace hHg19 := hHg19.below M.bel
 replace hHg25 := hHg25.below M.bel
 replace hHg31 := hHg31.below M.bel
 replace hR := hR.below M.bel
 replace hD := fun t ht => Dt.keep M.bel _ (hD t ht)
 replace hRl := hRl.below M.bel
 replace hDl := fun t ht => Dt.keep M.bel _ (hDl t ht)
 replace hRm := hRm.below M.bel
 replace hDm := fun t ht => Dt.keep M.bel _ (hDm t ht)
 replace hrd := Dt.keep M.bel _ hrd
 replace hraa := Dt.keep M.bel _ hraa
 replace hrbb := Dt.keep M.bel _ hrbb
 replace hrr := Dt.keep M.bel _ hrr
 replace hrs := Dt.keep M.bel _ hrs
 replace hrtt := Dt.keep M.bel _ hrtt
 have hHg37 := M.here 0 (cs := (tt.d.cells tt.ts.length)) rfl
 replace M : Mg w42 w42 [] := Mg.start w42
 refine sdm A λa A↦?_
 iterate 2 refine sdo A (qn (vs := [.agg (uu.d.cells uu.ts.length).toArray, .int .i64 kuu]) rfl rfl) λa A↦?_
 refine zr (vs := (qe.d.cells qe.ts.length)) (t := 30) A M rfl rfl rfl pg (qt (z := .agg (qe.d.cells qe.ts.length).toArray) (by kernel_rfl) rfl) (by decide) ?_
 intro g43 w44 M a A
 refine qx (us := (uu.d.cells uu.ts.length)) (L' := (.obj g43 (.cells (uu.d.cells uu.ts.length).toArray 30) :: [])) A M rfl rfl (qk rfl rfl rfl (by kernel_rfl) M 0 rfl rfl rfl) 0 rfl rfl rfl ?_
 intro w45 M
 refine sda A λa A↦?_
 refine qa (hK40 _ _ (wsk fun K46 hK46 => wrl (sct A (ef rfl rfl) (zag (hT.below M.bel)) ?_)))
 rintro _ w48 ⟨rfl, hb47⟩
 replace M := M.call hb47
 refine ⟨_, rfl, ?_⟩
 intro a A
 iterate 2 refine sdm A λa A↦?_
 refine sct A (ef rfl rfl) (of_any (hR.below M.bel) (fun t ht => Dt.keep M.bel _ (hD t ht)) (by omega) (hT.below M.bel)) ?_
 rintro _ w50 ⟨p, rfl, ⟨hrp, -, htp⟩, hb49⟩
 replace M := M.call hb49
 refine ⟨_, rfl, ?_⟩
 intro a A
 have hB9 := hB8.trans (M.bel.mono hB8.size)
 replace hT := hT.below M.bel
 replace hHg2 := hHg2.below M.bel
 replace hHg13 := hHg13.below M.bel
 replace hHg19 := hHg19.below M.bel
 replace hHg25 := hHg25.below M.bel
 replace hHg31 := hHg31.below M.bel
 replace hHg37 := hHg37.below M.bel
 replace hR := hR.below M.bel
 replace hD := fun t ht => Dt.keep M.bel _ (hD t ht)
 replace hRl := hRl.below M.bel
 replace hDl := fun t ht => Dt.keep M.bel _ (hDl t ht)
 replace hRm := hRm.below M.bel
 replace hDm := fun t ht => Dt.keep M.bel _ (hDm t ht)
 replace hrd := Dt.keep M.bel _ hrd
 replace hraa := Dt.keep M.bel _ hraa
 replace hrbb := Dt.keep M.bel _ hrbb
 replace hrr := Dt.keep M.bel _ hrr
 replace hrs := Dt.keep M.bel _ hrs
 replace hrtt := Dt.keep M.bel _ hrtt
 replace hruu := Dt.keep M.bel _ hruu
 have hHg43 := M.here 0 (cs := (uu.d.cells uu.ts.length)) rfl
 replace M : Mg w50 w50 [] := Mg.start w50
 refine sdm A λa A↦?_
 refine sct A (ef rfl rfl) (zhb (hR.below M.bel) (fun t ht => Dt.keep M.bel _ (hD t ht)) (by omega)) ?_
 rintro _ w52 ⟨q, rfl, ⟨hrq, htq⟩, hb51⟩
 replace M := M.call hb51
 refine ⟨_, rfl, ?_⟩
 intro a A
 have hB10 := hB9.trans (M.bel.mono hB9.size)
 replace hT := hT.below M.bel
 replace hHg2 := hHg2.below M.bel
 replace hHg13 := hHg13.below M.bel
 replace hHg19 := hHg19.below M.bel
 replace hHg25 := hHg25.below M.bel
 replace hHg31 := hHg31.below M.bel
 replace hHg37 := hHg37.below M.bel
 replace hHg43 := hHg43.below M.bel
 replace hR := hR.below M.bel
 replace hD := fun t ht => Dt.keep M.bel _ (hD t ht)
 replace hRl := hRl.below M.bel
 replace hDl := fun t ht => Dt.keep M.bel _ (hDl t ht)
 replace hRm := hRm.below M.bel
 replace hDm := fun t ht => Dt.keep M.bel _ (hDm t ht)
 replace hrd := Dt.keep M.bel _ hrd
 replace hraa := Dt.keep M.bel _ hraa
 replace hrbb := Dt.keep M.bel _ hrbb
 replace hrr := Dt.keep M.bel _ hrr
 replace hrs := Dt.keep M.bel _ hrs
 replace hrtt := Dt.keep M.bel _ hrtt
 replace hruu := Dt.keep M.bel _ hruu
 replace hrp := Dt.keep M.bel _ hrp
 replace M : Mg w52 w52 [] := Mg.start w52
 refine gcl A M (ef rfl rfl) ((((uh p.tr q.tr).2 (htp.trans htq.symm)) ▸ vt (p.tr.bulk + 1) (t := p) (u := q) (Nat.lt_succ_self _) (Dt.keep M.bel _ hrp) (Dt.keep M.bel _ hrq))) fun w54 hb53 M a A => ?_
 refine sdk (v := .bool true) A λa A↦?_
 iterate 3 refine sdm A λa A↦?_
 refine gcl A M (ef rfl rfl) (qta (hRl.below M.bel) (fun t ht => Dt.keep M.bel _ (hDl t ht)) (hRm.below M.bel) (fun t ht => Dt.keep M.bel _ (hDm t ht)) ((congrArg Prod.fst htl).trans (congrArg Prod.fst htm).symm) (by have h7 := congrArg (fun z => z.1.length) htl; simp only [List.length_map] at h7; have h8 := zeg d.tr; omega)) fun w56 hb55 M a A => ?_
 refine sdk (v := .bool true) A λa A↦?_
 iterate 3 refine sdm A λa A↦?_
 refine sdo (v := .bool true) A (qg rfl rfl (fun w => (qj w).trans (by rw [show ((kl == km)) = true from (beq_iff_eq.2 ((congrArg Prod.snd htl).trans (congrArg Prod.snd htm).symm))]))) λa A↦?_
 refine sdk (v := .bool true) A λa A↦?_
 refine sdm A λa A↦?_
 refine sdo A (zp M hHg13 LiO_isS_30 rfl rfl) λa A↦?_
 refine sdo A (zp M hHg19 LiO_isS_30 rfl rfl) λa A↦?_
 refine gcl A M (ef rfl rfl) ((((uh aa.tr bb.tr).2 ((congrArg Prod.fst htaa).trans (congrArg Prod.fst htbb).symm)) ▸ vt (aa.tr.bulk + 1) (t := aa) (u := bb) (Nat.lt_succ_self _) (Dt.keep M.bel _ hraa) (Dt.keep M.bel _ hrbb))) fun w58 hb57 M a A => ?_
 refine sdk (v := .bool true) A λa A↦?_
 iterate 3 refine sdm A λa A↦?_
 refine sdo (v := .bool true) A (qg rfl rfl (fun w => (qj w).trans (by rw [show ((kaa == kbb)) = true from (beq_iff_eq.2 ((congrArg Prod.snd htaa).trans (congrArg Prod.snd htbb).symm))]))) λa A↦?_
 refine sdk (v := .bool true) A λa A↦?_
 refine sdm A λa A↦?_
 refine sdo A (zp M hHg25 LiO_isS_30 rfl rfl) λa A↦?_
 refine sdo A (zp M hHg31 LiO_isS_30 rfl rfl) λa A↦?_
 refine gcl A M (ef rfl rfl) ((((uh r.tr s.tr).2 ((congrArg Prod.fst htr).trans (congrArg Prod.fst hts).symm)) ▸ vt (r.tr.bulk + 1) (t := r) (u := s) (Nat.lt_succ_self _) (Dt.keep M.bel _ hrr) (Dt.keep M.bel _ hrs))) fun w60 hb59 M a A => ?_
 refine sdk (v := .bool true) A λa A↦?_
 iterate 3 refine sdm A λa A↦?_
 refine sdo (v := .bool true) A (qg rfl rfl (fun w => (qj w).trans (by rw [show ((kr == ks)) = true from (beq_iff_eq.2 ((congrArg Prod.snd htr).trans (congrArg Prod.snd hts).symm))]))) λa A↦?_
 refine sdk (v := .bool true) A λa A↦?_
 refine sdm A λa A↦?_
 refine sdo A (zp M hHg37 LiO_isS_30 rfl rfl) λa A↦?_
 refine sdo A (zp M hHg43 LiO_isS_30 rfl rfl) λa A↦?_
 refine gcl A M (ef rfl rfl) ((((uh tt.tr uu.tr).2 ((congrArg Prod.fst httt).trans (congrArg Prod.fst htuu).symm)) ▸ vt (tt.tr.bulk + 1) (t := tt) (u := uu) (Nat.lt_succ_self _) (Dt.keep M.bel _ hrtt) (Dt.keep M.bel _ hruu))) fun w62 hb61 M a A => ?_
 refine sdk (v := .bool true) A λa A↦?_
 iterate 3 refine sdm A λa A↦?_
 refine sdo (v := .bool true) A (qg rfl rfl (fun w => (qj w).trans (by rw [show ((ktt == kuu)) = true from (beq_iff_eq.2 ((congrArg Prod.snd httt).trans (congrArg Prod.snd htuu).symm))]))) λa A↦?_
 refine sdk (v := .bool true) A λa A↦?_
 refine sda A λa A↦?_
 refine qa (hK46 _ _ (wp_ret (hret _ _ (en1 A rfl (qf rfl) ?_))))
 exact ⟨rfl, hB10.trans (M.bel.mono hB10.size)⟩
end Go.Proofs.YtipikhcmieboaaaGreatDoor.G
namespace Go.Proofs.YtipikhcmieboaaaGreatDoor
set_option linter.unusedVariables false

section
variable {H : Type}
theorem qtb (d : DataW H) : 0 < Rows.uptoBulk d := by
  unfold Rows.uptoBulk
  split <;> omega
theorem qtc : ∀ l : List (DataW H), l.length ≤ Rows.uptoBulkAll l
  | [] => by simp
  | d :: l => by
    have h1 := qtb d
    have h2 := qtc l
    simp only [Rows.uptoBulkAll, List.length_cons]
    omega
theorem qtd (xs ys : List (DataW H)) : xs.length ≤ Rows.uptoBulk (.slice xs ys) := by
  have := qtc xs
  simp only [Rows.uptoBulk]
  omega
theorem ke {d : DataW H} : ∀ {l : List (DataW H)}, d ∈ l → Rows.uptoBulk d ≤ Rows.uptoBulkAll l
  | c :: l, h => by
    simp only [Rows.uptoBulkAll]
    rcases List.mem_cons.1 h with rfl | h
    · omega
    · have := ke h
      omega
theorem qxf {l : List (DataW H)} (hk : Rows.uptoSmall H l = true) {j : Nat} {d : DataW H} (hd : l[j]? = some d) : Rows.uptoBulk d ≤ 1048576 :=
  Nat.le_trans (ke (List.mem_of_getElem? hd)) (of_decide_eq_true hk)
end
end Go.Proofs.YtipikhcmieboaaaGreatDoor
namespace Go.Proofs.YtipikhcmieboaaaGreatDoor.G
open Go.ChangeShapes Go.WideShapes Go.ChangeAt Go.RowKit Go.Joins Go.Deep
set_option linter.unusedVariables false
set_option linter.unusedSimpArgs false
set_option maxRecDepth 100000

section
variable {H : Type} {enc : TypeId × Value → H} {W : World}
end
end Go.Proofs.YtipikhcmieboaaaGreatDoor.G
