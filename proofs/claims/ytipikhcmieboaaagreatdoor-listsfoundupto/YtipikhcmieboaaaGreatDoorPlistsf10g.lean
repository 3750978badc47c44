/- Walks of Of, Append, Tail and Reverse. Walks of the document's sameness and order of numbers. The same trees. The walk of the document's utf8. Units of a text as rows; when a text has no bad byte. Walks of the document's Sound. The walk of the document's Sound. The walk of the document's sameness of data. What joins say, of lists as they are. Walks of the document's lists. Bytes compared by the library. Walks of the order of numbers. Walks of small comparisons, and of the hash of lists. Walks of the order of data. -/
import Derived.Test.YtipikhcmieboaaaGreatDoorPlistsf10f
import Derived.Test.YtipikhcmieboaaaGreatDoorPlistsf10c
import Derived.Test.YtipikhcmieboaaaGreatDoorPlistsf10d
import Derived.Test.YtipikhcmieboaaaGreatDoorProg
import Derived.Lib.ConvBytes
import Derived.Test.YtipikhcmieboaaaGreatDoorShelf
import Derived.Lib.Bytealg
import Derived.WalkKit
import Derived.WalkSpells
namespace Go.Proofs.YtipikhcmieboaaaGreatDoor.G
open Go.RowKit
set_option linter.unusedVariables false
set_option linter.unusedSimpArgs false
set_option maxRecDepth 100000
theorem LiG_isS_30 : IsS Tryz.prog 30 11 := ⟨⟨_, Tryz.underlying30⟩, by kernel_rfl⟩
theorem ztb {w0 w : World} {g9 c9 : Nat} {ys : List Dt} {T : List Ck} (hl : ys.length ≤ 1000000000) (hne : ys ≠ []) (hM0 : Mg w0 w (.row 30 11 (.slice (some ⟨g9, 0, none⟩) ys.length c9) ys.length (cellsOf ys) :: T)) : Calls Tryz.prog 41 #[.slice (some ⟨g9, 0, none⟩) ys.length c9] w fun e w' => e = .returned (.tuple #[]) ∧ Mg w0 w' (.row 30 11 (.slice (some ⟨g9, 0, none⟩) ys.length c9) ys.length (cellsOf ys.reverse) :: T) := by
 have hpos : 0 < ys.length := List.length_pos_iff.2 hne
 have M : Mg w0 w (.row 30 11 (.slice (some ⟨g9, 0, none⟩) ys.length c9) ys.length (cellsOf ys) :: T) := hM0
 refine qx (l := [(0, .slice (some ⟨g9, 0, none⟩) ys.length c9)]) Tryz.func41 rfl Tryz.ntmps41 rfl rfl ?_
 intro Q hret hnorm hP a A
 refine wsk fun K1 hK1 => wrl (sdm A λa A↦?_)
 refine sdo A (zb Tryz.underlying22 rfl) λa A↦?_
 refine sdo (v := .int .i64 (((ys.length : Nat) : Int) - 1 - ((0 : Nat) : Int))) A (qh rfl rfl (ar_sub ((in_i64 (by omega) (by omega)).trans (by omega)))) λa A↦?_
 iterate 2 refine sda A λa A↦?_
 refine qa (hK1 _ _ (wp_block (jd (fun m_ a w1 => ∃ (i : Nat) (zs : List Dt), m_ = 1 + (ys.length - i) ∧ (i ≤ ys.length ∧ RevI ys zs i) ∧ Sl a 28 [(0, .slice (some ⟨g9, 0, none⟩) ys.length c9), (2, .int .i64 (((i : Nat) : Int))), (3, .int .i64 (((ys.length : Nat) : Int) - 1 - ((i : Nat) : Int))), (4, .slice (some ⟨g9, 0, none⟩) ys.length c9), (5, .int .i64 (((ys.length : Nat) : Int))), (6, .int .i64 (((ys.length : Nat) : Int) - 1 - ((0 : Nat) : Int)))] ∧ Mg w0 w1 (.row 30 11 (.slice (some ⟨g9, 0, none⟩) ys.length c9) ys.length (cellsOf zs) :: T)) _ ⟨0, ys, rfl, ⟨Nat.zero_le _, zod ys⟩, A.keep _ (by repeat' constructor), M⟩ ?_)))
 clear M A
 rintro m_ a w2 ⟨i, zs, rfl, hinv4, A, M⟩ K3 hK3
 obtain ⟨hi0, hrv⟩ := hinv4
 refine wsk fun K5 hK5 => wsk fun K6 hK6 => wrl ?_
 iterate 2 refine sdm A λa A↦?_
 rcases tf (decide (((i : Nat) : Int) < ((ys.length : Nat) : Int) - 1 - ((i : Nat) : Int))) with hb7 | hb7
 ·
  have hb7' := of_decide_eq_true hb7
  refine sdc A zj hb7 λa A↦?_
  refine qa (hK6 _ _ (wp_cond_true (A.ev rfl) ?_))
  refine wp_skip (hK5 _ _ (wsk fun K8 hK8 => wp_block ?_))
  have hzl := hrv.1
  obtain ⟨a1, hza⟩ : ∃ a, zs[i]? = some a := ⟨_, List.getElem?_eq_getElem (by omega)⟩
  obtain ⟨b1, hzb⟩ : ∃ b, zs[ys.length - 1 - i]? = some b := ⟨_, List.getElem?_eq_getElem (by omega)⟩
  refine jf (S := fun w1 => Mg w0 w1 ([])) (by kernel_rfl) ?_
  replace M := M.drew
  refine qf A 0 rfl rfl rfl rfl hP (M.sub (cn (List.nil_sublist _))) (fun w1 M => ze rfl) λa A↦?_
  refine qf A 1 rfl rfl rfl rfl hP (M.sub (cn (List.nil_sublist _))) (fun w1 M => ze rfl) λa A↦?_
  refine qf A 2 rfl rfl rfl rfl hP (M.sub (cn (List.nil_sublist _))) (fun w1 M => ze rfl) λa A↦?_
  refine qf A 3 rfl rfl rfl rfl hP (M.sub (cn (List.nil_sublist _))) (fun w1 M => ze rfl) λa A↦?_
  refine qf A 4 rfl rfl rfl rfl hP (M.sub (cn (List.nil_sublist _))) (fun w1 M => ze rfl) λa A↦?_
  refine qf A 5 rfl rfl rfl rfl hP (M.sub (cn (List.nil_sublist _))) (fun w1 M => ze rfl) λa A↦?_
  refine qf (v := .pointer (some ⟨g9, (ys.length - 1 - i) * 11, none⟩)) A 6 rfl rfl rfl rfl hP (M.sub (cn (List.nil_sublist _))) (fun w1 M => jr (k := (ys.length - 1 - i)) Tryz.underlying22 (by kernel_rfl) rfl rfl (by omega) (by omega)) λa A↦?_
  refine qf A 8 rfl rfl rfl rfl hP (M.sub (cn (List.nil_sublist _))) (fun w1 M => ze rfl) λa A↦?_
  refine qf A 9 rfl rfl rfl rfl hP (M.sub (cn (List.nil_sublist _))) (fun w1 M => ze rfl) λa A↦?_
  refine qf (v := .pointer (some ⟨g9, i * 11, none⟩)) A 10 rfl rfl rfl rfl hP (M.sub (cn (List.nil_sublist _))) (fun w1 M => jr (k := i) Tryz.underlying22 (by kernel_rfl) rfl rfl (by omega) (by omega)) λa A↦?_
  refine xa (rs := [7, 11]) (by kernel_rfl) (by simp) ⟨?_, ?_, trivial⟩
  ·
   refine uq A 7 rfl rfl rfl rfl (yw (o := (ys.length - 1 - i) * 11) (cs := b1.d.cells b1.ts.length) M 0 rfl LiG_isS_30 (jv hzb) rfl rfl) (M.sub (cn (List.nil_sublist _))) λa A↦?_
   refine qn (by kernel_rfl) (uq A 11 rfl rfl rfl rfl (yw (o := i * 11) (cs := a1.d.cells a1.ts.length) M 0 rfl LiG_isS_30 (jv hza) rfl rfl) (M.sub (cn (List.nil_sublist _))) ?_)
   intro a A
   refine qf (v := .pointer (some ⟨g9, i * 11, none⟩)) A 12 rfl rfl rfl rfl hP (M.sub (cn (List.nil_sublist _))) (fun w1 M => jr (k := i) Tryz.underlying22 (by kernel_rfl) rfl rfl (by omega) (by omega)) λa A↦?_
   refine qn (by kernel_rfl) (qdh (us := cellsOf (zs.set i b1)) (L' := (.row 30 11 (.slice (some ⟨g9, 0, none⟩) ys.length c9) ys.length (cellsOf (zs.set i b1)) :: T)) A M 13 rfl rfl rfl (ux (cs := b1.d.cells b1.ts.length) rfl rfl rfl (by kernel_rfl) M 0 rfl (by show _ + 11 ≤ _; omega) (vb b1)) 0 rfl (qab (by rw [hzl]; omega) rfl) rfl ?_)
   intro w9 M
   refine ⟨(M.sub (cn (List.nil_sublist _))), ?_⟩
   refine qf (v := .pointer (some ⟨g9, (ys.length - 1 - i) * 11, none⟩)) A 14 rfl rfl rfl rfl hP (M.sub (cn (List.nil_sublist _))) (fun w1 M => jr (k := (ys.length - 1 - i)) Tryz.underlying22 (by kernel_rfl) rfl rfl (by omega) (by omega)) λa A↦?_
   refine qn (by kernel_rfl) (qdh (us := cellsOf ((zs.set i b1).set (ys.length - 1 - i) a1)) (L' := (.row 30 11 (.slice (some ⟨g9, 0, none⟩) ys.length c9) ys.length (cellsOf ((zs.set i b1).set (ys.length - 1 - i) a1)) :: T)) A M 15 rfl rfl rfl (ux (cs := a1.d.cells a1.ts.length) rfl rfl rfl (by kernel_rfl) M 0 rfl (by show _ + 11 ≤ _; omega) (vb a1)) 0 rfl (qab (by rw [List.length_set, hzl]; omega) rfl) rfl ?_)
   intro w10 M
   refine ⟨(M.sub (cn (List.nil_sublist _))), ?_⟩
   refine zp (by kernel_rfl) ?_
   refine hK8 _ _ (wrl (sdm A λa A↦?_))
   refine sdo (v := .int .i64 (((i + 1 : Nat) : Int))) A (qh rfl rfl (ar_add ((in_i64 (by omega) (by omega)).trans (by omega)))) λa A↦?_
   refine sdm A λa A↦?_
   refine sdo (v := .int .i64 (((ys.length : Nat) : Int) - 1 - ((i + 1 : Nat) : Int))) A (qh rfl rfl (ar_sub ((in_i64 (by omega) (by omega)).trans (by omega)))) λa A↦?_
   iterate 2 refine sda A λa A↦?_
   refine qa ?_
   refine hK3 _ _ _ (by omega) ⟨i + 1, ((zs.set i b1).set (ys.length - 1 - i) a1), rfl, ⟨by omega, qte hrv (by omega) hza hzb⟩, A.keep _ (by repeat' constructor), M⟩
  ·
   refine uq A 11 rfl rfl rfl rfl (yw (o := i * 11) (cs := a1.d.cells a1.ts.length) M 0 rfl LiG_isS_30 (jv hza) rfl rfl) (M.sub (cn (List.nil_sublist _))) λa A↦?_
   refine qn (by kernel_rfl) (uq A 7 rfl rfl rfl rfl (yw (o := (ys.length - 1 - i) * 11) (cs := b1.d.cells b1.ts.length) M 0 rfl LiG_isS_30 (jv hzb) rfl rfl) (M.sub (cn (List.nil_sublist _))) ?_)
   intro a A
   refine qf (v := .pointer (some ⟨g9, i * 11, none⟩)) A 12 rfl rfl rfl rfl hP (M.sub (cn (List.nil_sublist _))) (fun w1 M => jr (k := i) Tryz.underlying22 (by kernel_rfl) rfl rfl (by omega) (by omega)) λa A↦?_
   refine qn (by kernel_rfl) (qdh (us := cellsOf (zs.set i b1)) (L' := (.row 30 11 (.slice (some ⟨g9, 0, none⟩) ys.length c9) ys.length (cellsOf (zs.set i b1)) :: T)) A M 13 rfl rfl rfl (ux (cs := b1.d.cells b1.ts.length) rfl rfl rfl (by kernel_rfl) M 0 rfl (by show _ + 11 ≤ _; omega) (vb b1)) 0 rfl (qab (by rw [hzl]; omega) rfl) rfl ?_)
   intro w11 M
   refine ⟨(M.sub (cn (List.nil_sublist _))), ?_⟩
   refine qf (v := .pointer (some ⟨g9, (ys.length - 1 - i) * 11, none⟩)) A 14 rfl rfl rfl rfl hP (M.sub (cn (List.nil_sublist _))) (fun w1 M => jr (k := (ys.length - 1 - i)) Tryz.underlying22 (by kernel_rfl) rfl rfl (by omega) (by omega)) λa A↦?_
   refine qn (by kernel_rfl) (qdh (us := cellsOf ((zs.set i b1).set (ys.length - 1 - i) a1)) (L' := (.row 30 11 (.slice (some ⟨g9, 0, none⟩) ys.length c9) ys.length (cellsOf ((zs.set i b1).set (ys.length - 1 - i) a1)) :: T)) A M 15 rfl rfl rfl (ux (cs := a1.d.cells a1.ts.length) rfl rfl rfl (by kernel_rfl) M 0 rfl (by show _ + 11 ≤ _; omega) (vb a1)) 0 rfl (qab (by rw [List.length_set, hzl]; omega) rfl) rfl ?_)
   intro w12 M
   refine ⟨(M.sub (cn (List.nil_sublist _))), ?_⟩
   refine zp (by kernel_rfl) ?_
   refine hK8 _ _ (wrl (sdm A λa A↦?_))
   refine sdo (v := .int .i64 (((i + 1 : Nat) : Int))) A (qh rfl rfl (ar_add ((in_i64 (by omega) (by omega)).trans (by omega)))) λa A↦?_
   refine sdm A λa A↦?_
   refine sdo (v := .int .i64 (((ys.length : Nat) : Int) - 1 - ((i + 1 : Nat) : Int))) A (qh rfl rfl (ar_sub ((in_i64 (by omega) (by omega)).trans (by omega)))) λa A↦?_
   iterate 2 refine sda A λa A↦?_
   refine qa ?_
   refine hK3 _ _ _ (by omega) ⟨i + 1, ((zs.set i b1).set (ys.length - 1 - i) a1), rfl, ⟨by omega, qte hrv (by omega) hza hzb⟩, A.keep _ (by repeat' constructor), M⟩
 ·
  have hb7' := of_decide_eq_false hb7
  refine sdc A zj hb7 λa A↦?_
  refine qa (hK6 _ _ (wp_cond_false (A.ev rfl) ?_))
  refine wp_exit (hnorm _ _ (qec (v := .tuple #[]) A rfl .nil rfl ?_))
  rw [zta hrv (by omega)] at M
  exact ⟨rfl, M⟩
theorem zye {w0 w : World} {so9 : Option Addr} {c9 : Nat} {T : List Ck} (hM0 : Mg w0 w (.row 30 11 (.slice so9 ([] : List Dt).length c9) ([] : List Dt).length (cellsOf []) :: T)) : Calls Tryz.prog 41 #[.slice so9 (([] : List Dt).length) c9] w fun e w' => e = .returned (.tuple #[]) ∧ Mg w0 w' (.row 30 11 (.slice so9 ([] : List Dt).length c9) ([] : List Dt).length (cellsOf ([] : List Dt).reverse) :: T) := by
 have M : Mg w0 w (.row 30 11 (.slice so9 (([] : List Dt).length) c9) (([] : List Dt).length) (cellsOf []) :: T) := hM0
 refine qx (l := [(0, .slice so9 (([] : List Dt).length) c9)]) Tryz.func41 rfl Tryz.ntmps41 rfl rfl ?_
 intro Q hret hnorm hP a A
 refine wsk fun K1 hK1 => wrl (sdm A λa A↦?_)
 refine sdo A (zb Tryz.underlying22 rfl) λa A↦?_
 refine sdo (v := .int .i64 (-1)) A (qh rfl rfl (ar_sub (by rfl))) λa A↦?_
 iterate 2 refine sda A λa A↦?_
 refine qa (hK1 _ _ (wp_block (wp_loop_rounds 12 ?_)))
 refine kh fun K2 hK2 => ?_
 refine wsk fun K3 hK3 => wsk fun K4 hK4 => wrl ?_
 iterate 2 refine sdm A λa A↦?_
 refine sdo (v := .bool false) A (qh rfl rfl (fun w => by kernel_rfl)) λa A↦?_
 refine qa (hK4 _ _ (wp_cond_false (A.ev rfl) ?_))
 refine wp_exit (hnorm _ _ (qec (v := .tuple #[]) A rfl .nil rfl ?_))
 exact ⟨rfl, M⟩
theorem zyf {w0 w : World} {so9 : Option Addr} {c9 : Nat} {ys : List Dt} {T : List Ck} (hl : ys.length ≤ 1000000000) (hM0 : Mg w0 w (.row 30 11 (.slice so9 ys.length c9) ys.length (cellsOf ys) :: T)) : Calls Tryz.prog 41 #[.slice so9 ys.length c9] w fun e w' => e = .returned (.tuple #[]) ∧ Mg w0 w' (.row 30 11 (.slice so9 ys.length c9) ys.length (cellsOf ys.reverse) :: T) := by
 by_cases h : ys = []
 ·
  subst h; exact zye hM0
 ·
  obtain ⟨g, c, e⟩ := yy (hM0.has 0 rfl) (fun k => h (List.length_eq_zero_iff.1 k))
  cases e
  exact ztb hl h hM0
theorem kv {α : Type} {x : Option α} (h : x.isSome = false) : x = none := Option.isNone_iff_eq_none.1 (Option.isSome_eq_false_iff.1 h)
theorem of_any {w : World} {so : Option Addr} {ca : Nat} {ts : List Dt} (hR : Rt w so ts) (hD : ∀ t ∈ ts, t.rd w) (hb : Tr.bulks (ts.map Dt.tr) ≤ 300000000) (hT : Tabs8 w) : Calls Tryz.prog 17 #[.slice so ts.length ca] w fun e w' => ∃ t2 : Dt, e = .returned (.agg (t2.d.cells t2.ts.length).toArray) ∧ (t2.rd w' ∧ t2.at_ (w.heap.size ≤ ·) ∧ t2.tr = ofS (ts.map Dt.tr)) ∧ Below w.heap.size w w' := by
 have hnb : qni.tr.bulk = 1 := by rw [qdj]; rfl
 have M : Mg w w ([]) := Mg.start w
 refine qx (l := [(0, .slice so ts.length ca)]) Tryz.func17 rfl Tryz.ntmps17 rfl rfl ?_
 intro Q hret hnorm hP a A
 refine wsk fun K1 hK1 => wrl (zv (vs := (qg.d.cells qg.ts.length)) (t := 30) A M rfl rfl rfl pg (qp (z := .agg (qg.d.cells qg.ts.length).toArray) (by kernel_rfl) rfl) (by decide) ?_)
 intro g2 w3 M a A
 refine qa (hK1 _ _ (wsk fun K4 hK4 => wrl (sdm A λa A↦?_)))
 refine gcl A M (ef rfl rfl) (zkf) fun w6 hb5 M a A => ?_
 have hlt7 := (Ck.lt (M.has 0 rfl) g2 rfl).2
 have hzt2 := M.bel.size
 refine sct A (ef rfl rfl) (zbb (u := qni) (hR.below M.bel) (fun t ht => Dt.keep M.bel _ (hD t ht)) (qli _) (by omega) (hT.below M.bel)) ?_
 rintro _ w9 ⟨t2, k2, rfl, ⟨hrt2, hat2, htt2⟩, hb8⟩
 replace M := M.call hb8
 refine ⟨_, rfl, ?_⟩
 intro a A
 refine sdm A λa A↦?_
 iterate 2 refine sdo A (qz (vs := [.agg (t2.d.cells t2.ts.length).toArray, .int .i64 k2]) rfl rfl) λa A↦?_
 refine zfd (vs := (qg.d.cells qg.ts.length)) (t := 30) A M rfl rfl rfl pg (qp (z := .agg (qg.d.cells qg.ts.length).toArray) (by kernel_rfl) rfl) (by decide) ?_
 intro g10 w11 M hg12 hb13 a A
 have hnt2g10 := Dt.at_mono (q := (· ≠ g10)) (fun b hb => by intro e; omega) _ (Dt.at_lt _ hrt2)
 replace hrt2 := Dt.keep hb13 _ hrt2
 refine xr (us := (t2.d.cells t2.ts.length)) (L' := (.obj g10 (.cells (t2.d.cells t2.ts.length).toArray 30) :: .obj g2 (.cells (qg.d.cells qg.ts.length).toArray 30) :: [])) A M rfl rfl (qy rfl rfl rfl (by kernel_rfl) M 0 rfl rfl rfl) 0 rfl rfl rfl ?_
 intro w14 M hK15
 replace hrt2 := Dt.kept hK15 _ hrt2 hnt2g10
 refine sda A λa A↦?_
 refine qa (hK4 _ _ (wsk fun K16 hK16 => wrl (sdo A (za M LiG_isS_30 rfl 0 rfl (cs := (t2.d.cells t2.ts.length)) rfl rfl) λa A↦?_)))
 refine xr (us := (t2.d.cells t2.ts.length)) (L' := (.obj g10 (.cells (t2.d.cells t2.ts.length).toArray 30) :: .obj g2 (.cells (t2.d.cells t2.ts.length).toArray 30) :: [])) A M rfl rfl (qy rfl rfl rfl (by kernel_rfl) M 1 rfl rfl rfl) 1 rfl rfl rfl ?_
 intro w17 M hK18
 replace hrt2 := Dt.kept hK18 _ hrt2 (Dt.at_mono (fun b hb => by rintro rfl; omega) _ hat2)
 refine qa (hK16 _ _ (wp_ret (hret _ _ (en1 A rfl (zq M LiG_isS_30 rfl 1 rfl (cs := [.int .i64 t2.d.k, .int .i64 t2.d.n, .bool t2.d.y.q.b1, .slice t2.d.y.o1 t2.d.y.q.t1.length t2.d.y.c1, .slice t2.d.y.o2 t2.d.y.q.q1.length t2.d.y.c2, .bool t2.d.y.q.b2, .slice t2.d.y.o3 t2.d.y.q.t2.length t2.d.y.c3, .slice t2.d.y.o4 t2.d.y.q.q2.length t2.d.y.c4, .string t2.d.s, .slice t2.d.ro t2.d.rl.length t2.d.rc, .slice t2.d.lo t2.ts.length t2.d.lc]) rfl rfl) ?_))))
 exact ⟨t2, rfl, ⟨hrt2, Dt.at_mono (fun b hb => Nat.le_trans hzt2 hb) _ hat2, by unfold ofS; rw [← qdj, ← htt2]⟩, M.bel⟩
theorem zgc {ts : List Dt} (i : Nat) : Tr.bulks ((ts.drop i).map Dt.tr) ≤ Tr.bulks (ts.map Dt.tr) := by
 conv => rhs; rw [← List.take_append_drop i ts, List.map_append, qbd]
 omega
theorem qtf : ∀ ts : List Tr, Tr.bulks ts.reverse = Tr.bulks ts
 | [] => rfl
 | t :: ts => by rw [List.reverse_cons, qbd, qtf ts, Tr.bulks, Tr.bulks, Tr.bulks]; omega
theorem zgd {w : World} {so : Option Addr} {ca : Nat} {ys : List Dt} (hR : Rt w so ys.reverse) (hD : ∀ t ∈ ys.reverse, t.rd w) (hb : Tr.bulks (ys.reverse.map Dt.tr) ≤ 400000000) : Calls Tryz.prog 42 #[.slice so ys.length ca] w fun e w' => ∃ t2 : Dt, e = .returned (.agg (t2.d.cells t2.ts.length).toArray) ∧ (t2.rd w' ∧ t2.at_ (w.heap.size ≤ ·) ∧ t2.tr = jb (ys.reverse.map Dt.tr) nilT) ∧ Below w.heap.size w w' := by
 have := qff (ca := ca) hR hD hb
 rwa [List.length_reverse] at this
theorem zbc {w : World} {t : Dt} (ht : t.rd w) (hb : t.tr.bulk ≤ 300000000) (hT : Tabs8 w) : Calls Tryz.prog 11 #[.agg (t.d.cells t.ts.length).toArray] w fun e w' => ∃ (t2 : Dt) (k : Int), e = .returned (.tuple #[.agg (t2.d.cells t2.ts.length).toArray, .int .i64 k]) ∧ (t2.rd w' ∧ t2.at_ (w.heap.size ≤ ·) ∧ (t2.tr, k) = zfj t.tr) ∧ Below w.heap.size w w' := by
 have M : Mg w w ([]) := Mg.start w
 refine qx (l := [(0, .agg (t.d.cells t.ts.length).toArray)]) Tryz.func11 rfl Tryz.ntmps11 rfl rfl ?_
 intro Q hret hnorm hP a A
 refine wsk fun K1 hK1 => wrl (zv (vs := (t.d.cells t.ts.length)) (t := 30) A M rfl rfl rfl pg (qt rfl rfl) (by decide) ?_)
 intro g2 w3 M a A
 refine zv (vs := (qg.d.cells qg.ts.length)) (t := 30) A M rfl rfl rfl pg (qp (z := .agg (qg.d.cells qg.ts.length).toArray) (by kernel_rfl) rfl) (by decide) ?_
 intro g4 w5 M a A
 refine sda A λa A↦?_
 refine qa (hK1 _ _ (wsk fun K6 hK6 => wrl (sdo A (za M LiG_isS_30 rfl 1 rfl (cs := (t.d.cells t.ts.length)) rfl rfl) λa A↦?_)))
 rcases tf (qm qi t.tr) with hb7 | hb7
 ·
  rcases tf ((zw t.tr).isSome) with hb9 | hb9
  ·
   refine sct A (ef rfl rfl) (zga M.bel ht (by omega) (hT.below M.bel) hb7 hb9) ?_
   rintro _ w11 ⟨so7, ca7, ys, rfl, ⟨hy1, hy2, hy3⟩, hM7⟩
   have hyb := xv hy1
   replace M : Mg w w11 (.row 30 11 (.slice so7 ys.length ca7) ys.length (cellsOf ys) :: .obj g4 (.cells (qg.d.cells qg.ts.length).toArray 30) :: .obj g2 (.cells (t.d.cells t.ts.length).toArray 30) :: []) := (M.both hM7 (qs (by simp) (qs (by simp) (zh zm))) (qs (by simp) (zh zm)))
   refine ⟨_, rfl, ?_⟩
   intro a A
   refine sdm A λa A↦?_
   iterate 2 refine sdo A (qz (vs := [.slice so7 ys.length ca7, .int .i64 0]) rfl rfl) λa A↦?_
   iterate 2 refine sda A λa A↦?_
   refine qa (hK6 _ _ (wsk fun K12 hK12 => wsk fun K13 hK13 => wrl (sdm A λa A↦?_)))
   refine sdo (v := .bool false) A (qh rfl rfl (fun w => by kernel_rfl)) λa A↦?_
   refine qa (hK13 _ _ (wp_cond_false (A.ev rfl) ?_))
   refine wp_skip (hK12 _ _ (wsk fun K14 hK14 => wrl (sdm A λa A↦?_)))
   refine sct A (ef rfl rfl) (zyf (by omega) M) ?_
   rintro _ w15 ⟨rfl, hM8⟩
   replace M : Mg w w15 (.row 30 11 (.slice so7 ys.length ca7) ys.length (cellsOf ys.reverse) :: .obj g4 (.cells (qg.d.cells qg.ts.length).toArray 30) :: .obj g2 (.cells (t.d.cells t.ts.length).toArray 30) :: []) := hM8
   refine ⟨_, rfl, ?_⟩
   intro a A
   refine qa (hK14 _ _ (wsk fun K16 hK16 => wrl (sdm A λa A↦?_)))
   have hlt17 := (Ck.lt (M.has 1 rfl) g4 rfl).2
   have hlt18 := (Ck.lt (M.has 2 rfl) g2 rfl).2
   have hzt2 := M.bel.size
   refine sct A (ef rfl rfl) (zgd (jx (M.has 0 rfl)).1 (fun t ht => Dt.keep M.bel _ (hy2 t (List.mem_reverse.1 ht))) (by rw [List.map_reverse, qtf]; omega)) ?_
   rintro _ w20 ⟨t2, rfl, ⟨hrt2, hat2, htt2⟩, hb19⟩
   replace M := M.call hb19
   refine ⟨_, rfl, ?_⟩
   intro a A
   refine xr (us := (t2.d.cells t2.ts.length)) (L' := (.row 30 11 (.slice so7 ys.length ca7) ys.length (cellsOf ys.reverse) :: .obj g4 (.cells (t2.d.cells t2.ts.length).toArray 30) :: .obj g2 (.cells (t.d.cells t.ts.length).toArray 30) :: [])) A M rfl rfl (qy rfl rfl rfl (by kernel_rfl) M 1 rfl rfl rfl) 1 rfl rfl rfl ?_
   intro w21 M hK22
   replace hrt2 := Dt.kept hK22 _ hrt2 (Dt.at_mono (fun b hb => by rintro rfl; omega) _ hat2)
   refine sda A λa A↦?_
   refine qa (hK16 _ _ (wp_ret (hret _ _ (en2 A rfl (zq M LiG_isS_30 rfl 1 rfl (cs := [.int .i64 t2.d.k, .int .i64 t2.d.n, .bool t2.d.y.q.b1, .slice t2.d.y.o1 t2.d.y.q.t1.length t2.d.y.c1, .slice t2.d.y.o2 t2.d.y.q.q1.length t2.d.y.c2, .bool t2.d.y.q.b2, .slice t2.d.y.o3 t2.d.y.q.t2.length t2.d.y.c3, .slice t2.d.y.o4 t2.d.y.q.q2.length t2.d.y.c4, .string t2.d.s, .slice t2.d.ro t2.d.rl.length t2.d.rc, .slice t2.d.lo t2.ts.length t2.d.lc]) rfl rfl) (qe rfl) ?_))))
   exact ⟨t2, 0, rfl, ⟨hrt2, Dt.at_mono (fun b hb => Nat.le_trans hzt2 hb) _ hat2, by unfold zfj; rw [if_neg (by rw [hb7]; decide), hy1]; rw [htt2, List.map_reverse]⟩, M.bel⟩
  ·
   refine gcl A M (ef rfl rfl) (zgb M.bel ht (by omega) (hT.below M.bel) hb7 hb9) fun w24 hb23 M a A => ?_
   refine sdm A λa A↦?_
   iterate 2 refine sdo A (qz (vs := [.slice none 0 0, .int .i64 10]) rfl rfl) λa A↦?_
   iterate 2 refine sda A λa A↦?_
   refine qa (hK6 _ _ (wsk fun K25 hK25 => wsk fun K26 hK26 => wrl (sdm A λa A↦?_)))
   refine sdo (v := .bool true) A (qh rfl rfl (fun w => by kernel_rfl)) λa A↦?_
   refine qa (hK26 _ _ (wp_cond_true (A.ev rfl) ?_))
   refine wsk fun K27 hK27 => wrl (sdo (v := .agg (qg.d.cells qg.ts.length).toArray) A (zg rfl (fun w => by kernel_rfl)) λa A↦?_)
   refine sdm A λa A↦?_
   refine zl (us := (qg.d.cells qg.ts.length)) (L' := (.obj g4 (.cells (qg.d.cells qg.ts.length).toArray 30) :: .obj g2 (.cells (t.d.cells t.ts.length).toArray 30) :: [])) A M rfl rfl (qy rfl rfl rfl (by kernel_rfl) M 0 rfl rfl rfl) 0 rfl rfl rfl ?_
   intro w28 M
   refine sda A λa A↦?_
   refine qa (hK27 _ _ (wp_ret (hret _ _ (en2 A rfl (zq M LiG_isS_30 rfl 0 rfl (cs := [.int .i64 0, .int .i64 0, .bool false, .slice none 0 0, .slice none 0 0, .bool false, .slice none 0 0, .slice none 0 0, .string (⟨#[]⟩), .slice none 0 0, .slice none 0 0]) rfl rfl) (qe rfl) ?_))))
   exact ⟨qg, 10, rfl, ⟨jk _, xu _, by unfold zfj; rw [if_neg (by rw [hb7]; decide), kv hb9, jj]⟩, M.bel⟩
 ·
  refine gcl A M (ef rfl rfl) (zoe M.bel ht (by omega) (hT.below M.bel) hb7) fun w30 hb29 M a A => ?_
  refine sdm A λa A↦?_
  iterate 2 refine sdo A (qz (vs := [.slice none 0 0, .int .i64 2]) rfl rfl) λa A↦?_
  iterate 2 refine sda A λa A↦?_
  refine qa (hK6 _ _ (wsk fun K31 hK31 => wsk fun K32 hK32 => wrl (sdm A λa A↦?_)))
  refine sdo (v := .bool true) A (qh rfl rfl (fun w => by kernel_rfl)) λa A↦?_
  refine qa (hK32 _ _ (wp_cond_true (A.ev rfl) ?_))
  refine wsk fun K33 hK33 => wrl (sdo (v := .agg (qg.d.cells qg.ts.length).toArray) A (zg rfl (fun w => by kernel_rfl)) λa A↦?_)
  refine sdm A λa A↦?_
  refine zl (us := (qg.d.cells qg.ts.length)) (L' := (.obj g4 (.cells (qg.d.cells qg.ts.length).toArray 30) :: .obj g2 (.cells (t.d.cells t.ts.length).toArray 30) :: [])) A M rfl rfl (qy rfl rfl rfl (by kernel_rfl) M 0 rfl rfl rfl) 0 rfl rfl rfl ?_
  intro w34 M
  refine sda A λa A↦?_
  refine qa (hK33 _ _ (wp_ret (hret _ _ (en2 A rfl (zq M LiG_isS_30 rfl 0 rfl (cs := [.int .i64 0, .int .i64 0, .bool false, .slice none 0 0, .slice none 0 0, .bool false, .slice none 0 0, .slice none 0 0, .string (⟨#[]⟩), .slice none 0 0, .slice none 0 0]) rfl rfl) (qe rfl) ?_))))
  exact ⟨qg, 2, rfl, ⟨jk _, xu _, by unfold zfj; rw [if_pos hb7, jj]⟩, M.bel⟩
end Go.Proofs.YtipikhcmieboaaaGreatDoor.G
namespace Go.Proofs.YtipikhcmieboaaaGreatDoor
open Go.RowKit
set_option linter.unusedVariables false
set_option linter.unusedSimpArgs false
set_option maxRecDepth 100000
theorem EqO_fld_27_0 : FieldAt Tryz.prog 27 0 0 := ⟨_, _, Tryz.underlying27, rfl, rfl, by kernel_rfl⟩
theorem EqO_fld_27_1 : FieldAt Tryz.prog 27 1 3 := ⟨_, _, Tryz.underlying27, rfl, rfl, by kernel_rfl⟩
theorem EqO_isS_25 : IsS Tryz.prog 25 3 := ⟨⟨_, Tryz.underlying25⟩, by kernel_rfl⟩
theorem zgf {w : World} {p q : Q6} {a1 a2 a3 a4 : Option Addr} {ac1 ac2 ac3 ac4 : Nat} (ha : Nm w p a1 ac1 a2 ac2 a3 ac3 a4 ac4) (hl : LenQ p) {u1 u2 u3 u4 : Option Addr} {uc1 uc2 uc3 uc4 : Nat} (hu : Nm w q u1 uc1 u2 uc2 u3 uc3 u4 uc4) (hm : LenQ q) {r : Bool} (hr : (xp p.b1 p.t1 p.q1 q.b1 q.t1 q.q1 && xp p.b2 p.t2 p.q2 q.b2 q.t2 q.q2) = r) : Calls Tryz.prog 43 #[qed p a1 ac1 a2 ac2 a3 ac3 a4 ac4, qed q u1 uc1 u2 uc2 u3 uc3 u4 uc4] w fun e w' => e = .returned (.bool r) ∧ Below w.heap.size w w' := by
 have S : St w w [] [(u4, q.q2), (u3, q.t2), (u2, q.q1), (u1, q.t1), (a4, p.q2), (a3, p.t2), (a2, p.q1), (a1, p.t1)] [] := ((((((((St.start w).addR ha.s1.rd).addR ha.s2.rd).addR ha.s3.rd).addR ha.s4.rd).addR hu.s1.rd).addR hu.s2.rd).addR hu.s3.rd).addR hu.s4.rd
 refine qx (l := [(0, .agg #[.bool p.b1, .slice a1 p.t1.length ac1, .slice a2 p.q1.length ac2, .bool p.b2, .slice a3 p.t2.length ac3, .slice a4 p.q2.length ac4]), (1, .agg #[.bool q.b1, .slice u1 q.t1.length uc1, .slice u2 q.q1.length uc2, .bool q.b2, .slice u3 q.t2.length uc3, .slice u4 q.q2.length uc4])]) Tryz.func43 rfl Tryz.ntmps43 rfl rfl ?_
 intro Q hret hnorm hP a A
 refine wsk fun K1 hK1 => wrl (ja A S rfl rfl rfl pg (qt rfl rfl) rfl ?_)
 intro g2 w3 S a A
 refine ja A S rfl rfl rfl pg (qt rfl rfl) rfl ?_
 intro g4 w5 S a A
 refine sda A λa A↦?_
 refine qa (hK1 _ _ (wsk fun K6 hK6 => wrl (sdo (v := .pointer (some ⟨g2, 0, none⟩)) A (qb EqO_fld_27_0 rfl rfl) λa A↦?_)))
 refine sdo A (zu S EqO_isS_25 rfl 1 rfl (cs := [.bool p.b1, .slice a1 p.t1.length ac1, .slice a2 p.q1.length ac2]) rfl rfl) λa A↦?_
 refine sdo (v := .pointer (some ⟨g4, 0, none⟩)) A (qb EqO_fld_27_0 rfl rfl) λa A↦?_
 refine sdo A (zu S EqO_isS_25 rfl 0 rfl (cs := [.bool q.b1, .slice u1 q.t1.length uc1, .slice u2 q.q1.length uc2]) rfl rfl) λa A↦?_
 rcases tf (xp p.b1 p.t1 p.q1 q.b1 q.t1 q.q1) with hb7 | hb7
 ·
  refine sct A (ef rfl rfl) (ul ⟨(S.rd 7 rfl), ha.s1.nil, ha.s1.cap⟩ ⟨(S.rd 6 rfl), ha.s2.nil, ha.s2.cap⟩ ⟨(S.rd 3 rfl), hu.s1.nil, hu.s1.cap⟩ ⟨(S.rd 2 rfl), hu.s2.nil, hu.s2.cap⟩ hl.l1 hl.l2 hm.l1 hm.l2 hb7) ?_
  rintro _ w9 ⟨rfl, hb8⟩
  replace S := S.call hb8
  refine ⟨_, rfl, ?_⟩
  intro a A
  refine sdm A λa A↦?_
  refine sdo (v := .pointer (some ⟨g2, 3, none⟩)) A (qb EqO_fld_27_1 rfl rfl) λa A↦?_
  refine sdo A (zu S EqO_isS_25 rfl 1 rfl (cs := [.bool p.b2, .slice a3 p.t2.length ac3, .slice a4 p.q2.length ac4]) rfl rfl) λa A↦?_
  refine sdo (v := .pointer (some ⟨g4, 3, none⟩)) A (qb EqO_fld_27_1 rfl rfl) λa A↦?_
  refine sdo A (zu S EqO_isS_25 rfl 0 rfl (cs := [.bool q.b2, .slice u3 q.t2.length uc3, .slice u4 q.q2.length uc4]) rfl rfl) λa A↦?_
  rcases tf (xp p.b2 p.t2 p.q2 q.b2 q.t2 q.q2) with hb10 | hb10
  ·
   refine sct A (ef rfl rfl) (ul ⟨(S.rd 5 rfl), ha.s3.nil, ha.s3.cap⟩ ⟨(S.rd 4 rfl), ha.s4.nil, ha.s4.cap⟩ ⟨(S.rd 1 rfl), hu.s3.nil, hu.s3.cap⟩ ⟨(S.rd 0 rfl), hu.s4.nil, hu.s4.cap⟩ hl.l3 hl.l4 hm.l3 hm.l4 hb10) ?_
   rintro _ w12 ⟨rfl, hb11⟩
   replace S := S.call hb11
   refine ⟨_, rfl, ?_⟩
   intro a A
   refine sdk (v := .bool true) A λa A↦?_
   refine sda A λa A↦?_
   refine qa (hK6 _ _ (wp_ret (hret _ _ (en1 A rfl (qe rfl) ?_))))
   subst hr
   exact ⟨by rw [hb7, hb10]; try rfl, S.bel⟩
  ·
   refine sct A (ef rfl rfl) (ul ⟨(S.rd 5 rfl), ha.s3.nil, ha.s3.cap⟩ ⟨(S.rd 4 rfl), ha.s4.nil, ha.s4.cap⟩ ⟨(S.rd 1 rfl), hu.s3.nil, hu.s3.cap⟩ ⟨(S.rd 0 rfl), hu.s4.nil, hu.s4.cap⟩ hl.l3 hl.l4 hm.l3 hm.l4 hb10) ?_
   rintro _ w14 ⟨rfl, hb13⟩
   replace S := S.call hb13
   refine ⟨_, rfl, ?_⟩
   intro a A
   refine sdk (v := .bool false) A λa A↦?_
   refine sda A λa A↦?_
   refine qa (hK6 _ _ (wp_ret (hret _ _ (en1 A rfl (qe rfl) ?_))))
   subst hr
   exact ⟨by rw [hb7, hb10]; try rfl, S.bel⟩
 ·
  refine sct A (ef rfl rfl) (ul ⟨(S.rd 7 rfl), ha.s1.nil, ha.s1.cap⟩ ⟨(S.rd 6 rfl), ha.s2.nil, ha.s2.cap⟩ ⟨(S.rd 3 rfl), hu.s1.nil, hu.s1.cap⟩ ⟨(S.rd 2 rfl), hu.s2.nil, hu.s2.cap⟩ hl.l1 hl.l2 hm.l1 hm.l2 hb7) ?_
  rintro _ w16 ⟨rfl, hb15⟩
  replace S := S.call hb15
  refine ⟨_, rfl, ?_⟩
  intro a A
  refine sdm A λa A↦?_
  iterate 5 refine qr A rfl rfl rfl λa A↦?_
  refine sdk (v := .bool false) A λa A↦?_
  refine sda A λa A↦?_
  refine qa (hK6 _ _ (wp_ret (hret _ _ (en1 A rfl (qe rfl) ?_))))
  subst hr
  exact ⟨by rw [hb7]; try rfl, S.bel⟩

end Go.Proofs.YtipikhcmieboaaaGreatDoor
namespace Go.Proofs.YtipikhcmieboaaaGreatDoor.G
open Go.RowKit
set_option linter.unusedVariables false
set_option linter.unusedSimpArgs false
/-! ### The same trees, by the document -/
mutual
def js : Tr → Tr → Bool
  | .mk k n q s rl ts, u => (decide (k = u.k) && (decide (n = u.n) && (decide (s = u.s) && (decide (rl = u.rl) && (xp q.b1 q.t1 q.q1 u.q.b1 u.q.t1 u.q.q1 && xp q.b2 q.t2 q.q2 u.q.b2 u.q.t2 u.q.q2))))) && (decide (ts.length = u.ts.length) && yg ts u.ts)
def yg : List Tr → List Tr → Bool
  | [], _ => true
  | _ :: _, [] => true
  | t :: ts, u :: us => js t u && yg ts us
end
theorem zog {b b' : Bool} {t q t' q' : List Nat} : xp b t q b' t' q' = true ↔ b = b' ∧ t = t' ∧ q = q' := by
  unfold xp
  simp
theorem zth (k n : Int) (q : Q6) (s : ByteArray) (rl : List UInt8) (ts : List Tr) (k' n' : Int) (q' : Q6) (s' : ByteArray) (rl' : List UInt8) (ts' : List Tr) : js (.mk k n q s rl ts) (.mk k' n' q' s' rl' ts') = true ↔ k = k' ∧ n = n' ∧ q = q' ∧ s = s' ∧ rl = rl' ∧ ts.length = ts'.length ∧ yg ts ts' = true := by
  rw [js]
  show ((decide (k = k') && (decide (n = n') && (decide (s = s') && (decide (rl = rl') && (xp q.b1 q.t1 q.q1 q'.b1 q'.t1 q'.q1 && xp q.b2 q.t2 q.q2 q'.b2 q'.t2 q'.q2))))) && (decide (ts.length = ts'.length) && yg ts ts')) = true ↔ _
  simp only [Bool.and_eq_true, decide_eq_true_eq, zog]
  constructor
  · rintro ⟨⟨a, b, c, d, ⟨e1, e2, e3⟩, f1, f2, f3⟩, g, h⟩
    refine ⟨a, b, ?_, c, d, g, h⟩
    cases q; cases q'
    simp_all
  · rintro ⟨a, b, c, d, e, f, g⟩
    subst c
    exact ⟨⟨a, b, d, e, ⟨rfl, rfl, rfl⟩, rfl, rfl, rfl⟩, f, g⟩
theorem zbd {ts : List Tr} (h : ∀ t ∈ ts, ∀ u, js t u = true ↔ t = u) : ∀ us : List Tr, ts.length = us.length → (yg ts us = true ↔ ts = us) := by
  induction ts with
  | nil =>
    intro us hl
    cases us with
    | nil => simp [yg]
    | cons u us => simp at hl
  | cons t ts ih =>
    intro us hl
    cases us with
    | nil => simp at hl
    | cons u us =>
      rw [yg, Bool.and_eq_true, h t List.mem_cons_self u, ih (fun x hx => h x (List.mem_cons_of_mem _ hx)) us (by simpa using hl)]
      simp
theorem qcj : ∀ t u : Tr, js t u = true ↔ t = u := by
  refine Tr.indT fun k n q s rl ts ih u => ?_
  obtain ⟨k', n', q', s', rl', ts'⟩ := u
  rw [zth]
  constructor
  · rintro ⟨a, b, c, d, e, f, g⟩
    rw [a, b, c, d, e, (zbd ih ts' f).1 g]
  · intro h
    cases h
    exact ⟨rfl, rfl, rfl, rfl, rfl, rfl, (zbd ih ts rfl).2 rfl⟩
theorem zbe {ts us : List Dt} {i : Nat} {t u : Dt} (hi : ts[i]? = some t) (hj : us[i]? = some u) : yg ((ts.map Dt.tr).drop i) ((us.map Dt.tr).drop i) = (js t.tr u.tr && yg ((ts.map Dt.tr).drop (i + 1)) ((us.map Dt.tr).drop (i + 1))) := by
  rw [kk hi, kk hj, yg]
theorem zoh {ts us : List Dt} {i : Nat} (h : ¬ i < ts.length) : yg ((ts.map Dt.tr).drop i) ((us.map Dt.tr).drop i) = true := by
  rw [yq h, yg]
theorem zbf (p r : Dt) : js p.tr r.tr = ((decide (p.d.k = r.d.k) && (decide (p.d.n = r.d.n) && (decide (p.d.s = r.d.s) && (decide (p.d.rl = r.d.rl) && (xp p.d.y.q.b1 p.d.y.q.t1 p.d.y.q.q1 r.d.y.q.b1 r.d.y.q.t1 r.d.y.q.q1 && xp p.d.y.q.b2 p.d.y.q.t2 p.d.y.q.q2 r.d.y.q.b2 r.d.y.q.t2 r.d.y.q.q2))))) && (decide (p.ts.length = r.ts.length) && yg (p.ts.map Dt.tr) (r.ts.map Dt.tr))) := by
  rw [Dt.tr_eta p, Dt.tr_eta r, js, List.length_map]
  show _ = (_ && (decide (p.ts.length = r.ts.length) && _))
  rw [show (Tr.mk r.d.k r.d.n r.d.y.q r.d.s r.d.rl (r.ts.map Dt.tr)).ts.length = r.ts.length from List.length_map _]
  rfl
def SQ2 (p r : Dt) : Bool := xp p.d.y.q.b1 p.d.y.q.t1 p.d.y.q.q1 r.d.y.q.b1 r.d.y.q.t1 r.d.y.q.q1 && xp p.d.y.q.b2 p.d.y.q.t2 p.d.y.q.q2 r.d.y.q.b2 r.d.y.q.t2 r.d.y.q.q2
theorem qbi {p r : Dt} (h : p.d.k ≠ r.d.k ∨ p.d.n ≠ r.d.n ∨ p.d.s ≠ r.d.s ∨ p.d.rl ≠ r.d.rl ∨ p.ts.length ≠ r.ts.length ∨ SQ2 p r = false) : js p.tr r.tr = false := by
  rw [zbf]
  unfold SQ2 at h
  rcases h with h | h | h | h | h | h <;> simp [h]
theorem zti {p r : Dt} (h1 : p.d.k = r.d.k) (h2 : p.d.n = r.d.n) (h3 : p.d.s = r.d.s) (h4 : p.d.rl = r.d.rl) (h5 : p.ts.length = r.ts.length) (h6 : SQ2 p r = true) : js p.tr r.tr = yg (p.ts.map Dt.tr) (r.ts.map Dt.tr) := by
  rw [zbf]
  unfold SQ2 at h6
  rw [decide_eq_true h1, decide_eq_true h2, decide_eq_true h3, decide_eq_true h4, decide_eq_true h5, h6]
  simp
theorem zoi {a b : List UInt8} (hl : a.length = b.length) (h : ∀ j, j < a.length → a.getD j 0 = b.getD j 0) : a = b := by
  apply List.ext_getElem hl
  intro j h1 h2
  have := h j h1
  rwa [show a.getD j 0 = a[j] from by simp [List.getD, List.getElem?_eq_getElem h1], show b.getD j 0 = b[j] from by simp [List.getD, List.getElem?_eq_getElem h2]] at this
theorem jdf {a b : List UInt8} {i : Nat} (h : (((a.getD i 0).toNat : Nat) : Int) ≠ (((b.getD i 0).toNat : Nat) : Int)) : a ≠ b := fun e => h (by rw [e])
theorem jdg {a b : UInt8} (h : ((a.toNat : Nat) : Int) = ((b.toNat : Nat) : Int)) : a = b := UInt8.toNat_inj.1 (by omega)
set_option maxRecDepth 100000
theorem TrU_is1_21 : Is1 Tryz.prog 21 := ⟨⟨_, Tryz.underlying21, rfl⟩, by kernel_rfl⟩
theorem TrU_is1_5 : Is1 Tryz.prog 5 := ⟨⟨_, Tryz.underlying5, rfl⟩, by kernel_rfl⟩
open Go.Lib
theorem qki {f p : Nat} {l : List UInt8} (hl : l ≠ []) : vv (f + 1) p l = ((p : Int), uR (decodeL l).1 (decodeL l).2) :: vv f (p + (decodeL l).2) (l.drop (decodeL l).2) := by
 conv => lhs; unfold vv
 rw [if_neg hl]
theorem qhi {w : World} {so : Option Addr} {l : List UInt8} {i : Nat} (h : Rb w so l) (hi : i < l.length) : ∃ b off, so = some ⟨b, off, none⟩ ∧ b < w.heap.size ∧ ∀ j, j < l.length → w.cell? ⟨b, off + j, none⟩ = some (.int .u8 (((l.getD j 0).toNat : Nat) : Int)) :=
 h.pos (fun k => by rw [k] at hi; exact absurd hi (Nat.not_lt_zero _))
/-- Units as the document keeps them: a character, whether there is none, its place. -/
def jy (us : List (Int × Int)) : List Value := us.flatMap fun u => if u.2 = -1 then [.int .i32 0, .bool true, .int .i64 u.1] else [.int .i32 u.2, .bool false, .int .i64 u.1]
theorem qxf {x : Int} (i : Nat) (m : Int) (hm : m = ((2 ^ i - 1 : Nat) : Int)) (hs : m ≤ 255) (h0 : 0 ≤ x) (h1 : x ≤ 255) : bits .and .u8 x m = x % ((2 ^ i : Nat) : Int) := by
 obtain ⟨n, rfl⟩ : ∃ n : Nat, x = (n : Int) := ⟨x.toNat, by omega⟩
 subst hm
 have h2 : n &&& (2 ^ i - 1) = n % 2 ^ i := Nat.and_two_pow_sub_one_eq_mod n i
 have e : (BitVec.ofInt IntKind.u8.bits (n : Int) &&& BitVec.ofInt IntKind.u8.bits (((2 ^ i - 1 : Nat)) : Int)).toNat = n % 2 ^ i := by
  rw [← h2, BitVec.ofInt_natCast, BitVec.ofInt_natCast, BitVec.toNat_and, BitVec.toNat_ofNat, BitVec.toNat_ofNat]
  show n % 256 &&& (2 ^ i - 1) % 256 = _
  rw [Nat.mod_eq_of_lt (by omega), Nat.mod_eq_of_lt (by omega)]
 show IntKind.u8.wrap ((BitVec.ofInt IntKind.u8.bits (n : Int) &&& BitVec.ofInt IntKind.u8.bits (((2 ^ i - 1 : Nat)) : Int)).toNat : Int) = _
 rw [e]
 have := Nat.mod_le n (2 ^ i)
 exact (in_u8 (by omega) (by omega)).trans (Int.natCast_emod n (2 ^ i))
theorem jcc {c x : Int} (h0 : 0 ≤ c) (h1 : c ≤ 33554431) (h2 : 0 ≤ x) (h3 : x ≤ 63) : bits .or .i32 (c * 64) x = c * 64 + x := by
 obtain ⟨a, rfl⟩ : ∃ a : Nat, c = (a : Int) := ⟨c.toNat, by omega⟩
 obtain ⟨n, rfl⟩ : ∃ n : Nat, x = (n : Int) := ⟨x.toNat, by omega⟩
 have := Nat.two_pow_add_eq_or_of_lt (i := 6) (b := n) (by omega) a
 rw [show (2 : Nat) ^ 6 = 64 from rfl] at this
 have e := jae (64 * a) n (by omega) (by omega)
 rw [show (((64 * a : Nat)) : Int) = (a : Int) * 64 from by omega] at e
 rw [e, ← this]
 omega
/-- The units from a place on. -/
def qkj (l : List UInt8) (i : Nat) : List (Int × Int) := vv (l.length - i) i (l.drop i)
theorem zgg (l : List UInt8) : qkj l 0 = ju l := by unfold qkj ju; rw [List.drop_zero, Nat.sub_zero]
theorem zgh {l : List UInt8} {i : Nat} (h : ¬ i < l.length) : qkj l i = [] := by unfold qkj; rw [show l.length - i = 0 from by omega]; rfl
theorem qoi {l : List UInt8} {i r q : Nat} (h : i < l.length) (e : decodeN (l.length - i) (l.getD i 0).toNat (l.getD (i + 1) 0).toNat (l.getD (i + 2) 0).toNat (l.getD (i + 3) 0).toNat = (r, q)) : qkj l i = ((i : Int), uR r q) :: qkj l (i + q) := by
 have hne : l.drop i ≠ [] := fun k => by
  have := congrArg List.length k
  rw [List.length_drop, List.length_nil] at this
  omega
 have hd : decodeL (l.drop i) = (r, q) := by
  rw [decodeL_N, qag, qag, qag, qag, List.length_drop]
  exact e
 have hw := ug _ hne
 rw [hd, List.length_drop] at hw
 simp only at hw
 unfold qkj
 obtain ⟨m, hm⟩ : ∃ m, l.length - i = m + 1 := ⟨l.length - i - 1, by omega⟩
 rw [hm, qki hne, hd, List.drop_drop]
 simp only
 rw [qkb m (l.length - (i + q)) _ _ (by rw [List.length_drop]; omega) (by rw [List.length_drop]; omega)]
/-- What the first byte of a character says. -/
def LeadU (x n : Nat) (r : Int) : Prop := (x < 128 ∧ n = 1 ∧ r = x) ∨ (192 ≤ x ∧ x < 224 ∧ n = 2 ∧ r = x % 32) ∨ (224 ≤ x ∧ x < 240 ∧ n = 3 ∧ r = x % 16) ∨ (240 ≤ x ∧ x < 248 ∧ n = 4 ∧ r = x % 8) ∨ ((128 ≤ x ∧ x < 192 ∨ 248 ≤ x) ∧ n = 0 ∧ r = 0)
/-- The bytes behind it, so far. -/
def ContU (len i n : Nat) (b1 b2 b3 : Nat) (r : Int) (k : Nat) (rk : Int) (ok : Bool) : Prop := (ok = true ∧ 0 < n ∧ i + n ≤ len ∧ k ≤ n ∧ ((k = 1 ∧ rk = r) ∨ (k = 2 ∧ b1 / 64 = 2 ∧ rk = r * 64 + ((b1 % 64 : Nat) : Int)) ∨ (k = 3 ∧ b1 / 64 = 2 ∧ b2 / 64 = 2 ∧ rk = (r * 64 + ((b1 % 64 : Nat) : Int)) * 64 + ((b2 % 64 : Nat) : Int)) ∨ (k = 4 ∧ b1 / 64 = 2 ∧ b2 / 64 = 2 ∧ b3 / 64 = 2 ∧ rk = ((r * 64 + ((b1 % 64 : Nat) : Int)) * 64 + ((b2 % 64 : Nat) : Int)) * 64 + ((b3 % 64 : Nat) : Int)))) ∨
 (ok = false ∧ (¬ (0 < n ∧ i + n ≤ len) ∨ (1 < n ∧ b1 / 64 ≠ 2) ∨ (2 < n ∧ b2 / 64 ≠ 2) ∨ (3 < n ∧ b3 / 64 ≠ 2)))
def qfg (n : Nat) : Int := if n = 2 then 128 else if n = 3 then 2048 else 65536
theorem ztj {n : Nat} (h0 : 2 ≤ n) (h1 : n ≤ 4) : ([.int .i32 0, .int .i32 0, .int .i32 128, .int .i32 2048, .int .i32 65536] : List Value)[n * 1]? = some (.int .i32 (qfg n)) := by
 have h : n = 2 ∨ n = 3 ∨ n = 4 := by omega
 rcases h with rfl | rfl | rfl <;> rfl
theorem jcd {x n : Nat} {r : Int} (h : LeadU x n r) : n ≤ 4 ∧ 0 ≤ r ∧ r ≤ 127 ∧ (1 < n → r ≤ 31) := by unfold LeadU at h; omega
theorem zgi {len i n b1 b2 b3 : Nat} {r : Int} {ok : Bool} (h : ok = decide (0 < n ∧ i + n ≤ len)) : ContU len i n b1 b2 b3 r 1 r ok := by
 unfold ContU
 by_cases k : 0 < n ∧ i + n ≤ len
 ·
  exact .inl ⟨by rw [h, decide_eq_true k], k.1, k.2, by omega, .inl ⟨rfl, rfl⟩⟩
 ·
  exact .inr ⟨by rw [h, decide_eq_false k], .inl k⟩
theorem zoj {l : List UInt8} {i n k : Nat} {r rk : Int} (hn : n ≤ 4) (h : ContU l.length i n (l.getD (i + 1) 0).toNat (l.getD (i + 2) 0).toNat (l.getD (i + 3) 0).toNat r k rk true) (hk : k < n) : ContU l.length i n (l.getD (i + 1) 0).toNat (l.getD (i + 2) 0).toNat (l.getD (i + 3) 0).toNat r (k + 1) (rk * 64 + (((l.getD (i + k) 0).toNat : Nat) : Int) % 64) ((((l.getD (i + k) 0).toNat : Nat) : Int) / 64 == 2) := by
 rcases h with ⟨_, h1, h2, h3, h4⟩ | ⟨h, _⟩
 ·
  unfold ContU
  have e : k = 1 ∨ k = 2 ∨ k = 3 := by omega
  rcases e with rfl | rfl | rfl
  ·
   by_cases hb : (((l.getD (i + 1) 0).toNat : Nat) : Int) / 64 = 2
   ·
    exact .inl ⟨beq_iff_eq.2 hb, h1, h2, by omega, by omega⟩
   ·
    exact .inr ⟨beq_eq_false_iff_ne.2 hb, by omega⟩
  ·
   by_cases hb : (((l.getD (i + 2) 0).toNat : Nat) : Int) / 64 = 2
   ·
    exact .inl ⟨beq_iff_eq.2 hb, h1, h2, by omega, by omega⟩
   ·
    exact .inr ⟨beq_eq_false_iff_ne.2 hb, by omega⟩
  ·
   by_cases hb : (((l.getD (i + 3) 0).toNat : Nat) : Int) / 64 = 2
   ·
    exact .inl ⟨beq_iff_eq.2 hb, h1, h2, by omega, by omega⟩
   ·
    exact .inr ⟨beq_eq_false_iff_ne.2 hb, by omega⟩
 ·
  cases h
theorem yp {len i n b1 b2 b3 k : Nat} {r rk : Int} (h : ContU len i n b1 b2 b3 r k rk true) : 0 < n ∧ i + n ≤ len ∧ k ≤ n ∧ 1 ≤ k ∧ (0 ≤ r → r ≤ 31 → k ≤ 3 → 0 ≤ rk ∧ rk ≤ 200000) ∧ (0 ≤ r → r ≤ 31 → 0 ≤ rk ∧ rk ≤ 40000000) ∧ (k = 1 → rk = r) := by
 rcases h with ⟨_, h1, h2, h3, h4⟩ | ⟨h, _⟩
 ·
  omega
 ·
  cases h
def EndU (len i n : Nat) (b0 b1 b2 b3 : Nat) (rk : Int) (ok : Bool) : Prop := (ok = true ∧ decodeN (len - i) b0 b1 b2 b3 = (rk.toNat, n) ∧ uR rk.toNat n = rk ∧ 0 ≤ rk ∧ 1 ≤ n ∧ i + n ≤ len) ∨ (ok = false ∧ decodeN (len - i) b0 b1 b2 b3 = (65533, 1))
set_option maxHeartbeats 1000000 in
theorem zgj {len i n b0 b1 b2 b3 : Nat} {r rk : Int} (hi : i < len) (h0 : b0 < 256) (hL : LeadU b0 n r) (hC : ContU len i n b1 b2 b3 r n rk true) (h : n = 1 ∨ (qfg n ≤ rk ∧ rk ≤ 1114111 ∧ (rk < 55296 ∨ 57343 < rk))) : EndU len i n b0 b1 b2 b3 rk true := by
 rcases hC with ⟨_, h1, h2, h3, h4⟩ | ⟨h, _⟩
 ·
  unfold LeadU at hL
  unfold qfg at h
  have hn : n = 1 ∨ n = 2 ∨ n = 3 ∨ n = 4 := by omega
  refine .inl ⟨rfl, ?_, ?_, by rcases hn with rfl | rfl | rfl | rfl <;> omega, h1, h2⟩
  ·
   unfold decodeN
   rcases hn with rfl | rfl | rfl | rfl
   ·
    rw [if_pos (by omega)]
    exact Prod.ext (by show b0 = rk.toNat; omega) rfl
   ·
    simp only [if_true] at h
    rw [if_neg (by omega), if_pos (by omega), if_pos (by omega)]
    exact Prod.ext (by show (_ : Nat) = rk.toNat; omega) rfl
   ·
    rw [if_neg (show ¬ 3 = 2 by decide), if_pos rfl] at h
    rw [if_neg (by omega), if_neg (by omega), if_pos (by omega), if_pos (by omega)]
    exact Prod.ext (by show (_ : Nat) = rk.toNat; omega) rfl
   ·
    rw [if_neg (show ¬ 4 = 2 by decide), if_neg (show ¬ 4 = 3 by decide)] at h
    rw [if_neg (by omega), if_neg (by omega), if_neg (by omega), if_pos (by omega), if_pos (by omega)]
    exact Prod.ext (by show (_ : Nat) = rk.toNat; omega) rfl
  ·
   unfold uR
   rw [if_neg (by rcases hn with rfl | rfl | rfl | rfl <;> omega)]
   rcases hn with rfl | rfl | rfl | rfl <;> omega
 ·
  cases h
set_option maxHeartbeats 1000000 in
theorem qxg {len i n b0 b1 b2 b3 k : Nat} {r rk : Int} {ok : Bool} (hi : i < len) (h0 : b0 < 256) (hL : LeadU b0 n r) (hC : ContU len i n b1 b2 b3 r k rk ok) (hk : ok = true → k = n) (h : ok = false ∨ (n ≠ 1 ∧ ¬ (qfg n ≤ rk ∧ rk ≤ 1114111 ∧ (rk < 55296 ∨ 57343 < rk)))) : EndU len i n b0 b1 b2 b3 rk false := by
 refine .inr ⟨rfl, ?_⟩
 unfold LeadU at hL
 unfold decodeN
 rcases hC with ⟨hb, h1, h2, h3, h4⟩ | ⟨hb, h4⟩
 ·
  have hkn := hk hb
  subst hkn
  rcases h with h | ⟨h5, h6⟩
  ·
   rw [hb] at h; cases h
  ·
   have hn : k = 2 ∨ k = 3 ∨ k = 4 := by omega
   unfold qfg at h6
   rcases hn with rfl | rfl | rfl
   ·
    simp only [if_true] at h6
    rw [if_neg (by omega), if_pos (by omega), if_neg (by omega)]
   ·
    rw [if_neg (show ¬ 3 = 2 by decide), if_pos rfl] at h6
    rw [if_neg (by omega), if_neg (by omega), if_pos (by omega), if_neg (by omega)]
   ·
    rw [if_neg (show ¬ 4 = 2 by decide), if_neg (show ¬ 4 = 3 by decide)] at h6
    rw [if_neg (by omega), if_neg (by omega), if_neg (by omega), if_pos (by omega), if_neg (by omega)]
 ·
  rw [if_neg (by omega), if_neg (by omega), if_neg (by omega), if_neg (by omega)]
set_option maxHeartbeats 4000000 in
theorem zpa {w : World} {so : Option Addr} {cap : Nat} {l : List UInt8} (hb : Rb w so l) (hlen : l.length ≤ 4000000) : Calls Tryz.prog 117 #[.slice so l.length cap] w fun e w' => ∃ v, e = .returned v ∧ Mg w w' [.row 109 3 v (ju l).length (jy (ju l))] := by
 have M : Mg w w ([]) := Mg.start w
 refine qx (l := [(0, .slice so l.length cap)]) Tryz.func117 rfl Tryz.ntmps117 rfl rfl ?_
 intro Q hret hnorm hP a A
 refine wsk fun K1 hK1 => wrl (sda A λa A↦?_)
 refine qa (hK1 _ _ (wsk fun K2 hK2 => wrl (kj (e := 109) (sz := 3) (m := 0) (vs := []) A M rfl rfl rfl (zn rfl (by kernel_rfl)) rfl rfl (.inl (by decide)) ?_)))
 intro g3 w4 M a A
 refine sda A λa A↦?_
 refine qa (hK2 _ _ (wsk fun K5 hK5 => wsk fun K6 hK6 => wrl (sda A λa A↦?_)))
 refine qa (hK6 _ _ (wp_block (jd (fun m_ a w1 => ∃ (i : Nat) (acc : List (Int × Int)) (vo : Value), m_ = l.length - i ∧ (acc ++ qkj l i = ju l ∧ i ≤ l.length ∧ acc.length ≤ i) ∧ Sl a 122 [(0, .slice so l.length cap), (2, .slice none 0 0), (3, vo), (4, .int .i64 (((i : Nat) : Int))), (12, .slice (some ⟨g3, 0, none⟩) 0 0)] ∧ Mg w w1 (.row 109 3 (vo) acc.length ((jy acc)) :: [])) _ ⟨0, [], .slice (some ⟨g3, 0, none⟩) 0 0, rfl, ⟨by rw [zgg]; rfl, Nat.zero_le _, Nat.le_refl _⟩, A.keep _ ⟨rfl, rfl, rfl, rfl, rfl, trivial⟩, M⟩ ?_)))
 clear M A
 rintro m_ a w7 ⟨i, acc, vo, rfl, hinv9, A, M⟩ K8 hK8
 obtain ⟨hrun, hi9, hacc⟩ := hinv9
 refine wsk fun K10 hK10 => wsk fun K11 hK11 => wrl ?_
 iterate 2 refine sdm A λa A↦?_
 refine sdo A (zb Tryz.underlying28 rfl) λa A↦?_
 rcases tf (decide (((i : Nat) : Int) < ((l.length : Nat) : Int))) with hb12 | hb12
 ·
  have hb12' := of_decide_eq_true hb12
  refine sdc A zj hb12 λa A↦?_
  refine qa (hK11 _ _ (wp_cond_true (A.ev rfl) ?_))
  refine wp_skip (hK10 _ _ (wp_block (wsk fun K13 hK13 => wrl ?_)))
  iterate 2 refine sda A λa A↦?_
  refine qa (hK13 _ _ (wsk fun K14 hK14 => ?_))
  have hi8 : i < l.length := by omega
  refine wrl ?_
  iterate 2 refine sdm A λa A↦?_
  obtain ⟨bx, ox, hx1, hx2, hx3⟩ := qhi (i := i) hb (by omega)
  have hu9 := (l.getD (i) 0).toNat_lt
  refine sdo (v := .pointer (some ⟨bx, ox + (i), none⟩)) A (jn (k := i) Tryz.underlying28 (by kernel_rfl) rfl rfl rfl hx1 (by omega)) λa A↦?_
  refine sdo (v := .int .u8 ((((l.getD i 0).toNat : Nat) : Int))) A (qde M hx2 (hx3 (i) (by omega)) TrU_is1_5 rfl) λa A↦?_
  refine sda A λa A↦?_
  refine qa (hK14 _ _ (wsk fun K15 hK15 => ?_))
  have hJ16 : ∀ a w1, (∃ (n : Nat) (r : Int), (LeadU (l.getD i 0).toNat n r) ∧ Sl a 122 [(0, .slice so l.length cap), (2, .slice none 0 0), (3, vo), (4, .int .i64 (((i : Nat) : Int))), (5, .int .i64 (((n : Nat) : Int))), (6, .int .i32 r), (12, .slice (some ⟨g3, 0, none⟩) 0 0), (13, .int .i64 (((i : Nat) : Int))), (14, .slice so l.length cap), (15, .int .i64 (((l.length : Nat) : Int))), (16, .bool true), (17, .slice so l.length cap), (18, .int .i64 (((i : Nat) : Int))), (19, .pointer (some ⟨bx, ox + (i), none⟩)), (20, .int .u8 ((((l.getD i 0).toNat : Nat) : Int)))] ∧ Mg w w1 (.row 109 3 (vo) acc.length ((jy acc)) :: [])) → K15 a w1 := by
   clear A M
   rintro a w17 ⟨n, r, hf18, A, M⟩
   have hL := hf18
   have hn4 := jcd hL
   refine hK15 _ _ (wsk fun K19 hK19 => ?_)
   have hJ20 : ∀ a w1, (∃ (ok : Bool), (ok = decide (0 < n ∧ i + n ≤ l.length)) ∧ Sl a 122 [(0, .slice so l.length cap), (2, .slice none 0 0), (3, vo), (4, .int .i64 (((i : Nat) : Int))), (5, .int .i64 (((n : Nat) : Int))), (6, .int .i32 r), (8, .bool ok), (12, .slice (some ⟨g3, 0, none⟩) 0 0), (13, .int .i64 (((i : Nat) : Int))), (14, .slice so l.length cap), (15, .int .i64 (((l.length : Nat) : Int))), (16, .bool true), (17, .slice so l.length cap), (18, .int .i64 (((i : Nat) : Int))), (19, .pointer (some ⟨bx, ox + (i), none⟩)), (20, .int .u8 ((((l.getD i 0).toNat : Nat) : Int)))] ∧ Mg w w1 (.row 109 3 (vo) acc.length ((jy acc)) :: [])) → K19 a w1 := by
    clear A M
    rintro a w21 ⟨ok, hf22, A, M⟩
    have hok := hf22
    refine hK19 _ _ (wsk fun K23 hK23 => ?_)
    have hJ24 : ∀ a w1, (∃ (k : Nat) (rk : Int) (ok3 : Bool), (ContU l.length i n (l.getD (i + 1) 0).toNat (l.getD (i + 2) 0).toNat (l.getD (i + 3) 0).toNat r k rk ok3 ∧ (ok3 = true → k = n)) ∧ Sl a 122 [(0, .slice so l.length cap), (2, .slice none 0 0), (3, vo), (4, .int .i64 (((i : Nat) : Int))), (5, .int .i64 (((n : Nat) : Int))), (6, .int .i32 rk), (8, .bool ok3), (12, .slice (some ⟨g3, 0, none⟩) 0 0), (13, .int .i64 (((i : Nat) : Int))), (14, .slice so l.length cap), (15, .int .i64 (((l.length : Nat) : Int))), (16, .bool true), (17, .slice so l.length cap), (18, .int .i64 (((i : Nat) : Int))), (19, .pointer (some ⟨bx, ox + (i), none⟩)), (20, .int .u8 ((((l.getD i 0).toNat : Nat) : Int)))] ∧ Mg w w1 (.row 109 3 (vo) acc.length ((jy acc)) :: [])) → K23 a w1 := by
     clear A M
     rintro a w25 ⟨k, rk, ok3, hf26, A, M⟩
     obtain ⟨hC, hkn⟩ := hf26
     refine hK23 _ _ (wsk fun K27 hK27 => ?_)
     have hJ28 : ∀ a w1, (∃ (ok4 : Bool), (EndU l.length i n (l.getD i 0).toNat (l.getD (i + 1) 0).toNat (l.getD (i + 2) 0).toNat (l.getD (i + 3) 0).toNat rk ok4) ∧ Sl a 122 [(0, .slice so l.length cap), (2, .slice none 0 0), (3, vo), (4, .int .i64 (((i : Nat) : Int))), (5, .int .i64 (((n : Nat) : Int))), (6, .int .i32 rk), (8, .bool ok4), (12, .slice (some ⟨g3, 0, none⟩) 0 0), (13, .int .i64 (((i : Nat) : Int))), (14, .slice so l.length cap), (15, .int .i64 (((l.length : Nat) : Int))), (16, .bool true), (17, .slice so l.length cap), (18, .int .i64 (((i : Nat) : Int))), (19, .pointer (some ⟨bx, ox + (i), none⟩)), (20, .int .u8 ((((l.getD i 0).toNat : Nat) : Int)))] ∧ Mg w w1 (.row 109 3 (vo) acc.length ((jy acc)) :: [])) → K27 a w1 := by
      clear A M
      rintro a w29 ⟨ok4, hf30, A, M⟩
      have hE := hf30
      refine hK27 _ _ (wsk fun K31 hK31 => wrl (sdm A λa A↦?_))
      refine qa (hK31 _ _ ?_)
      refine wp_cond_split (t := ok4) (A.ev rfl) (fun hc32 => ?_) (fun hc32 => ?_)
      ·
       refine wsk fun K33 hK33 => wrl ?_
       iterate 3 refine sdm A λa A↦?_
       refine sdo (v := .agg #[.int .i32 rk, .bool false, .int .i64 (((i : Nat) : Int))]) A (zg rfl (fun w => by kernel_rfl)) λa A↦?_
       refine kj (e := 109) (sz := 3) (m := 1) (vs := [.int .i32 rk, .bool false, .int .i64 (((i : Nat) : Int))]) A M rfl rfl rfl (zn rfl (by kernel_rfl)) rfl rfl (.inl (by decide)) ?_
       intro g34 w35 M a A
       refine vz (e := 109) (sz := 3) (k := 1) (q := acc.length) (m := 1) (xs := (jy acc)) (news := [.int .i32 rk, .bool false, .int .i64 (((i : Nat) : Int))]) (L' := fun v36 => (.row 109 3 (.slice (some ⟨g34, 0, none⟩) 1 1) 1 ([.int .i32 rk, .bool false, .int .i64 (((i : Nat) : Int))]) :: .row 109 3 (v36) (acc.length + 1) ((jy acc) ++ [.int .i32 rk, .bool false, .int .i64 (((i : Nat) : Int))]) :: [])) A rfl rfl rfl (qri (z := .agg #[.int .i32 0, .bool false, .int .i64 0]) (sz := 3) (by_ := 16) Tryz.underlying106 (by kernel_rfl) rfl rfl rfl M 1 rfl rfl 0 rfl rfl rfl rfl (by omega)) (fun _ => rfl) ?_
       intro v36 w37 M a A
       refine sda A λa A↦?_
       refine qa (hK33 _ _ (wrl ?_))
       iterate 2 refine sdm A λa A↦?_
       refine sdo (v := .int .i64 (((i + n : Nat) : Int))) A (qh rfl rfl (ar_add ((in_i64 (by omega) (by omega)).trans (by omega)))) λa A↦?_
       refine sda A λa A↦?_
       refine qa ?_
       obtain ⟨hd, hr9, hrk, hn1, hn2⟩ : decodeN (l.length - i) (l.getD i 0).toNat (l.getD (i + 1) 0).toNat (l.getD (i + 2) 0).toNat (l.getD (i + 3) 0).toNat = (rk.toNat, n) ∧ uR rk.toNat n = rk ∧ 0 ≤ rk ∧ 1 ≤ n ∧ i + n ≤ l.length := by
        rcases hE with ⟨_, h⟩ | ⟨h, _⟩
        ·
         exact h
        ·
         rw [hc32] at h; cases h
       have hs9 := qoi hi8 hd
       rw [hr9] at hs9
       replace M : Mg w w37 [.row 109 3 v36 (acc ++ [((i : Int), rk)]).length (jy (acc ++ [((i : Int), rk)]))] := by
        have h9 := M.sub (cn (cc (.refl _)))
        have e9 : jy (acc ++ [((i : Int), rk)]) = jy acc ++ [.int .i32 rk, .bool false, .int .i64 (((i : Nat) : Int))] := by
         unfold jy
         rw [List.flatMap_append, List.flatMap_singleton]
         rw [if_neg (show ¬ _ = (-1 : Int) by simp only; omega)]
        rw [e9, List.length_append]
        exact h9
       refine hK8 _ _ _ (by omega) ⟨i + n, acc ++ [((i : Int), rk)], v36, rfl, ⟨by rw [← hrun, hs9, List.append_assoc]; rfl, by omega, by rw [List.length_append]; simp only [List.length_cons, List.length_nil]; omega⟩, A.keep _ ⟨rfl, rfl, rfl, rfl, rfl, trivial⟩, M⟩
      ·
       refine wsk fun K38 hK38 => wrl ?_
       iterate 2 refine sdm A λa A↦?_
       refine sdo (v := .agg #[.int .i32 0, .bool true, .int .i64 (((i : Nat) : Int))]) A (zg rfl (fun w => by kernel_rfl)) λa A↦?_
       refine kj (e := 109) (sz := 3) (m := 1) (vs := [.int .i32 0, .bool true, .int .i64 (((i : Nat) : Int))]) A M rfl rfl rfl (zn rfl (by kernel_rfl)) rfl rfl (.inl (by decide)) ?_
       intro g39 w40 M a A
       refine vz (e := 109) (sz := 3) (k := 1) (q := acc.length) (m := 1) (xs := (jy acc)) (news := [.int .i32 0, .bool true, .int .i64 (((i : Nat) : Int))]) (L' := fun v41 => (.row 109 3 (.slice (some ⟨g39, 0, none⟩) 1 1) 1 ([.int .i32 0, .bool true, .int .i64 (((i : Nat) : Int))]) :: .row 109 3 (v41) (acc.length + 1) ((jy acc) ++ [.int .i32 0, .bool true, .int .i64 (((i : Nat) : Int))]) :: [])) A rfl rfl rfl (qri (z := .agg #[.int .i32 0, .bool false, .int .i64 0]) (sz := 3) (by_ := 16) Tryz.underlying106 (by kernel_rfl) rfl rfl rfl M 1 rfl rfl 0 rfl rfl rfl rfl (by omega)) (fun _ => rfl) ?_
       intro v41 w42 M a A
       refine sda A λa A↦?_
       refine qa (hK38 _ _ (wrl (sdm A λa A↦?_)))
       refine sdo (v := .int .i64 (((i + 1 : Nat) : Int))) A (qh rfl rfl (ar_add ((in_i64 (by omega) (by omega)).trans (by omega)))) λa A↦?_
       refine sda A λa A↦?_
       refine qa ?_
       have hd : decodeN (l.length - i) (l.getD i 0).toNat (l.getD (i + 1) 0).toNat (l.getD (i + 2) 0).toNat (l.getD (i + 3) 0).toNat = (65533, 1) := by
        rcases hE with ⟨h, _⟩ | ⟨_, h⟩
        ·
         rw [hc32] at h; cases h
        ·
         exact h
       have hr9 : uR 65533 1 = -1 := by unfold uR; rw [if_pos ⟨rfl, by decide⟩]
       have hs9 := qoi hi8 hd
       rw [hr9] at hs9
       replace M : Mg w w42 [.row 109 3 v41 (acc ++ [((i : Int), (-1))]).length (jy (acc ++ [((i : Int), (-1))]))] := by
        have h9 := M.sub (cn (cc (.refl _)))
        have e9 : jy (acc ++ [((i : Int), (-1))]) = jy acc ++ [.int .i32 0, .bool true, .int .i64 (((i : Nat) : Int))] := by
         unfold jy
         rw [List.flatMap_append, List.flatMap_singleton]
         rw [if_pos rfl]
        rw [e9, List.length_append]
        exact h9
       refine hK8 _ _ _ (by omega) ⟨i + 1, acc ++ [((i : Int), (-1))], v41, rfl, ⟨by rw [← hrun, hs9, List.append_assoc]; rfl, by omega, by rw [List.length_append]; simp only [List.length_cons, List.length_nil]; omega⟩, A.keep _ ⟨rfl, rfl, rfl, rfl, rfl, trivial⟩, M⟩
     refine wsk fun K43 hK43 => wrl ?_
     iterate 2 refine sdm A λa A↦?_
     rcases ok3 with _ | _
     ·
      iterate 2 refine qr A rfl rfl rfl λa A↦?_
      refine sdk (v := .bool false) A λa A↦?_
      refine qa (hK43 _ _ (wp_cond_false (A.ev rfl) ?_))
      refine wp_skip ?_
      replace M : Mg w w25 (.row 109 3 (vo) acc.length ((jy acc)) :: []) := by
       have h9 := M.sub (cc (.refl _))
       exact h9
      exact hJ28 _ _ ⟨false, qxg hi8 ((l.getD i 0).toNat_lt) hL hC hkn (.inl rfl), A.keep _ (by repeat' constructor), M⟩
     ·
      refine sdm A λa A↦?_
      rcases tf (decide (1 < ((n : Nat) : Int))) with hb44 | hb44
      ·
       have hb44' := of_decide_eq_true hb44
       refine sdc A jq hb44 λa A↦?_
       refine sdk (v := .bool true) A λa A↦?_
       refine qa (hK43 _ _ (wp_cond_true (A.ev rfl) ?_))
       refine wsk fun K45 hK45 => wrl (kj (e := 21) (sz := 1) (m := 5) (vs := [.int .i32 0, .int .i32 0, .int .i32 128, .int .i32 2048, .int .i32 65536]) A M rfl rfl rfl (zn rfl (by kernel_rfl)) rfl rfl (.inl (by decide)) ?_)
       intro g46 w47 M a A
       refine sda A λa A↦?_
       refine qa (hK45 _ _ ?_)
       have hc9 := yp hC
       refine wrl ?_
       iterate 3 refine sdm A λa A↦?_
       refine sdo (v := .pointer (some ⟨g46, n * 1, none⟩)) A (jr (k := n) Tryz.underlying133 (by kernel_rfl) rfl rfl rfl (by omega)) λa A↦?_
       refine sdo (v := .int .i32 (qfg n)) A (qvh M 0 rfl (ztj (by omega) (by omega)) TrU_is1_21 rfl) λa A↦?_
       rcases tf (decide (qfg n ≤ rk)) with hb48 | hb48
       ·
        have hb48' := of_decide_eq_true hb48
        refine sdc A xl hb48 λa A↦?_
        iterate 2 refine sdm A λa A↦?_
        rcases tf (decide (rk ≤ 1114111)) with hb49 | hb49
        ·
         have hb49' := of_decide_eq_true hb49
         refine sdc A ki hb49 λa A↦?_
         refine sdk (v := .bool true) A λa A↦?_
         iterate 2 refine sdm A λa A↦?_
         rcases tf (decide (rk < 55296)) with hb50 | hb50
         ·
          have hb50' := of_decide_eq_true hb50
          refine sdc A zj hb50 λa A↦?_
          refine sdm A λa A↦?_
          iterate 2 refine qr A rfl rfl rfl λa A↦?_
          iterate 2 refine sdk (v := .bool true) A λa A↦?_
          refine sda A λa A↦?_
          refine qa ?_
          replace M : Mg w w47 (.row 109 3 (vo) acc.length ((jy acc)) :: []) := by
           have h9 := M.sub (cn (cc (.refl _)))
           exact h9
          have hc8 := yp hC
          exact hJ28 _ _ ⟨true, zgj hi8 ((l.getD i 0).toNat_lt) hL (hkn rfl ▸ hC) (by omega), A.keep _ (by repeat' constructor), M⟩
         ·
          have hb50' := of_decide_eq_false hb50
          refine sdc A zj hb50 λa A↦?_
          iterate 2 refine sdm A λa A↦?_
          rcases tf (decide (57343 < rk)) with hb51 | hb51
          ·
           have hb51' := of_decide_eq_true hb51
           refine sdc A jq hb51 λa A↦?_
           iterate 2 refine sdk (v := .bool true) A λa A↦?_
           refine sda A λa A↦?_
           refine qa ?_
           replace M : Mg w w47 (.row 109 3 (vo) acc.length ((jy acc)) :: []) := by
            have h9 := M.sub (cn (cc (.refl _)))
            exact h9
           have hc8 := yp hC
           exact hJ28 _ _ ⟨true, zgj hi8 ((l.getD i 0).toNat_lt) hL (hkn rfl ▸ hC) (by omega), A.keep _ (by repeat' constructor), M⟩
          ·
           have hb51' := of_decide_eq_false hb51
           refine sdc A jq hb51 λa A↦?_
           iterate 2 refine sdk (v := .bool false) A λa A↦?_
           refine sda A λa A↦?_
           refine qa ?_
           replace M : Mg w w47 (.row 109 3 (vo) acc.length ((jy acc)) :: []) := by
            have h9 := M.sub (cn (cc (.refl _)))
            exact h9
           have hc8 := yp hC
           exact hJ28 _ _ ⟨false, qxg hi8 ((l.getD i 0).toNat_lt) hL hC hkn (.inr ⟨by omega, by omega⟩), A.keep _ (by repeat' constructor), M⟩
        ·
         have hb49' := of_decide_eq_false hb49
         refine sdc A ki hb49 λa A↦?_
         refine sdk (v := .bool false) A λa A↦?_
         refine sdm A λa A↦?_
         iterate 3 refine qr A rfl rfl rfl λa A↦?_
         iterate 2 refine qdd A rfl rfl rfl λa A↦?_
         refine qr A rfl rfl rfl λa A↦?_
         refine sdk (v := .bool false) A λa A↦?_
         refine sda A λa A↦?_
         refine qa ?_
         replace M : Mg w w47 (.row 109 3 (vo) acc.length ((jy acc)) :: []) := by
          have h9 := M.sub (cn (cc (.refl _)))
          exact h9
         have hc8 := yp hC
         exact hJ28 _ _ ⟨false, qxg hi8 ((l.getD i 0).toNat_lt) hL hC hkn (.inr ⟨by omega, by omega⟩), A.keep _ (by repeat' constructor), M⟩
       ·
        have hb48' := of_decide_eq_false hb48
        refine sdc A xl hb48 λa A↦?_
        refine sdm A λa A↦?_
        iterate 2 refine qr A rfl rfl rfl λa A↦?_
        refine sdk (v := .bool false) A λa A↦?_
        refine sdm A λa A↦?_
        iterate 3 refine qr A rfl rfl rfl λa A↦?_
        iterate 2 refine qdd A rfl rfl rfl λa A↦?_
        refine qr A rfl rfl rfl λa A↦?_
        refine sdk (v := .bool false) A λa A↦?_
        refine sda A λa A↦?_
        refine qa ?_
        replace M : Mg w w47 (.row 109 3 (vo) acc.length ((jy acc)) :: []) := by
         have h9 := M.sub (cn (cc (.refl _)))
         exact h9
        have hc8 := yp hC
        exact hJ28 _ _ ⟨false, qxg hi8 ((l.getD i 0).toNat_lt) hL hC hkn (.inr ⟨by omega, by omega⟩), A.keep _ (by repeat' constructor), M⟩
      ·
       have hb44' := of_decide_eq_false hb44
       refine sdc A jq hb44 λa A↦?_
       refine sdk (v := .bool false) A λa A↦?_
       refine qa (hK43 _ _ (wp_cond_false (A.ev rfl) ?_))
       refine wp_skip ?_
       replace M : Mg w w25 (.row 109 3 (vo) acc.length ((jy acc)) :: []) := by
        have h9 := M.sub (cc (.refl _))
        exact h9
       have hc8 := yp hC
       exact hJ28 _ _ ⟨true, zgj hi8 ((l.getD i 0).toNat_lt) hL (hkn rfl ▸ hC) (by omega), A.keep _ (by repeat' constructor), M⟩
    refine wsk fun K52 hK52 => wrl (sda A λa A↦?_)
    refine qa (hK52 _ _ (wp_block (jd (fun m_ a w1 => ∃ (k : Nat) (rk : Int) (ok2 : Bool), m_ = 5 - k ∧ (ContU l.length i n (l.getD (i + 1) 0).toNat (l.getD (i + 2) 0).toNat (l.getD (i + 3) 0).toNat r k rk ok2) ∧ Sl a 122 [(0, .slice so l.length cap), (2, .slice none 0 0), (3, vo), (4, .int .i64 (((i : Nat) : Int))), (5, .int .i64 (((n : Nat) : Int))), (6, .int .i32 rk), (8, .bool ok2), (9, .int .i64 (((k : Nat) : Int))), (12, .slice (some ⟨g3, 0, none⟩) 0 0), (13, .int .i64 (((i : Nat) : Int))), (14, .slice so l.length cap), (15, .int .i64 (((l.length : Nat) : Int))), (16, .bool true), (17, .slice so l.length cap), (18, .int .i64 (((i : Nat) : Int))), (19, .pointer (some ⟨bx, ox + (i), none⟩)), (20, .int .u8 ((((l.getD i 0).toNat : Nat) : Int)))] ∧ Mg w w1 (.row 109 3 (vo) acc.length ((jy acc)) :: [])) _ ⟨1, r, ok, rfl, zgi hok, A.keep _ (by repeat' constructor), M⟩ ?_)))
    clear M A
    rintro m_ a w53 ⟨k, rk, ok2, rfl, hinv55, A, M⟩ K54 hK54
    have hC := hinv55
    refine wsk fun K56 hK56 => wsk fun K57 hK57 => wrl ?_
    iterate 2 refine sdm A λa A↦?_
    rcases ok2 with _ | _
    ·
     iterate 3 refine qr A rfl rfl rfl λa A↦?_
     refine sdk (v := .bool false) A λa A↦?_
     refine qa (hK57 _ _ (wp_cond_false (A.ev rfl) ?_))
     refine wp_exit ?_
     exact hJ24 _ _ ⟨k, rk, false, ⟨hC, fun h => by cases h⟩, A.keep _ (by repeat' constructor), M⟩
    ·
     iterate 2 refine sdm A λa A↦?_
     rcases tf (decide (((k : Nat) : Int) < ((n : Nat) : Int))) with hb58 | hb58
     ·
      have hb58' := of_decide_eq_true hb58
      refine sdc A zj hb58 λa A↦?_
      refine sdk (v := .bool true) A λa A↦?_
      refine qa (hK57 _ _ (wp_cond_true (A.ev rfl) ?_))
      refine wp_skip (hK56 _ _ (wsk fun K59 hK59 => wp_block (wsk fun K60 hK60 => ?_)))
      have hc9 := yp hC
      refine wrl ?_
      iterate 3 refine sdm A λa A↦?_
      refine sdo (v := .int .i64 (((i + k : Nat) : Int))) A (qh rfl rfl (ar_add ((in_i64 (by omega) (by omega)).trans (by omega)))) λa A↦?_
      obtain ⟨bx, ox, hx1, hx2, hx3⟩ := qhi (i := i + k) hb (by omega)
      have hu9 := (l.getD (i + k) 0).toNat_lt
      refine sdo (v := .pointer (some ⟨bx, ox + (i + k), none⟩)) A (jn (k := i + k) Tryz.underlying28 (by kernel_rfl) rfl rfl rfl hx1 (by omega)) λa A↦?_
      refine sdo (v := .int .u8 ((((l.getD (i + k) 0).toNat : Nat) : Int))) A (qde M hx2 (hx3 (i + k) (by omega)) TrU_is1_5 rfl) λa A↦?_
      refine sda A λa A↦?_
      refine qa (hK60 _ _ (wsk fun K61 hK61 => wrl (sdm A λa A↦?_)))
      refine sdo (v := .int .u8 (((((l.getD (i + k) 0).toNat : Nat) : Int)) / 64)) A (qh rfl rfl (ar_shr (n := 6) rfl rfl rfl)) λa A↦?_
      refine sdo (v := .bool ((((((l.getD (i + k) 0).toNat : Nat) : Int)) / 64 == 2))) A (qh rfl rfl qk) λa A↦?_
      refine sda A λa A↦?_
      refine qa (hK61 _ _ (wrl (sdm A λa A↦?_)))
      refine sdo (v := .int .i32 (rk * 64)) A (qh rfl rfl (ar_shl (n := 6) rfl rfl (in_i32 (by omega) (by omega)))) λa A↦?_
      refine sdm A λa A↦?_
      refine sdo (v := .int .u8 (((((l.getD (i + k) 0).toNat : Nat) : Int)) % 64)) A (qh rfl rfl (ar_and (qxf 6 63 rfl (by decide) (by omega) (by omega)))) λa A↦?_
      refine sdo (v := .int .i32 (((((l.getD (i + k) 0).toNat : Nat) : Int)) % 64)) A (jg rfl (ar_conv Tryz.underlying5 Tryz.underlying21 (in_i32 (by omega) (by omega)))) λa A↦?_
      refine sdo (v := .int .i32 (rk * 64 + (((((l.getD (i + k) 0).toNat : Nat) : Int)) % 64))) A (qh rfl rfl (ar_or (jcc (by omega) (by omega) (by omega) (by omega)))) λa A↦?_
      refine sda A λa A↦?_
      refine qa (hK59 _ _ (wrl (sdm A λa A↦?_)))
      refine sdo (v := .int .i64 (((k + 1 : Nat) : Int))) A (qh rfl rfl (ar_add ((in_i64 (by omega) (by omega)).trans (by omega)))) λa A↦?_
      refine sda A λa A↦?_
      refine qa ?_
      refine hK54 _ _ _ (by omega) ⟨k + 1, rk * 64 + (((((l.getD (i + k) 0).toNat : Nat) : Int)) % 64), (((((l.getD (i + k) 0).toNat : Nat) : Int)) / 64 == 2), rfl, zoj (by omega) hC (by omega), A.keep _ (by repeat' constructor), M⟩
     ·
      have hb58' := of_decide_eq_false hb58
      refine sdc A zj hb58 λa A↦?_
      refine sdk (v := .bool false) A λa A↦?_
      refine qa (hK57 _ _ (wp_cond_false (A.ev rfl) ?_))
      refine wp_exit ?_
      exact hJ24 _ _ ⟨k, rk, true, ⟨hC, fun _ => by have := yp hC; omega⟩, A.keep _ (by repeat' constructor), M⟩
   refine wrl (sdm A λa A↦?_)
   rcases tf (decide (0 < ((n : Nat) : Int))) with hb62 | hb62
   ·
    have hb62' := of_decide_eq_true hb62
    refine sdc A jq hb62 λa A↦?_
    iterate 3 refine sdm A λa A↦?_
    refine sdo (v := .int .i64 (((i + n : Nat) : Int))) A (qh rfl rfl (ar_add ((in_i64 (by omega) (by omega)).trans (by omega)))) λa A↦?_
    refine sdm A λa A↦?_
    refine sdo A (zb Tryz.underlying28 rfl) λa A↦?_
    rcases tf (decide (((i + n : Nat) : Int) ≤ ((l.length : Nat) : Int))) with hb63 | hb63
    ·
     have hb63' := of_decide_eq_true hb63
     refine sdc A ki hb63 λa A↦?_
     refine sdk (v := .bool true) A λa A↦?_
     refine sda A λa A↦?_
     refine qa ?_
     exact hJ20 _ _ ⟨true, (decide_eq_true (by omega)).symm, A.keep _ (by repeat' constructor), M⟩
    ·
     have hb63' := of_decide_eq_false hb63
     refine sdc A ki hb63 λa A↦?_
     refine sdk (v := .bool false) A λa A↦?_
     refine sda A λa A↦?_
     refine qa ?_
     exact hJ20 _ _ ⟨false, (decide_eq_false (by omega)).symm, A.keep _ (by repeat' constructor), M⟩
   ·
    have hb62' := of_decide_eq_false hb62
    refine sdc A jq hb62 λa A↦?_
    refine sdm A λa A↦?_
    iterate 6 refine qr A rfl rfl rfl λa A↦?_
    refine sdk (v := .bool false) A λa A↦?_
    refine sda A λa A↦?_
    refine qa ?_
    exact hJ20 _ _ ⟨false, (decide_eq_false (by omega)).symm, A.keep _ (by repeat' constructor), M⟩
  refine wp_block (wsk fun K64 hK64 => wrl (sdm A λa A↦?_))
  rcases tf (decide ((((l.getD i 0).toNat : Nat) : Int) < 128)) with hb65 | hb65
  ·
   have hb65' := of_decide_eq_true hb65
   refine sdc A zj hb65 λa A↦?_
   refine sda A λa A↦?_
   refine qa (hK64 _ _ (wp_cond_true (A.ev rfl) ?_))
   refine wrl (sdm A λa A↦?_)
   refine sdo (v := .int .i32 ((((l.getD i 0).toNat : Nat) : Int))) A (jg rfl (ar_conv Tryz.underlying5 Tryz.underlying21 (in_i32 (by omega) (by omega)))) λa A↦?_
   iterate 2 refine sda A λa A↦?_
   refine qa ?_
   exact hJ16 _ _ ⟨1, (((l.getD i 0).toNat : Nat) : Int), (by unfold LeadU; omega), A.keep _ (by repeat' constructor), M⟩
  ·
   have hb65' := of_decide_eq_false hb65
   refine sdc A zj hb65 λa A↦?_
   refine sda A λa A↦?_
   refine qa (hK64 _ _ (wp_cond_false (A.ev rfl) ?_))
   refine wsk fun K66 hK66 => wrl (sdm A λa A↦?_)
   refine sdo (v := .int .u8 (((((l.getD i 0).toNat : Nat) : Int)) / 32)) A (qh rfl rfl (ar_shr (n := 5) rfl rfl rfl)) λa A↦?_
   rcases tf ((((((l.getD i 0).toNat : Nat) : Int)) / 32 == 6)) with hb67 | hb67
   ·
    have hb67' := eq_of_beq hb67
    refine sdc A qk hb67 λa A↦?_
    refine sda A λa A↦?_
    refine qa (hK66 _ _ (wp_cond_true (A.ev rfl) ?_))
    refine wrl (sdm A λa A↦?_)
    refine sdo (v := .int .u8 (((((l.getD i 0).toNat : Nat) : Int)) % 32)) A (qh rfl rfl (ar_and (qxf 5 31 rfl (by decide) (by omega) (by omega)))) λa A↦?_
    refine sdo (v := .int .i32 (((((l.getD i 0).toNat : Nat) : Int)) % 32)) A (jg rfl (ar_conv Tryz.underlying5 Tryz.underlying21 (in_i32 (by omega) (by omega)))) λa A↦?_
    iterate 2 refine sda A λa A↦?_
    refine qa ?_
    exact hJ16 _ _ ⟨2, ((((l.getD i 0).toNat : Nat) : Int)) % 32, (by unfold LeadU; omega), A.keep _ (by repeat' constructor), M⟩
   ·
    have hb67' := ne_of_beq_false hb67
    refine sdc A qk hb67 λa A↦?_
    refine sda A λa A↦?_
    refine qa (hK66 _ _ (wp_cond_false (A.ev rfl) ?_))
    refine wsk fun K68 hK68 => wrl (sdm A λa A↦?_)
    refine sdo (v := .int .u8 (((((l.getD i 0).toNat : Nat) : Int)) / 16)) A (qh rfl rfl (ar_shr (n := 4) rfl rfl rfl)) λa A↦?_
    rcases tf ((((((l.getD i 0).toNat : Nat) : Int)) / 16 == 14)) with hb69 | hb69
    ·
     have hb69' := eq_of_beq hb69
     refine sdc A qk hb69 λa A↦?_
     refine sda A λa A↦?_
     refine qa (hK68 _ _ (wp_cond_true (A.ev rfl) ?_))
     refine wrl (sdm A λa A↦?_)
     refine sdo (v := .int .u8 (((((l.getD i 0).toNat : Nat) : Int)) % 16)) A (qh rfl rfl (ar_and (qxf 4 15 rfl (by decide) (by omega) (by omega)))) λa A↦?_
     refine sdo (v := .int .i32 (((((l.getD i 0).toNat : Nat) : Int)) % 16)) A (jg rfl (ar_conv Tryz.underlying5 Tryz.underlying21 (in_i32 (by omega) (by omega)))) λa A↦?_
     iterate 2 refine sda A λa A↦?_
     refine qa ?_
     exact hJ16 _ _ ⟨3, ((((l.getD i 0).toNat : Nat) : Int)) % 16, (by unfold LeadU; omega), A.keep _ (by repeat' constructor), M⟩
    ·
     have hb69' := ne_of_beq_false hb69
     refine sdc A qk hb69 λa A↦?_
     refine sda A λa A↦?_
     refine qa (hK68 _ _ (wp_cond_false (A.ev rfl) ?_))
     refine wsk fun K70 hK70 => wrl (sdm A λa A↦?_)
     refine sdo (v := .int .u8 (((((l.getD i 0).toNat : Nat) : Int)) / 8)) A (qh rfl rfl (ar_shr (n := 3) rfl rfl rfl)) λa A↦?_
     rcases tf ((((((l.getD i 0).toNat : Nat) : Int)) / 8 == 30)) with hb71 | hb71
     ·
      have hb71' := eq_of_beq hb71
      refine sdc A qk hb71 λa A↦?_
      refine sda A λa A↦?_
      refine qa (hK70 _ _ (wp_cond_true (A.ev rfl) ?_))
      refine wrl (sdm A λa A↦?_)
      refine sdo (v := .int .u8 (((((l.getD i 0).toNat : Nat) : Int)) % 8)) A (qh rfl rfl (ar_and (qxf 3 7 rfl (by decide) (by omega) (by omega)))) λa A↦?_
      refine sdo (v := .int .i32 (((((l.getD i 0).toNat : Nat) : Int)) % 8)) A (jg rfl (ar_conv Tryz.underlying5 Tryz.underlying21 (in_i32 (by omega) (by omega)))) λa A↦?_
      iterate 2 refine sda A λa A↦?_
      refine qa ?_
      exact hJ16 _ _ ⟨4, ((((l.getD i 0).toNat : Nat) : Int)) % 8, (by unfold LeadU; omega), A.keep _ (by repeat' constructor), M⟩
     ·
      have hb71' := ne_of_beq_false hb71
      refine sdc A qk hb71 λa A↦?_
      refine sda A λa A↦?_
      refine qa (hK70 _ _ (wp_cond_false (A.ev rfl) ?_))
      refine wp_skip ?_
      exact hJ16 _ _ ⟨0, 0, (by unfold LeadU; omega), A.keep _ (by repeat' constructor), M⟩
 ·
  have hb12' := of_decide_eq_false hb12
  refine sdc A zj hb12 λa A↦?_
  refine qa (hK11 _ _ (wp_cond_false (A.ev rfl) ?_))
  refine wp_exit (hK5 _ _ (wsk fun K72 hK72 => wrl (sdm A λa A↦?_)))
  refine sda A λa A↦?_
  refine qa (hK72 _ _ (wp_ret (hret _ _ (en1 A rfl (qe rfl) ?_))))
  rw [zgh (by omega), List.append_nil] at hrun
  subst hrun
  exact ⟨_, rfl, M⟩
open Go.RowKit Go.Lib
theorem zbg {w : World} {B : Nat} {e : TypeId} {sz : Nat} {v : Value} {n : Nat} {xs : List Value} (h : w.ownsRow B e sz v n xs) : ∃ so cap, v = .slice so n cap := by
  rcases h.2 with ⟨rfl, rfl⟩ | ⟨g, cap, cur, rfl, _⟩
  · exact ⟨none, 0, rfl⟩
  · exact ⟨_, cap, rfl⟩
section
variable {P : Program} {w0 w : World} {L : List Ck} {l : List (Nat × Value)} {dst : Option Tmp} {ty : TypeId} {pos : String} {after : Array Edge} {guard : Option (Nat × Bool)} {v : Value}
theorem zha {w' : World} {s d : TypeId} {x : Operand} {u : Value} (hx : ev l x = some u) (hr : (convert s d u).run P w = .ok v w') : Does P l ⟨dst, .convert s d x, ty, pos, after, guard⟩ w v w' := fun ρ h => by
  simp only [execOp, h x _ hx, Sem.run_bind, hr, Result.andThen_ok, Sem.run_pure]
theorem zua (hM : Mg w0 w L) (k : Nat) {e : TypeId} {sz n cap : Nat} {so : Option Addr} {xs : List Value} (hk : L[k]? = some (.row e sz (.slice so n cap) n xs)) (hn : 0 < n) : ∃ g, so = some ⟨g, 0, none⟩ := by
  rcases (hM.has k hk).2 with ⟨_, h0⟩ | ⟨g, cap', cur, he, _⟩
  · omega
  · cases he; exact ⟨g, rfl⟩
theorem zbh {t e : TypeId} {sz : Nat} (hu : P.underlying t = some (.slice e)) (he : (P.info? e).map (·.size) = some sz) {x i : Operand} {so : Option Addr} {g n c k : Nat} {z : Int} (hx : ev l x = some (.slice so n c)) (hi : ev l i = some (.int .i64 z)) (hz : z = (k : Nat)) (hso : so = some ⟨g, 0, none⟩) (hk : k < n) :
    Does P l ⟨dst, .indexAddr t x i, ty, pos, after, guard⟩ w (.pointer (some ⟨g, k * sz, none⟩)) w := by
  subst hso
  exact jr hu he hx hi hz hk
theorem zkg (hM : Mg w0 w L) (k : Nat) {e : TypeId} {sz g n c j : Nat} {so : Option Addr} {xs : List Value} (hk : L[k]? = some (.row e sz (.slice so n c) n xs)) (hso : so = some ⟨g, 0, none⟩) (hj : xs[j]? = some v) {t : TypeId} (ht : Is1 P t) {x : Operand} (hx : ev l x = some (.pointer (some ⟨g, j, none⟩))) : Does P l ⟨dst, .load t x, ty, pos, after, guard⟩ w v w := by
  subst hso
  exact qvh hM k hk hj ht hx
end
section
variable {P : Program} {w0 w : World} {L : List Ck} {l : List (Nat × Value)} {ops : List Oper} {Q : Exit → Act → World → Prop} {a : Act} {n : Nat} {rest : List Oper} {d : Nat} {dst : Option Tmp} {ty : TypeId} {pos : String} {after : Array Edge} {guard : Option (Nat × Bool)}
/-- A text as bytes. -/
theorem qmb (hA : Sl a n l) (hM : Mg w0 w L) {t t' : TypeId} {x : Operand} {s : ByteArray} {o : Oper} (ho : o = ⟨dst, .convert t t' x, ty, pos, after, guard⟩) (ht : P.underlying t = some .string) (hd : P.underlying t' = some (.slice BY)) (he : P.underlying BY = some (.int .u8)) (hx : ev l x = some (.string s)) (hg : zy l ops o = true) (hdst : o.dst = some d) (hdn : Nat.blt d n = true)
    (hk : ∀ so cap w', Rb w' so s.data.toList → Mg w0 w' L → ∀ a', Sl a' n ((d, .slice so s.data.toList.length cap) :: l) → wpList P ops.toArray Q rest a' w') : wpList P ops.toArray Q (o :: rest) a w := by
  subst ho
  have hr := Go.Lib.run_convert_string_bytes (P := P) w t t' BY s ht hd he
  have hb : Below w.heap.size w (bytesWorld w BY s) := ⟨rfl, rfl, rfl, by rw [bytesWorld_size]; omega, fun j hj => bytesWorld_at_old w BY s j hj⟩
  refine kf hA hg hdst hdn (v := .slice (some ⟨w.heap.size, 0, none⟩) s.data.toList.length (grownCap w s.size 0 BY)) (w' := bytesWorld w BY s) (zha hx (by rw [vh]; exact hr)) (hk _ _ _ ⟨fun _ => ⟨w.heap.size, 0, rfl, by rw [bytesWorld_size]; omega, fun j hj => ?_⟩⟩ (hM.call hb))
  rw [vh] at hj
  rw [Nat.zero_add]
  exact bytesWorld_cell w BY s j hj
end
theorem qoj (u : Int × Int) (us : List (Int × Int)) : jy (u :: us) = (if u.2 = -1 then [.int .i32 0, .bool true, .int .i64 u.1] else [.int .i32 u.2, .bool false, .int .i64 u.1]) ++ jy us := rfl
theorem qpa : ∀ (us : List (Int × Int)) (i f : Nat) (u : Int × Int), us[i]? = some u → f < 3 → (jy us)[i * 3 + f]? = (if u.2 = -1 then [Value.int .i32 0, .bool true, .int .i64 u.1] else [.int .i32 u.2, .bool false, .int .i64 u.1])[f]?
  | [], i, f, u, h, hf => by simp at h
  | v :: us, 0, f, u, h, hf => by
    simp only [List.getElem?_cons_zero, Option.some.injEq] at h
    subst h
    rw [qoj, Nat.zero_mul, Nat.zero_add, List.getElem?_append_left]
    split <;> exact hf
  | v :: us, i + 1, f, u, h, hf => by
    rw [List.getElem?_cons_succ] at h
    rw [qoj, List.getElem?_append_right (by split <;> (simp only [List.length_cons, List.length_nil]; omega))]
    have e : (i + 1) * 3 + f - (if v.2 = -1 then [Value.int .i32 0, .bool true, .int .i64 v.1] else [.int .i32 v.2, .bool false, .int .i64 v.1]).length = i * 3 + f := by
      split <;> (simp only [List.length_cons, List.length_nil]; omega)
    rw [e]
    exact qpa us i f u h hf
theorem zub {us : List (Int × Int)} {i : Nat} (h : i < us.length) : ∃ ua ur, us[i]? = some (ua, ur) := ⟨_, _, List.getElem?_eq_getElem h⟩
/-! ### Encode -/
theorem qpb : ∀ (f p : Nat) (l : List UInt8), (vv f p l).length ≤ l.length
  | 0, _, _ => Nat.zero_le _
  | f + 1, p, l => by
    by_cases hl : l = []
    · subst hl; simp [vv]
    · rw [qki hl, List.length_cons]
      have h1 := qpb f (p + (decodeL l).2) (l.drop (decodeL l).2)
      have h2 := ug l hl
      rw [List.length_drop] at h1
      omega
theorem zuc (l : List UInt8) (h : (decodeL l).1 = 65533) : (decodeL l).2 = 1 ∨ (decodeL l).2 = 3 ∨ (decodeL l).2 = 0 := by
  rw [decodeL_N] at h ⊢
  generalize (l.getD 0 0).toNat = b0 at h ⊢
  generalize (l.getD 1 0).toNat = b1 at h ⊢
  generalize (l.getD 2 0).toNat = b2 at h ⊢
  generalize (l.getD 3 0).toNat = b3 at h ⊢
  unfold decodeN at h ⊢
  repeat' split
  all_goals (simp_all)
  all_goals omega
theorem qeg : ∀ (f p : Nat) (l : List UInt8), validGoD f l = (vv f p l).all (fun u => !decide (u.2 = -1))
  | 0, p, l => rfl
  | f + 1, p, l => by
    unfold validGoD vv
    by_cases hl : l = []
    · rw [if_pos hl, if_pos hl]; rfl
    · rw [if_neg hl, if_neg hl, List.all_cons]
      have hw := ug l hl
      have h3 := zuc l
      by_cases hb : (decodeL l).1 = 65533 ∧ (decodeL l).2 = 1
      · rw [if_pos hb]
        have : uR (decodeL l).1 (decodeL l).2 = -1 := by unfold uR; rw [if_pos ⟨hb.1, by omega⟩]
        rw [this]; rfl
      · rw [if_neg hb]
        have : ¬ uR (decodeL l).1 (decodeL l).2 = -1 := by
          unfold uR
          by_cases h9 : (decodeL l).1 = 65533
          · rw [if_neg (by have := h3 h9; omega)]; omega
          · rw [if_neg (fun e => h9 e.1)]; omega
        rw [decide_eq_false this, qeg f (p + (decodeL l).2)]
        simp
theorem qti (s : ByteArray) : okS s = (ju s.data.toList).all (fun u => !decide (u.2 = -1)) := qeg _ 0 _
theorem zyg {s : ByteArray} {i : Nat} {ua ur : Int} (h : (ju s.data.toList)[i]? = some (ua, ur)) (hr : ur = -1) : okS s = false := by
  rw [qti]
  apply Bool.eq_false_iff.2
  intro k
  have := List.all_eq_true.1 k _ (List.mem_of_getElem? h)
  simp [hr] at this
theorem zud {s : ByteArray} (h : ∀ (i : Nat) (ua ur : Int), (ju s.data.toList)[i]? = some (ua, ur) → ur ≠ -1) : okS s = true := by
  rw [qti, List.all_eq_true]
  intro u hu
  obtain ⟨i, hi⟩ := List.mem_iff_getElem?.1 hu
  simp [h i u.1 u.2 hi]
theorem TrV_is1_22 : Is1 Tryz.prog 22 := ⟨⟨_, Tryz.underlying22, rfl⟩, by kernel_rfl⟩
theorem TrV_is1_28 : Is1 Tryz.prog 28 := ⟨⟨_, Tryz.underlying28, rfl⟩, by kernel_rfl⟩
theorem TrV_is1_3 : Is1 Tryz.prog 3 := ⟨⟨_, Tryz.underlying3, rfl⟩, by kernel_rfl⟩
theorem TrV_is1_4 : Is1 Tryz.prog 4 := ⟨⟨_, Tryz.underlying4, rfl⟩, by kernel_rfl⟩
theorem TrV_is1_9 : Is1 Tryz.prog 9 := ⟨⟨_, Tryz.underlying9, rfl⟩, by kernel_rfl⟩
theorem TrV_fld_109_1 : FieldAt Tryz.prog 109 1 1 := ⟨_, _, Tryz.underlying109, rfl, rfl, by kernel_rfl⟩
theorem TrV_fld_27_0 : FieldAt Tryz.prog 27 0 0 := ⟨_, _, Tryz.underlying27, rfl, rfl, by kernel_rfl⟩
theorem TrV_fld_27_1 : FieldAt Tryz.prog 27 1 3 := ⟨_, _, Tryz.underlying27, rfl, rfl, by kernel_rfl⟩
theorem TrV_fld_30_0 : FieldAt Tryz.prog 30 0 0 := ⟨_, _, Tryz.underlying30, rfl, rfl, by kernel_rfl⟩
theorem TrV_fld_30_1 : FieldAt Tryz.prog 30 1 1 := ⟨_, _, Tryz.underlying30, rfl, rfl, by kernel_rfl⟩
theorem TrV_fld_30_2 : FieldAt Tryz.prog 30 2 2 := ⟨_, _, Tryz.underlying30, rfl, rfl, by kernel_rfl⟩
theorem TrV_fld_30_3 : FieldAt Tryz.prog 30 3 8 := ⟨_, _, Tryz.underlying30, rfl, rfl, by kernel_rfl⟩
theorem TrV_fld_30_4 : FieldAt Tryz.prog 30 4 9 := ⟨_, _, Tryz.underlying30, rfl, rfl, by kernel_rfl⟩
theorem TrV_fld_30_5 : FieldAt Tryz.prog 30 5 10 := ⟨_, _, Tryz.underlying30, rfl, rfl, by kernel_rfl⟩
theorem TrV_isS_25 : IsS Tryz.prog 25 3 := ⟨⟨_, Tryz.underlying25⟩, by kernel_rfl⟩
theorem TrV_isS_27 : IsS Tryz.prog 27 6 := ⟨⟨_, Tryz.underlying27⟩, by kernel_rfl⟩
theorem zbi {w : World} {so : Option Addr} {cap : Nat} {l : List UInt8} (hb : Rb w so l) (hlen : l.length ≤ 4000000) : Calls Tryz.prog 105 #[.int .i64 1, .slice so l.length cap] w fun e w' => ∃ v, e = .returned v ∧ Mg w w' [.row 109 3 v (ju l).length (jy (ju l))] := by
 have M : Mg w w ([]) := Mg.start w
 refine qx (l := [(0, .int .i64 1), (1, .slice so l.length cap)]) Tryz.func105 rfl Tryz.ntmps105 rfl rfl ?_
 intro Q hret hnorm hP a A
 refine wsk fun K1 hK1 => wrl (sda A λa A↦?_)
 refine qa (hK1 _ _ (wsk fun K2 hK2 => wsk fun K3 hK3 => wrl (sdm A λa A↦?_)))
 refine sdo (v := .bool true) A (qh rfl rfl (fun w => by kernel_rfl)) λa A↦?_
 refine qa (hK3 _ _ (wp_cond_true (A.ev rfl) ?_))
 refine wsk fun K4 hK4 => wrl (sdm A λa A↦?_)
 refine sct A (ef rfl rfl) (zpa (hb.below M.bel) hlen) ?_
 rintro _ w5 ⟨v9, rfl, hM9⟩
 replace M : Mg w w5 (.row 109 3 (v9) ((ju l).length) ((jy (ju l))) :: []) := (M.both hM9 (zh zm) (qs (by simp) (zh zm)))
 refine ⟨_, rfl, ?_⟩
 intro a A
 refine sda A λa A↦?_
 refine qa (hK4 _ _ (wp_ret (hret _ _ (en1 A rfl (qe rfl) ?_))))
 exact ⟨_, rfl, M⟩
theorem qpc {w : World} {s : ByteArray} (hs : s.size ≤ 4000000) {r : Bool} (hr : okS s = r) : Calls Tryz.prog 87 #[.string s] w fun e w' => e = .returned (.bool r) ∧ Below w.heap.size w w' := by
 have hul : (ju s.data.toList).length ≤ s.data.toList.length := qpb _ _ _
 have hsl : s.data.toList.length ≤ 4000000 := by rw [vh]; exact hs
 have M : Mg w w ([]) := Mg.start w
 refine qx (l := [(0, .string s)]) Tryz.func87 rfl Tryz.ntmps87 rfl rfl ?_
 intro Q hret hnorm hP a A
 refine wsk fun K1 hK1 => wrl (sda A λa A↦?_)
 refine qa (hK1 _ _ (wsk fun K2 hK2 => wrl (sdm A λa A↦?_)))
 refine qmb A M rfl Tryz.underlying9 Tryz.underlying28 Tryz.underlying5 rfl rfl rfl rfl ?_
 intro so3 ca4 w5 hrb6 M a A
 refine sct A (ef rfl rfl) (zbi hrb6 (by rw [vh]; exact hs)) ?_
 rintro _ w10 ⟨v9, rfl, hM7⟩
 obtain ⟨so8, ca9, rfl⟩ := zbg (hM7.has 0 rfl)
 replace M : Mg w w10 (.row 109 3 (.slice so8 ((ju s.data.toList).length) ca9) ((ju s.data.toList).length) ((jy (ju s.data.toList))) :: []) := (M.both hM7 (zh zm) (qs (by simp) (zh zm)))
 refine ⟨_, rfl, ?_⟩
 intro a A
 refine sda A λa A↦?_
 refine qa (hK2 _ _ (wsk fun K11 hK11 => wsk fun K12 hK12 => wrl (sda A λa A↦?_)))
 refine qa (hK12 _ _ (wp_block (jd (fun m_ a w1 => ∃ (i : Nat), m_ = 1 + ((ju s.data.toList).length - i) ∧ (i ≤ (ju s.data.toList).length ∧ ∀ j ua ur, j < i → (ju s.data.toList)[j]? = some (ua, ur) → ur ≠ -1) ∧ Sl a 19 [(0, .string s), (3, .slice so8 ((ju s.data.toList).length) ca9), (4, .int .i64 (((i : Nat) : Int))), (5, .string s), (6, .slice so3 s.data.toList.length ca4), (7, .slice so8 ((ju s.data.toList).length) ca9)] ∧ Mg w w1 (.row 109 3 (.slice so8 ((ju s.data.toList).length) ca9) ((ju s.data.toList).length) ((jy (ju s.data.toList))) :: [])) _ ⟨0, rfl, ⟨Nat.zero_le _, fun j ua ur hj => absurd hj (Nat.not_lt_zero _)⟩, A.keep _ (by repeat' constructor), M⟩ ?_)))
 clear M A
 rintro m_ a w13 ⟨i, rfl, hinv15, A, M⟩ K14 hK14
 obtain ⟨hi0, hin9⟩ := hinv15
 refine wsk fun K16 hK16 => wsk fun K17 hK17 => wrl ?_
 iterate 2 refine sdm A λa A↦?_
 refine sdo A (zb Tryz.underlying106 rfl) λa A↦?_
 rcases tf (decide (((i : Nat) : Int) < (((ju s.data.toList).length : Nat) : Int))) with hb18 | hb18
 ·
  have hb18' := of_decide_eq_true hb18
  refine sdc A zj hb18 λa A↦?_
  refine qa (hK17 _ _ (wp_cond_true (A.ev rfl) ?_))
  refine wp_skip (hK16 _ _ (wsk fun K19 hK19 => wp_block (wsk fun K20 hK20 => wrl ?_)))
  iterate 2 refine sdm A λa A↦?_
  obtain ⟨gu, hgu⟩ := zua M 0 rfl (by omega)
  obtain ⟨ua, ur, hu⟩ := zub (us := ju s.data.toList) (i := i) (by omega)
  refine sdo (v := .pointer (some ⟨gu, i * 3, none⟩)) A (zbh Tryz.underlying106 (by kernel_rfl) rfl rfl rfl hgu (show i < (ju s.data.toList).length by omega)) λa A↦?_
  refine sdo (v := .pointer (some ⟨gu, i * 3 + 1, none⟩)) A (qb TrV_fld_109_1 rfl rfl) λa A↦?_
  by_cases hf : ur = -1
  ·
   refine sdo (v := .bool true) A (zkg M 0 rfl hgu ((qpa _ i 1 _ hu (by decide)).trans (by rw [if_pos hf]; rfl)) TrV_is1_4 rfl) λa A↦?_
   refine qa (hK20 _ _ (wp_cond_true (A.ev rfl) ?_))
   refine wsk fun K21 hK21 => wrl (sda A λa A↦?_)
   refine qa (hK21 _ _ (wp_ret (hret _ _ (en1 A rfl (qe rfl) ?_))))
   subst hr
   exact ⟨by rw [zyg hu hf], M.bel⟩
  ·
   refine sdo (v := .bool false) A (zkg M 0 rfl hgu ((qpa _ i 1 _ hu (by decide)).trans (by rw [if_neg hf]; rfl)) TrV_is1_4 rfl) λa A↦?_
   refine qa (hK20 _ _ (wp_cond_false (A.ev rfl) ?_))
   refine wp_skip (hK19 _ _ (wrl (sdm A λa A↦?_)))
   refine sdo (v := .int .i64 (((i + 1 : Nat) : Int))) A (qh rfl rfl (fun w => (ji (xb (by omega) (by omega)) w).trans (by rw [show (((i : Nat) : Int) + 1 : Int) = ((i + 1 : Nat) : Int) from by omega]))) λa A↦?_
   refine sda A λa A↦?_
   refine qa ?_
   refine hK14 _ _ _ (by omega) ⟨i + 1, rfl, ⟨by omega, fun j va vr hj hv => if h9 : j < i then hin9 j va vr h9 hv else by have h8 : j = i := (by omega); subst h8; rw [hu] at hv; injection hv with h7; injection h7 with _ h6; rw [← h6]; exact hf⟩, A.keep _ (by repeat' constructor), M⟩
 ·
  have hb18' := of_decide_eq_false hb18
  refine sdc A zj hb18 λa A↦?_
  refine qa (hK17 _ _ (wp_cond_false (A.ev rfl) ?_))
  refine wp_exit (hK11 _ _ (wsk fun K22 hK22 => wrl (sda A λa A↦?_)))
  refine qa (hK22 _ _ (wp_ret (hret _ _ (en1 A rfl (qe rfl) ?_))))
  subst hr
  exact ⟨by rw [zud (fun j ua ur hj => hin9 j ua ur (by have := (List.getElem?_eq_some_iff.1 hj).1; omega) hj)], M.bel⟩
theorem qtj {w : World} {n : Int} {r : Bool} (hr : ko n = r) : Calls Tryz.prog 90 #[.int .i64 n] w fun e w' => e = .returned (.bool r) ∧ Below w.heap.size w w' := by
 have M : Mg w w ([]) := Mg.start w
 refine qx (l := [(0, .int .i64 n)]) Tryz.func90 rfl Tryz.ntmps90 rfl rfl ?_
 intro Q hret hnorm hP a A
 refine wsk fun K1 hK1 => wrl (sda A λa A↦?_)
 refine qa (hK1 _ _ (wsk fun K2 hK2 => wrl (sdm A λa A↦?_)))
 rcases tf (decide (0 ≤ n)) with hb3 | hb3
 ·
  have hb3' := of_decide_eq_true hb3
  refine sdc A xl hb3 λa A↦?_
  iterate 2 refine sdm A λa A↦?_
  rcases tf (decide (n ≤ 1114111)) with hb4 | hb4
  ·
   have hb4' := of_decide_eq_true hb4
   refine sdc A ki hb4 λa A↦?_
   refine sdk (v := .bool true) A λa A↦?_
   iterate 2 refine sdm A λa A↦?_
   rcases tf (decide (n < 55296)) with hb5 | hb5
   ·
    have hb5' := of_decide_eq_true hb5
    refine sdc A zj hb5 λa A↦?_
    refine sdm A λa A↦?_
    iterate 2 refine qr A rfl rfl rfl λa A↦?_
    iterate 2 refine sdk (v := .bool true) A λa A↦?_
    refine sda A λa A↦?_
    refine qa (hK2 _ _ (wp_ret (hret _ _ (en1 A rfl (qe rfl) ?_))))
    subst hr
    exact ⟨by rw [show ko n = true from by unfold ko; apply decide_eq_true; omega], M.bel⟩
   ·
    have hb5' := of_decide_eq_false hb5
    refine sdc A zj hb5 λa A↦?_
    iterate 2 refine sdm A λa A↦?_
    rcases tf (decide (57343 < n)) with hb6 | hb6
    ·
     have hb6' := of_decide_eq_true hb6
     refine sdc A jq hb6 λa A↦?_
     iterate 2 refine sdk (v := .bool true) A λa A↦?_
     refine sda A λa A↦?_
     refine qa (hK2 _ _ (wp_ret (hret _ _ (en1 A rfl (qe rfl) ?_))))
     subst hr
     exact ⟨by rw [show ko n = true from by unfold ko; apply decide_eq_true; omega], M.bel⟩
    ·
     have hb6' := of_decide_eq_false hb6
     refine sdc A jq hb6 λa A↦?_
     iterate 2 refine sdk (v := .bool false) A λa A↦?_
     refine sda A λa A↦?_
     refine qa (hK2 _ _ (wp_ret (hret _ _ (en1 A rfl (qe rfl) ?_))))
     subst hr
     exact ⟨by rw [show ko n = false from by unfold ko; apply decide_eq_false; omega], M.bel⟩
  ·
   have hb4' := of_decide_eq_false hb4
   refine sdc A ki hb4 λa A↦?_
   refine sdk (v := .bool false) A λa A↦?_
   refine sdm A λa A↦?_
   iterate 3 refine qr A rfl rfl rfl λa A↦?_
   iterate 2 refine qdd A rfl rfl rfl λa A↦?_
   refine qr A rfl rfl rfl λa A↦?_
   refine sdk (v := .bool false) A λa A↦?_
   refine sda A λa A↦?_
   refine qa (hK2 _ _ (wp_ret (hret _ _ (en1 A rfl (qe rfl) ?_))))
   subst hr
   exact ⟨by rw [show ko n = false from by unfold ko; apply decide_eq_false; omega], M.bel⟩
 ·
  have hb3' := of_decide_eq_false hb3
  refine sdc A xl hb3 λa A↦?_
  refine sdm A λa A↦?_
  iterate 2 refine qr A rfl rfl rfl λa A↦?_
  refine sdk (v := .bool false) A λa A↦?_
  refine sdm A λa A↦?_
  iterate 3 refine qr A rfl rfl rfl λa A↦?_
  iterate 2 refine qdd A rfl rfl rfl λa A↦?_
  refine qr A rfl rfl rfl λa A↦?_
  refine sdk (v := .bool false) A λa A↦?_
  refine sda A λa A↦?_
  refine qa (hK2 _ _ (wp_ret (hret _ _ (en1 A rfl (qe rfl) ?_))))
  subst hr
  exact ⟨by rw [show ko n = false from by unfold ko; apply decide_eq_false; omega], M.bel⟩
/-- Sound by its kind, asked in the document's order. -/
def vp (k n : Int) (q : Q6) (s : ByteArray) (mr ml : Nat) : Bool :=
 if k < 1 ∨ 11 < k ∨ okS s = false then false
 else if k = 3 ∧ jt q = false then false
 else if k ≠ 3 ∧ (ke q.b1 q.t1.length q.q1.length = false ∨ ke q.b2 q.t2.length q.q2.length = false) then false
 else if s ≠ ⟨#[]⟩ ∧ k ≠ 5 ∧ k ≠ 6 ∧ k ≠ 11 then false
 else if 0 < mr ∧ k ≠ 7 then false
 else if k = 2 ∧ n ≠ 0 ∧ n ≠ 1 then false
 else if k = 4 ∧ ko n = false then false
 else if k ≠ 2 ∧ k ≠ 4 ∧ n ≠ 0 then false
 else if k = 8 then decide (ml = 2)
 else decide (k = 9 ∨ ml = 0)
theorem zyh : okS ⟨#[]⟩ = true := by unfold okS; rfl
theorem jm (k n : Int) (q : Q6) (s : ByteArray) (mr ml : Nat) : jl k n q s mr ml = vp k n q s mr ml := by
 have hv : s = ⟨#[]⟩ → okS s = true := by rintro rfl; exact zyh
 have hn0 : ke false 0 0 = true := rfl
 unfold jl vp
 by_cases hk : k < 1 ∨ 11 < k
 ·
  rw [if_pos (show k < 1 ∨ 11 < k ∨ okS s = false by omega)]
  repeat (rw [if_neg (by omega)])
 ·
  have h11 : k = 1 ∨ k = 2 ∨ k = 3 ∨ k = 4 ∨ k = 5 ∨ k = 6 ∨ k = 7 ∨ k = 8 ∨ k = 9 ∨ k = 10 ∨ k = 11 := by omega
  simp only [vi, hn0]
  generalize ke q.b1 q.t1.length q.q1.length = B1
  generalize ke q.b2 q.t2.length q.q2.length = B2
  generalize jt q = S1
  generalize ko n = S2
  by_cases hs : s = ⟨#[]⟩
  ·
   rw [hv hs]
   have hs2 : ¬ s ≠ ⟨#[]⟩ := fun h => h hs
   rcases h11 with h | h | h | h | h | h | h | h | h | h | h <;> subst h <;> cases B1 <;> cases B2 <;> cases S1 <;> cases S2 <;> simp [hs] <;> by_cases hm : mr = 0 <;> simp [hm] <;> by_cases hn : n = 0 <;> simp [hn] <;> first | omega | (by_cases hn1 : n = 1 <;> simp [hn1]) | skip
  ·
   cases hV : okS s <;> rcases h11 with h | h | h | h | h | h | h | h | h | h | h <;> subst h <;> cases B1 <;> cases B2 <;> cases S1 <;> cases S2 <;> simp [hs] <;> by_cases hm : mr = 0 <;> simp [hm] <;> by_cases hn : n = 0 <;> simp [hn] <;> first | omega | skip
section
variable {k n : Int} {q : Q6} {s : ByteArray} {mr ml : Nat}
def ShA (k : Int) (s : ByteArray) : Prop := 1 ≤ k ∧ k ≤ 11 ∧ okS s = true
def ShB (k : Int) (q : Q6) : Prop := (k = 3 → jt q = true) ∧ (k ≠ 3 → ke q.b1 q.t1.length q.q1.length = true ∧ ke q.b2 q.t2.length q.q2.length = true)
def ShC (k : Int) (s : ByteArray) : Prop := s = ⟨#[]⟩ ∨ k = 5 ∨ k = 6 ∨ k = 11
def ShD (k : Int) (mr : Nat) : Prop := mr = 0 ∨ k = 7
def ShE (k n : Int) : Prop := (k = 2 → n = 0 ∨ n = 1) ∧ (k = 4 → ko n = true) ∧ (k ≠ 2 → k ≠ 4 → n = 0)
theorem sh1 (h : k < 1 ∨ 11 < k ∨ okS s = false) : vp k n q s mr ml = false := by unfold vp; rw [if_pos h]
theorem shA (a : ShA k s) : ¬ (k < 1 ∨ 11 < k ∨ okS s = false) := fun e => by
 rcases e with e | e | e
 ·
  have := a.1; omega
 ·
  have := a.2.1; omega
 ·
  rw [a.2.2] at e; cases e
theorem sh2 (a : ShA k s) (h : k = 3) (S : jt q = false) : vp k n q s mr ml = false := by unfold vp; rw [if_neg (shA a), if_pos ⟨h, S⟩]
theorem sh3 (a : ShA k s) (h : k ≠ 3) (S : ke q.b1 q.t1.length q.q1.length = false ∨ ke q.b2 q.t2.length q.q2.length = false) : vp k n q s mr ml = false := by unfold vp; rw [if_neg (shA a), if_neg (fun e => h e.1), if_pos ⟨h, S⟩]
theorem zyi (b : ShB k q) : ¬ (k = 3 ∧ jt q = false) := fun e => by have := b.1 e.1; rw [e.2] at this; cases this
theorem zyj (b : ShB k q) : ¬ (k ≠ 3 ∧ (ke q.b1 q.t1.length q.q1.length = false ∨ ke q.b2 q.t2.length q.q2.length = false)) := fun e => by
 have := b.2 e.1
 rcases e.2 with h | h
 ·
  rw [this.1] at h; cases h
 ·
  rw [this.2] at h; cases h
theorem sh4 (a : ShA k s) (b : ShB k q) (h : s ≠ ⟨#[]⟩ ∧ k ≠ 5 ∧ k ≠ 6 ∧ k ≠ 11) : vp k n q s mr ml = false := by unfold vp; rw [if_neg (shA a), if_neg (zyi b), if_neg (zyj b), if_pos h]
theorem shC (c : ShC k s) : ¬ (s ≠ ⟨#[]⟩ ∧ k ≠ 5 ∧ k ≠ 6 ∧ k ≠ 11) := fun e => by rcases c with h | h | h | h <;> first | exact e.1 h | exact e.2.1 h | exact e.2.2.1 h | exact e.2.2.2 h
theorem sh5 (a : ShA k s) (b : ShB k q) (c : ShC k s) (h : 0 < mr ∧ k ≠ 7) : vp k n q s mr ml = false := by unfold vp; rw [if_neg (shA a), if_neg (zyi b), if_neg (zyj b), if_neg (shC c), if_pos h]
theorem shD (d : ShD k mr) : ¬ (0 < mr ∧ k ≠ 7) := fun e => by rcases d with h | h <;> omega
theorem sh6 (a : ShA k s) (b : ShB k q) (c : ShC k s) (d : ShD k mr) (h : (k = 2 ∧ n ≠ 0 ∧ n ≠ 1) ∨ (k = 4 ∧ ko n = false) ∨ (k ≠ 2 ∧ k ≠ 4 ∧ n ≠ 0)) : vp k n q s mr ml = false := by
 unfold vp
 rw [if_neg (shA a), if_neg (zyi b), if_neg (zyj b), if_neg (shC c), if_neg (shD d)]
 rcases h with h | h | h
 ·
  rw [if_pos h]
 ·
  rw [if_neg (by omega), if_pos h]
 ·
  rw [if_neg (by omega), if_neg (fun e => h.2.1 e.1), if_pos h]
theorem sh9 (a : ShA k s) (b : ShB k q) (c : ShC k s) (d : ShD k mr) (e : ShE k n) : vp k n q s mr ml = if k = 8 then decide (ml = 2) else decide (k = 9 ∨ ml = 0) := by
 unfold vp
 have e1 := e.1
 have e3 := e.2.2
 rw [if_neg (shA a), if_neg (zyi b), if_neg (zyj b), if_neg (shC c), if_neg (shD d), if_neg (fun h => by have := e1 h.1; omega), if_neg (fun h => by have := e.2.1 h.1; rw [h.2] at this; cases this), if_neg (fun h => by have := e3 h.1 h.2.1; omega)]
end
theorem qpd {w : World} {d : Nd} {ts : List Dt} (hok : NdOk w d) (hs2 : d.s.size ≤ 4000000) (hlen : ts.length ≤ 9223372036854775807) {r : Bool} (hr : jl d.k d.n d.y.q d.s d.rl.length ts.length = r) : Calls Tryz.prog 73 #[.agg (d.cells ts.length).toArray] w fun e w' => e = .returned (.bool r) ∧ Below w.heap.size w w' := by
 have hrl : d.rl.length ≤ 9223372036854775807 := Nat.le_trans hok.rcap hok.rmax
 have M : Mg w w ([]) := Mg.start w
 refine qx (l := [(0, .agg (d.cells ts.length).toArray)]) Tryz.func73 rfl Tryz.ntmps73 rfl rfl ?_
 intro Q hret hnorm hP a A
 refine wsk fun K1 hK1 => wrl (zv (vs := [.int .i64 d.k, .int .i64 d.n, .bool d.y.q.b1, .slice d.y.o1 d.y.q.t1.length d.y.c1, .slice d.y.o2 d.y.q.q1.length d.y.c2, .bool d.y.q.b2, .slice d.y.o3 d.y.q.t2.length d.y.c3, .slice d.y.o4 d.y.q.q2.length d.y.c4, .string d.s, .slice d.ro d.rl.length d.rc, .slice d.lo ts.length d.lc]) (t := 30) A M rfl rfl rfl pg (qt rfl rfl) (by decide) ?_)
 intro g2 w3 M a A
 refine sda A λa A↦?_
 refine qa (hK1 _ _ (wsk fun K4 hK4 => ?_))
 have hJ5 : ∀ a w1, ((ShA d.k d.s) ∧ Sl a 100 [(0, .agg (d.cells ts.length).toArray), (1, .pointer (some ⟨g2, 0, none⟩))] ∧ Mg w w1 (.obj g2 (.cells (d.cells ts.length).toArray 30) :: [])) → K4 a w1 := by
  clear A M
  rintro a w6 ⟨hf7, A, M⟩
  have hSA := hf7
  refine hK4 _ _ (wsk fun K8 hK8 => ?_)
  have hJ9 : ∀ a w1, ((ShB d.k d.y.q) ∧ Sl a 100 [(0, .agg (d.cells ts.length).toArray), (1, .pointer (some ⟨g2, 0, none⟩))] ∧ Mg w w1 (.obj g2 (.cells (d.cells ts.length).toArray 30) :: [])) → K8 a w1 := by
   clear A M
   rintro a w10 ⟨hf11, A, M⟩
   have hSB := hf11
   refine hK8 _ _ (wsk fun K12 hK12 => ?_)
   have hJ13 : ∀ a w1, ((ShC d.k d.s) ∧ Sl a 100 [(0, .agg (d.cells ts.length).toArray), (1, .pointer (some ⟨g2, 0, none⟩))] ∧ Mg w w1 (.obj g2 (.cells (d.cells ts.length).toArray 30) :: [])) → K12 a w1 := by
    clear A M
    rintro a w14 ⟨hf15, A, M⟩
    have hSC := hf15
    refine hK12 _ _ (wsk fun K16 hK16 => ?_)
    have hJ17 : ∀ a w1, ((ShD d.k d.rl.length) ∧ Sl a 100 [(0, .agg (d.cells ts.length).toArray), (1, .pointer (some ⟨g2, 0, none⟩))] ∧ Mg w w1 (.obj g2 (.cells (d.cells ts.length).toArray 30) :: [])) → K16 a w1 := by
     clear A M
     rintro a w18 ⟨hf19, A, M⟩
     have hSD := hf19
     refine hK16 _ _ (wsk fun K20 hK20 => ?_)
     have hJ21 : ∀ a w1, ((ShE d.k d.n) ∧ Sl a 100 [(0, .agg (d.cells ts.length).toArray), (1, .pointer (some ⟨g2, 0, none⟩))] ∧ Mg w w1 (.obj g2 (.cells (d.cells ts.length).toArray 30) :: [])) → K20 a w1 := by
      clear A M
      rintro a w22 ⟨hf23, A, M⟩
      have hSE := hf23
      refine hK20 _ _ (wsk fun K24 hK24 => wsk fun K25 hK25 => wrl (sdo (v := .pointer (some ⟨g2, 0, none⟩)) A (qb TrV_fld_30_0 rfl rfl) λa A↦?_))
      refine sdo A (ql M TrV_is1_3 rfl 0 rfl rfl) λa A↦?_
      rcases tf ((d.k == 8)) with hb26 | hb26
      ·
       have hb26' := eq_of_beq hb26
       refine sdc A qk hb26 λa A↦?_
       refine qa (hK25 _ _ (wp_cond_true (A.ev rfl) ?_))
       refine wsk fun K27 hK27 => wrl (sdo (v := .pointer (some ⟨g2, 10, none⟩)) A (qb TrV_fld_30_5 rfl rfl) λa A↦?_)
       refine sdo A (ql M TrV_is1_22 rfl 0 rfl rfl) λa A↦?_
       refine sdo A (zb Tryz.underlying22 rfl) λa A↦?_
       rcases tf ((((ts.length : Nat) : Int) == 2)) with hb28 | hb28
       ·
        have hb28' := eq_of_beq hb28
        refine sdc A qk hb28 λa A↦?_
        refine sda A λa A↦?_
        refine qa (hK27 _ _ (wp_ret (hret _ _ (en1 A rfl (qe rfl) ?_))))
        exact ⟨by rw [← hr, jm, sh9 hSA hSB hSC hSD hSE, if_pos (by omega), decide_eq_true (show (ts.length = 2) by omega)], M.bel⟩
       ·
        have hb28' := ne_of_beq_false hb28
        refine sdc A qk hb28 λa A↦?_
        refine sda A λa A↦?_
        refine qa (hK27 _ _ (wp_ret (hret _ _ (en1 A rfl (qe rfl) ?_))))
        exact ⟨by rw [← hr, jm, sh9 hSA hSB hSC hSD hSE, if_pos (by omega), decide_eq_false (show ¬ (ts.length = 2) by omega)], M.bel⟩
      ·
       have hb26' := ne_of_beq_false hb26
       refine sdc A qk hb26 λa A↦?_
       refine qa (hK25 _ _ (wp_cond_false (A.ev rfl) ?_))
       refine wp_skip (hK24 _ _ (wsk fun K29 hK29 => wrl (sdo (v := .pointer (some ⟨g2, 0, none⟩)) A (qb TrV_fld_30_0 rfl rfl) λa A↦?_)))
       refine sdo A (ql M TrV_is1_3 rfl 0 rfl rfl) λa A↦?_
       rcases tf ((d.k == 9)) with hb30 | hb30
       ·
        have hb30' := eq_of_beq hb30
        refine sdc A qk hb30 λa A↦?_
        refine sdm A λa A↦?_
        iterate 4 refine qr A rfl rfl rfl λa A↦?_
        refine sdk (v := .bool true) A λa A↦?_
        refine sda A λa A↦?_
        refine qa (hK29 _ _ (wp_ret (hret _ _ (en1 A rfl (qe rfl) ?_))))
        exact ⟨by rw [← hr, jm, sh9 hSA hSB hSC hSD hSE, if_neg (by omega), decide_eq_true (show (d.k = 9 ∨ ts.length = 0) by omega)], M.bel⟩
       ·
        have hb30' := ne_of_beq_false hb30
        refine sdc A qk hb30 λa A↦?_
        refine sdm A λa A↦?_
        refine sdo (v := .pointer (some ⟨g2, 10, none⟩)) A (qb TrV_fld_30_5 rfl rfl) λa A↦?_
        refine sdo A (ql M TrV_is1_22 rfl 0 rfl rfl) λa A↦?_
        refine sdo A (zb Tryz.underlying22 rfl) λa A↦?_
        rcases tf ((((ts.length : Nat) : Int) == 0)) with hb31 | hb31
        ·
         have hb31' := eq_of_beq hb31
         refine sdc A qk hb31 λa A↦?_
         refine sdk (v := .bool true) A λa A↦?_
         refine sda A λa A↦?_
         refine qa (hK29 _ _ (wp_ret (hret _ _ (en1 A rfl (qe rfl) ?_))))
         exact ⟨by rw [← hr, jm, sh9 hSA hSB hSC hSD hSE, if_neg (by omega), decide_eq_true (show (d.k = 9 ∨ ts.length = 0) by omega)], M.bel⟩
        ·
         have hb31' := ne_of_beq_false hb31
         refine sdc A qk hb31 λa A↦?_
         refine sdk (v := .bool false) A λa A↦?_
         refine sda A λa A↦?_
         refine qa (hK29 _ _ (wp_ret (hret _ _ (en1 A rfl (qe rfl) ?_))))
         exact ⟨by rw [← hr, jm, sh9 hSA hSB hSC hSD hSE, if_neg (by omega), decide_eq_false (show ¬ (d.k = 9 ∨ ts.length = 0) by omega)], M.bel⟩
     refine wsk fun K32 hK32 => wrl (sdo (v := .pointer (some ⟨g2, 0, none⟩)) A (qb TrV_fld_30_0 rfl rfl) λa A↦?_)
     refine sdo A (ql M TrV_is1_3 rfl 0 rfl rfl) λa A↦?_
     refine qa (hK32 _ _ (wp_block (wsk fun K33 hK33 => wrl ?_)))
     rcases tf ((d.k == 2)) with hb34 | hb34
     ·
      have hb34' := eq_of_beq hb34
      refine sdc A qk hb34 λa A↦?_
      refine sda A λa A↦?_
      refine qa (hK33 _ _ (wp_cond_true (A.ev rfl) ?_))
      refine wsk fun K35 hK35 => wrl (sdo (v := .pointer (some ⟨g2, 1, none⟩)) A (qb TrV_fld_30_1 rfl rfl) λa A↦?_)
      refine sdo A (ql M TrV_is1_3 rfl 0 rfl rfl) λa A↦?_
      rcases tf ((d.n != 0)) with hb36 | hb36
      ·
       have hb36' := bne_iff_ne.1 hb36
       refine sdc A zr hb36 λa A↦?_
       refine sdm A λa A↦?_
       refine sdo (v := .pointer (some ⟨g2, 1, none⟩)) A (qb TrV_fld_30_1 rfl rfl) λa A↦?_
       refine sdo A (ql M TrV_is1_3 rfl 0 rfl rfl) λa A↦?_
       rcases tf ((d.n != 1)) with hb37 | hb37
       ·
        have hb37' := bne_iff_ne.1 hb37
        refine sdc A zr hb37 λa A↦?_
        refine sdk (v := .bool true) A λa A↦?_
        refine qa (hK35 _ _ (wp_cond_true (A.ev rfl) ?_))
        refine wsk fun K38 hK38 => wrl (sda A λa A↦?_)
        refine qa (hK38 _ _ (wp_ret (hret _ _ (en1 A rfl (qe rfl) ?_))))
        exact ⟨by rw [← hr, jm, sh6 hSA hSB hSC hSD (.inl ⟨by omega, by omega, by omega⟩)], M.bel⟩
       ·
        have hb37' := bne_eq_false_iff_eq.1 hb37
        refine sdc A zr hb37 λa A↦?_
        refine sdk (v := .bool false) A λa A↦?_
        refine qa (hK35 _ _ (wp_cond_false (A.ev rfl) ?_))
        refine wp_skip ?_
        exact hJ21 _ _ ⟨⟨fun h => by omega, fun h => absurd h (by omega), fun h h2 => by omega⟩, A.keep _ ⟨rfl, rfl, trivial⟩, M⟩
      ·
       have hb36' := bne_eq_false_iff_eq.1 hb36
       refine sdc A zr hb36 λa A↦?_
       refine sdm A λa A↦?_
       iterate 3 refine qr A rfl rfl rfl λa A↦?_
       refine sdk (v := .bool false) A λa A↦?_
       refine qa (hK35 _ _ (wp_cond_false (A.ev rfl) ?_))
       refine wp_skip ?_
       exact hJ21 _ _ ⟨⟨fun h => by omega, fun h => absurd h (by omega), fun h h2 => by omega⟩, A.keep _ ⟨rfl, rfl, trivial⟩, M⟩
     ·
      have hb34' := ne_of_beq_false hb34
      refine sdc A qk hb34 λa A↦?_
      refine sda A λa A↦?_
      refine qa (hK33 _ _ (wp_cond_false (A.ev rfl) ?_))
      refine wsk fun K39 hK39 => wrl ?_
      rcases tf ((d.k == 4)) with hb40 | hb40
      ·
       have hb40' := eq_of_beq hb40
       refine sdc A qk hb40 λa A↦?_
       refine sda A λa A↦?_
       refine qa (hK39 _ _ (wp_cond_true (A.ev rfl) ?_))
       refine wsk fun K41 hK41 => wrl (sdo (v := .pointer (some ⟨g2, 1, none⟩)) A (qb TrV_fld_30_1 rfl rfl) λa A↦?_)
       refine sdo A (ql M TrV_is1_3 rfl 0 rfl rfl) λa A↦?_
       rcases tf (ko d.n) with hb42 | hb42
       ·
        refine gcl A M (ef rfl rfl) (qtj hb42) fun w44 hb43 M a A => ?_
        refine sdo (v := .bool false) A (zk rfl zt) λa A↦?_
        refine qa (hK41 _ _ (wp_cond_false (A.ev rfl) ?_))
        refine wp_skip ?_
        exact hJ21 _ _ ⟨⟨fun h => by omega, fun h => hb42, fun h h2 => by omega⟩, A.keep _ ⟨rfl, rfl, trivial⟩, M⟩
       ·
        refine gcl A M (ef rfl rfl) (qtj hb42) fun w46 hb45 M a A => ?_
        refine sdo (v := .bool true) A (zk rfl zt) λa A↦?_
        refine qa (hK41 _ _ (wp_cond_true (A.ev rfl) ?_))
        refine wsk fun K47 hK47 => wrl (sda A λa A↦?_)
        refine qa (hK47 _ _ (wp_ret (hret _ _ (en1 A rfl (qe rfl) ?_))))
        exact ⟨by rw [← hr, jm, sh6 hSA hSB hSC hSD (.inr (.inl ⟨by omega, hb42⟩))], M.bel⟩
      ·
       have hb40' := ne_of_beq_false hb40
       refine sdc A qk hb40 λa A↦?_
       refine sda A λa A↦?_
       refine qa (hK39 _ _ (wp_cond_false (A.ev rfl) ?_))
       refine wsk fun K48 hK48 => wrl (sdo (v := .pointer (some ⟨g2, 1, none⟩)) A (qb TrV_fld_30_1 rfl rfl) λa A↦?_)
       refine sdo A (ql M TrV_is1_3 rfl 0 rfl rfl) λa A↦?_
       rcases tf ((d.n != 0)) with hb49 | hb49
       ·
        have hb49' := bne_iff_ne.1 hb49
        refine sdc A zr hb49 λa A↦?_
        refine qa (hK48 _ _ (wp_cond_true (A.ev rfl) ?_))
        refine wsk fun K50 hK50 => wrl (sda A λa A↦?_)
        refine qa (hK50 _ _ (wp_ret (hret _ _ (en1 A rfl (qe rfl) ?_))))
        exact ⟨by rw [← hr, jm, sh6 hSA hSB hSC hSD (.inr (.inr ⟨by omega, by omega, by omega⟩))], M.bel⟩
       ·
        have hb49' := bne_eq_false_iff_eq.1 hb49
        refine sdc A zr hb49 λa A↦?_
        refine qa (hK48 _ _ (wp_cond_false (A.ev rfl) ?_))
        refine wp_skip ?_
        exact hJ21 _ _ ⟨⟨fun h => by omega, fun h => absurd h (by omega), fun h h2 => by omega⟩, A.keep _ ⟨rfl, rfl, trivial⟩, M⟩
    refine wsk fun K51 hK51 => wrl (sdo (v := .pointer (some ⟨g2, 9, none⟩)) A (qb TrV_fld_30_4 rfl rfl) λa A↦?_)
    refine sdo A (ql M TrV_is1_28 rfl 0 rfl rfl) λa A↦?_
    refine sdo A (zb Tryz.underlying28 rfl) λa A↦?_
    rcases tf (decide (0 < ((d.rl.length : Nat) : Int))) with hb52 | hb52
    ·
     have hb52' := of_decide_eq_true hb52
     refine sdc A jq hb52 λa A↦?_
     refine sdm A λa A↦?_
     refine sdo (v := .pointer (some ⟨g2, 0, none⟩)) A (qb TrV_fld_30_0 rfl rfl) λa A↦?_
     refine sdo A (ql M TrV_is1_3 rfl 0 rfl rfl) λa A↦?_
     rcases tf ((d.k != 7)) with hb53 | hb53
     ·
      have hb53' := bne_iff_ne.1 hb53
      refine sdc A zr hb53 λa A↦?_
      refine sdk (v := .bool true) A λa A↦?_
      refine qa (hK51 _ _ (wp_cond_true (A.ev rfl) ?_))
      refine wsk fun K54 hK54 => wrl (sda A λa A↦?_)
      refine qa (hK54 _ _ (wp_ret (hret _ _ (en1 A rfl (qe rfl) ?_))))
      exact ⟨by rw [← hr, jm, sh5 hSA hSB hSC ⟨by omega, by omega⟩], M.bel⟩
     ·
      have hb53' := bne_eq_false_iff_eq.1 hb53
      refine sdc A zr hb53 λa A↦?_
      refine sdk (v := .bool false) A λa A↦?_
      refine qa (hK51 _ _ (wp_cond_false (A.ev rfl) ?_))
      refine wp_skip ?_
      exact hJ17 _ _ ⟨.inr (by omega), A.keep _ ⟨rfl, rfl, trivial⟩, M⟩
    ·
     have hb52' := of_decide_eq_false hb52
     refine sdc A jq hb52 λa A↦?_
     refine sdm A λa A↦?_
     iterate 3 refine qr A rfl rfl rfl λa A↦?_
     refine sdk (v := .bool false) A λa A↦?_
     refine qa (hK51 _ _ (wp_cond_false (A.ev rfl) ?_))
     refine wp_skip ?_
     exact hJ17 _ _ ⟨.inl (by omega), A.keep _ ⟨rfl, rfl, trivial⟩, M⟩
   refine wsk fun K55 hK55 => wrl (sdo (v := .pointer (some ⟨g2, 8, none⟩)) A (qb TrV_fld_30_3 rfl rfl) λa A↦?_)
   refine sdo A (ql M TrV_is1_9 rfl 0 rfl rfl) λa A↦?_
   rcases tf (decide (d.s = ⟨#[]⟩)) with hb56 | hb56
   ·
    have hb56' := of_decide_eq_true hb56
    refine sdo (v := .bool false) A (qh rfl rfl (fun w => (qgh Tryz.underlying9 w).trans (by rw [hb56] <;> rfl))) λa A↦?_
    refine sdm A λa A↦?_
    iterate 3 refine qr A rfl rfl rfl λa A↦?_
    refine sdk (v := .bool false) A λa A↦?_
    refine sdm A λa A↦?_
    iterate 3 refine qr A rfl rfl rfl λa A↦?_
    refine sdk (v := .bool false) A λa A↦?_
    refine sdm A λa A↦?_
    iterate 3 refine qr A rfl rfl rfl λa A↦?_
    refine sdk (v := .bool false) A λa A↦?_
    refine qa (hK55 _ _ (wp_cond_false (A.ev rfl) ?_))
    refine wp_skip ?_
    exact hJ13 _ _ ⟨.inl hb56', A.keep _ ⟨rfl, rfl, trivial⟩, M⟩
   ·
    have hb56' := of_decide_eq_false hb56
    refine sdo (v := .bool true) A (qh rfl rfl (fun w => (qgh Tryz.underlying9 w).trans (by rw [hb56] <;> rfl))) λa A↦?_
    refine sdm A λa A↦?_
    refine sdo (v := .pointer (some ⟨g2, 0, none⟩)) A (qb TrV_fld_30_0 rfl rfl) λa A↦?_
    refine sdo A (ql M TrV_is1_3 rfl 0 rfl rfl) λa A↦?_
    rcases tf ((d.k != 5)) with hb57 | hb57
    ·
     have hb57' := bne_iff_ne.1 hb57
     refine sdc A zr hb57 λa A↦?_
     refine sdk (v := .bool true) A λa A↦?_
     refine sdm A λa A↦?_
     refine sdo (v := .pointer (some ⟨g2, 0, none⟩)) A (qb TrV_fld_30_0 rfl rfl) λa A↦?_
     refine sdo A (ql M TrV_is1_3 rfl 0 rfl rfl) λa A↦?_
     rcases tf ((d.k != 6)) with hb58 | hb58
     ·
      have hb58' := bne_iff_ne.1 hb58
      refine sdc A zr hb58 λa A↦?_
      refine sdk (v := .bool true) A λa A↦?_
      refine sdm A λa A↦?_
      refine sdo (v := .pointer (some ⟨g2, 0, none⟩)) A (qb TrV_fld_30_0 rfl rfl) λa A↦?_
      refine sdo A (ql M TrV_is1_3 rfl 0 rfl rfl) λa A↦?_
      rcases tf ((d.k != 11)) with hb59 | hb59
      ·
       have hb59' := bne_iff_ne.1 hb59
       refine sdc A zr hb59 λa A↦?_
       refine sdk (v := .bool true) A λa A↦?_
       refine qa (hK55 _ _ (wp_cond_true (A.ev rfl) ?_))
       refine wsk fun K60 hK60 => wrl (sda A λa A↦?_)
       refine qa (hK60 _ _ (wp_ret (hret _ _ (en1 A rfl (qe rfl) ?_))))
       exact ⟨by rw [← hr, jm, sh4 hSA hSB ⟨hb56', by omega, by omega, by omega⟩], M.bel⟩
      ·
       have hb59' := bne_eq_false_iff_eq.1 hb59
       refine sdc A zr hb59 λa A↦?_
       refine sdk (v := .bool false) A λa A↦?_
       refine qa (hK55 _ _ (wp_cond_false (A.ev rfl) ?_))
       refine wp_skip ?_
       exact hJ13 _ _ ⟨.inr (by omega), A.keep _ ⟨rfl, rfl, trivial⟩, M⟩
     ·
      have hb58' := bne_eq_false_iff_eq.1 hb58
      refine sdc A zr hb58 λa A↦?_
      refine sdk (v := .bool false) A λa A↦?_
      refine sdm A λa A↦?_
      iterate 3 refine qr A rfl rfl rfl λa A↦?_
      refine sdk (v := .bool false) A λa A↦?_
      refine qa (hK55 _ _ (wp_cond_false (A.ev rfl) ?_))
      refine wp_skip ?_
      exact hJ13 _ _ ⟨.inr (by omega), A.keep _ ⟨rfl, rfl, trivial⟩, M⟩
    ·
     have hb57' := bne_eq_false_iff_eq.1 hb57
     refine sdc A zr hb57 λa A↦?_
     refine sdk (v := .bool false) A λa A↦?_
     refine sdm A λa A↦?_
     iterate 3 refine qr A rfl rfl rfl λa A↦?_
     refine sdk (v := .bool false) A λa A↦?_
     refine sdm A λa A↦?_
     iterate 3 refine qr A rfl rfl rfl λa A↦?_
     refine sdk (v := .bool false) A λa A↦?_
     refine qa (hK55 _ _ (wp_cond_false (A.ev rfl) ?_))
     refine wp_skip ?_
     exact hJ13 _ _ ⟨.inr (by omega), A.keep _ ⟨rfl, rfl, trivial⟩, M⟩
  refine wsk fun K61 hK61 => wrl (sdo (v := .pointer (some ⟨g2, 0, none⟩)) A (qb TrV_fld_30_0 rfl rfl) λa A↦?_)
  refine sdo A (ql M TrV_is1_3 rfl 0 rfl rfl) λa A↦?_
  rcases tf ((d.k == 3)) with hb62 | hb62
  ·
   have hb62' := eq_of_beq hb62
   refine sdc A qk hb62 λa A↦?_
   refine qa (hK61 _ _ (wp_cond_true (A.ev rfl) ?_))
   refine wsk fun K63 hK63 => wrl (sdo (v := .pointer (some ⟨g2, 2, none⟩)) A (qb TrV_fld_30_2 rfl rfl) λa A↦?_)
   refine sdo A (za M TrV_isS_27 rfl 0 rfl (cs := [.bool d.y.q.b1, .slice d.y.o1 d.y.q.t1.length d.y.c1, .slice d.y.o2 d.y.q.q1.length d.y.c2, .bool d.y.q.b2, .slice d.y.o3 d.y.q.t2.length d.y.c3, .slice d.y.o4 d.y.q.q2.length d.y.c4]) rfl rfl) λa A↦?_
   rcases tf (jt d.y.q) with hb64 | hb64
   ·
    refine gcl A M (ef rfl rfl) (qkh (Nu.below hok.num M.bel) hok.len hb64) fun w66 hb65 M a A => ?_
    refine sdo (v := .bool false) A (zk rfl zt) λa A↦?_
    refine qa (hK63 _ _ (wp_cond_false (A.ev rfl) ?_))
    refine wp_skip ?_
    exact hJ9 _ _ ⟨⟨fun _ => hb64, fun h => absurd (show d.k = 3 by omega) h⟩, A.keep _ ⟨rfl, rfl, trivial⟩, M⟩
   ·
    refine gcl A M (ef rfl rfl) (qkh (Nu.below hok.num M.bel) hok.len hb64) fun w68 hb67 M a A => ?_
    refine sdo (v := .bool true) A (zk rfl zt) λa A↦?_
    refine qa (hK63 _ _ (wp_cond_true (A.ev rfl) ?_))
    refine wsk fun K69 hK69 => wrl (sda A λa A↦?_)
    refine qa (hK69 _ _ (wp_ret (hret _ _ (en1 A rfl (qe rfl) ?_))))
    exact ⟨by rw [← hr, jm, sh2 hSA (by omega) hb64], M.bel⟩
  ·
   have hb62' := ne_of_beq_false hb62
   refine sdc A qk hb62 λa A↦?_
   refine qa (hK61 _ _ (wp_cond_false (A.ev rfl) ?_))
   refine wsk fun K70 hK70 => wrl (sdo (v := .pointer (some ⟨g2, 2, none⟩)) A (qb TrV_fld_30_2 rfl rfl) λa A↦?_)
   refine sdo (v := .pointer (some ⟨g2, 2, none⟩)) A (qb TrV_fld_27_0 rfl rfl) λa A↦?_
   refine sdo A (za M TrV_isS_25 rfl 0 rfl (cs := [.bool d.y.q.b1, .slice d.y.o1 d.y.q.t1.length d.y.c1, .slice d.y.o2 d.y.q.q1.length d.y.c2]) rfl rfl) λa A↦?_
   rcases tf (ke d.y.q.b1 d.y.q.t1.length d.y.q.q1.length) with hb71 | hb71
   ·
    refine gcl A M (ef rfl rfl) (qdi hok.len.l1 hok.len.l2 hb71) fun w73 hb72 M a A => ?_
    refine sdo (v := .bool false) A (zk rfl zt) λa A↦?_
    refine sdm A λa A↦?_
    refine sdo (v := .pointer (some ⟨g2, 2, none⟩)) A (qb TrV_fld_30_2 rfl rfl) λa A↦?_
    refine sdo (v := .pointer (some ⟨g2, 5, none⟩)) A (qb TrV_fld_27_1 rfl rfl) λa A↦?_
    refine sdo A (za M TrV_isS_25 rfl 0 rfl (cs := [.bool d.y.q.b2, .slice d.y.o3 d.y.q.t2.length d.y.c3, .slice d.y.o4 d.y.q.q2.length d.y.c4]) rfl rfl) λa A↦?_
    rcases tf (ke d.y.q.b2 d.y.q.t2.length d.y.q.q2.length) with hb74 | hb74
    ·
     refine gcl A M (ef rfl rfl) (qdi hok.len.l3 hok.len.l4 hb74) fun w76 hb75 M a A => ?_
     refine sdo (v := .bool false) A (zk rfl zt) λa A↦?_
     refine sdk (v := .bool false) A λa A↦?_
     refine qa (hK70 _ _ (wp_cond_false (A.ev rfl) ?_))
     refine wp_skip ?_
     exact hJ9 _ _ ⟨⟨fun h => absurd h (by omega), fun _ => ⟨hb71, hb74⟩⟩, A.keep _ ⟨rfl, rfl, trivial⟩, M⟩
    ·
     refine gcl A M (ef rfl rfl) (qdi hok.len.l3 hok.len.l4 hb74) fun w78 hb77 M a A => ?_
     refine sdo (v := .bool true) A (zk rfl zt) λa A↦?_
     refine sdk (v := .bool true) A λa A↦?_
     refine qa (hK70 _ _ (wp_cond_true (A.ev rfl) ?_))
     refine wsk fun K79 hK79 => wrl (sda A λa A↦?_)
     refine qa (hK79 _ _ (wp_ret (hret _ _ (en1 A rfl (qe rfl) ?_))))
     exact ⟨by rw [← hr, jm, sh3 hSA (by omega) (.inr hb74)], M.bel⟩
   ·
    refine gcl A M (ef rfl rfl) (qdi hok.len.l1 hok.len.l2 hb71) fun w81 hb80 M a A => ?_
    refine sdo (v := .bool true) A (zk rfl zt) λa A↦?_
    refine sdm A λa A↦?_
    iterate 5 refine qr A rfl rfl rfl λa A↦?_
    refine sdk (v := .bool true) A λa A↦?_
    refine qa (hK70 _ _ (wp_cond_true (A.ev rfl) ?_))
    refine wsk fun K82 hK82 => wrl (sda A λa A↦?_)
    refine qa (hK82 _ _ (wp_ret (hret _ _ (en1 A rfl (qe rfl) ?_))))
    exact ⟨by rw [← hr, jm, sh3 hSA (by omega) (.inl hb71)], M.bel⟩
 refine wsk fun K83 hK83 => wrl (sdo (v := .pointer (some ⟨g2, 0, none⟩)) A (qb TrV_fld_30_0 rfl rfl) λa A↦?_)
 refine sdo A (ql M TrV_is1_3 rfl 0 rfl rfl) λa A↦?_
 rcases tf (decide (d.k < 1)) with hb84 | hb84
 ·
  have hb84' := of_decide_eq_true hb84
  refine sdc A zj hb84 λa A↦?_
  refine sdm A λa A↦?_
  iterate 3 refine qr A rfl rfl rfl λa A↦?_
  refine sdk (v := .bool true) A λa A↦?_
  refine sdm A λa A↦?_
  iterate 4 refine qr A rfl rfl rfl λa A↦?_
  refine sdk (v := .bool true) A λa A↦?_
  refine qa (hK83 _ _ (wp_cond_true (A.ev rfl) ?_))
  refine wsk fun K85 hK85 => wrl (sda A λa A↦?_)
  refine qa (hK85 _ _ (wp_ret (hret _ _ (en1 A rfl (qe rfl) ?_))))
  exact ⟨by rw [← hr, jm, sh1 (by omega)], M.bel⟩
 ·
  have hb84' := of_decide_eq_false hb84
  refine sdc A zj hb84 λa A↦?_
  refine sdm A λa A↦?_
  refine sdo (v := .pointer (some ⟨g2, 0, none⟩)) A (qb TrV_fld_30_0 rfl rfl) λa A↦?_
  refine sdo A (ql M TrV_is1_3 rfl 0 rfl rfl) λa A↦?_
  rcases tf (decide (11 < d.k)) with hb86 | hb86
  ·
   have hb86' := of_decide_eq_true hb86
   refine sdc A jq hb86 λa A↦?_
   refine sdk (v := .bool true) A λa A↦?_
   refine sdm A λa A↦?_
   iterate 4 refine qr A rfl rfl rfl λa A↦?_
   refine sdk (v := .bool true) A λa A↦?_
   refine qa (hK83 _ _ (wp_cond_true (A.ev rfl) ?_))
   refine wsk fun K87 hK87 => wrl (sda A λa A↦?_)
   refine qa (hK87 _ _ (wp_ret (hret _ _ (en1 A rfl (qe rfl) ?_))))
   exact ⟨by rw [← hr, jm, sh1 (by omega)], M.bel⟩
  ·
   have hb86' := of_decide_eq_false hb86
   refine sdc A jq hb86 λa A↦?_
   refine sdk (v := .bool false) A λa A↦?_
   refine sdm A λa A↦?_
   refine sdo (v := .pointer (some ⟨g2, 8, none⟩)) A (qb TrV_fld_30_3 rfl rfl) λa A↦?_
   refine sdo A (ql M TrV_is1_9 rfl 0 rfl rfl) λa A↦?_
   rcases tf (okS d.s) with hb88 | hb88
   ·
    refine gcl A M (ef rfl rfl) (qpc hs2 hb88) fun w90 hb89 M a A => ?_
    refine sdo (v := .bool false) A (zk rfl zt) λa A↦?_
    refine sdk (v := .bool false) A λa A↦?_
    refine qa (hK83 _ _ (wp_cond_false (A.ev rfl) ?_))
    refine wp_skip ?_
    exact hJ5 _ _ ⟨⟨by omega, by omega, hb88⟩, A.keep _ ⟨rfl, rfl, trivial⟩, M⟩
   ·
    refine gcl A M (ef rfl rfl) (qpc hs2 hb88) fun w92 hb91 M a A => ?_
    refine sdo (v := .bool true) A (zk rfl zt) λa A↦?_
    refine sdk (v := .bool true) A λa A↦?_
    refine qa (hK83 _ _ (wp_cond_true (A.ev rfl) ?_))
    refine wsk fun K93 hK93 => wrl (sda A λa A↦?_)
    refine qa (hK93 _ _ (wp_ret (hret _ _ (en1 A rfl (qe rfl) ?_))))
    exact ⟨by rw [← hr, jm, sh1 (.inr (.inr hb88))], M.bel⟩
theorem TrW_is1_22 : Is1 Tryz.prog 22 := ⟨⟨_, Tryz.underlying22, rfl⟩, by kernel_rfl⟩
theorem TrW_is1_3 : Is1 Tryz.prog 3 := ⟨⟨_, Tryz.underlying3, rfl⟩, by kernel_rfl⟩
theorem TrW_fld_30_0 : FieldAt Tryz.prog 30 0 0 := ⟨_, _, Tryz.underlying30, rfl, rfl, by kernel_rfl⟩
theorem TrW_fld_30_5 : FieldAt Tryz.prog 30 5 10 := ⟨_, _, Tryz.underlying30, rfl, rfl, by kernel_rfl⟩
theorem TrW_isS_30 : IsS Tryz.prog 30 11 := ⟨⟨_, Tryz.underlying30⟩, by kernel_rfl⟩
def Counts (t : Dt) : Prop := ∀ {w : World} {dp left : Int}, t.rd w → t.tr.bulk ≤ 4000000 → 0 ≤ left → left ≤ 20000 → 0 ≤ dp → dp ≤ 201 → Calls Tryz.prog 55 #[.agg t.cells.toArray, .int .i64 dp, .int .i64 left] w fun e w' => e = .returned (.int .i64 (qee qi dp left t.tr)) ∧ Below w.heap.size w w'
theorem zpb : ∀ t : Dt, Counts t := Dt.indT fun d ts ih => by
 intro w dp left hrd hbk hl0 hl1 hd0 hd1
 have hok := (Dt.rd_iff.1 hrd)
 have hlen : ts.length ≤ 9223372036854775807 := Nat.le_trans hok.2.1 hok.2.2.1
 have M : Mg w w ([]) := Mg.start w
 refine qx (l := [(0, .agg (d.cells ts.length).toArray), (1, .int .i64 dp), (2, .int .i64 left)]) Tryz.func55 rfl Tryz.ntmps55 rfl rfl ?_
 intro Q hret hnorm hP a A
 refine wsk fun K1 hK1 => wrl (zv (vs := [.int .i64 d.k, .int .i64 d.n, .bool d.y.q.b1, .slice d.y.o1 d.y.q.t1.length d.y.c1, .slice d.y.o2 d.y.q.q1.length d.y.c2, .bool d.y.q.b2, .slice d.y.o3 d.y.q.t2.length d.y.c3, .slice d.y.o4 d.y.q.q2.length d.y.c4, .string d.s, .slice d.ro d.rl.length d.rc, .slice d.lo ts.length d.lc]) (t := 30) A M rfl rfl rfl pg (qt rfl rfl) (by decide) ?_)
 intro g2 w3 M a A
 refine sda A λa A↦?_
 refine qa (hK1 _ _ (wsk fun K4 hK4 => wsk fun K5 hK5 => wrl (sdm A λa A↦?_)))
 rcases tf (decide (200 < dp)) with hb6 | hb6
 ·
  have hb6' := of_decide_eq_true hb6
  refine sdc A jq hb6 λa A↦?_
  refine sdm A λa A↦?_
  iterate 2 refine qr A rfl rfl rfl λa A↦?_
  refine sdk (v := .bool true) A λa A↦?_
  refine sdm A λa A↦?_
  iterate 3 refine qr A rfl rfl rfl λa A↦?_
  refine sdk (v := .bool true) A λa A↦?_
  refine qa (hK5 _ _ (wp_cond_true (A.ev rfl) ?_))
  refine wsk fun K7 hK7 => wrl (sda A λa A↦?_)
  refine qa (hK7 _ _ (wp_ret (hret _ _ (en1 A rfl (qe rfl) ?_))))
  rw [qwa (by omega)]
  exact ⟨rfl, M.bel⟩
 ·
  have hb6' := of_decide_eq_false hb6
  refine sdc A jq hb6 λa A↦?_
  iterate 2 refine sdm A λa A↦?_
  rcases tf (decide (left ≤ 0)) with hb8 | hb8
  ·
   have hb8' := of_decide_eq_true hb8
   refine sdc A ki hb8 λa A↦?_
   refine sdk (v := .bool true) A λa A↦?_
   refine sdm A λa A↦?_
   iterate 3 refine qr A rfl rfl rfl λa A↦?_
   refine sdk (v := .bool true) A λa A↦?_
   refine qa (hK5 _ _ (wp_cond_true (A.ev rfl) ?_))
   refine wsk fun K9 hK9 => wrl (sda A λa A↦?_)
   refine qa (hK9 _ _ (wp_ret (hret _ _ (en1 A rfl (qe rfl) ?_))))
   rw [qwa (by omega)]
   exact ⟨rfl, M.bel⟩
  ·
   have hb8' := of_decide_eq_false hb8
   refine sdc A ki hb8 λa A↦?_
   refine sdk (v := .bool false) A λa A↦?_
   refine sdm A λa A↦?_
   refine sdo A (za M TrW_isS_30 rfl 0 rfl (cs := [.int .i64 d.k, .int .i64 d.n, .bool d.y.q.b1, .slice d.y.o1 d.y.q.t1.length d.y.c1, .slice d.y.o2 d.y.q.q1.length d.y.c2, .bool d.y.q.b2, .slice d.y.o3 d.y.q.t2.length d.y.c3, .slice d.y.o4 d.y.q.q2.length d.y.c4, .string d.s, .slice d.ro d.rl.length d.rc, .slice d.lo ts.length d.lc]) rfl rfl) λa A↦?_
   rcases tf (jl d.k d.n d.y.q d.s d.rl.length ts.length) with hb10 | hb10
   ·
    refine gcl A M (ef rfl rfl) (qpd (hok.1.below M.bel) (Nat.le_trans qrj hbk) hlen hb10) fun w12 hb11 M a A => ?_
    refine sdo (v := .bool false) A (zk rfl zt) λa A↦?_
    refine sdk (v := .bool false) A λa A↦?_
    refine qa (hK5 _ _ (wp_cond_false (A.ev rfl) ?_))
    refine wp_skip (hK4 _ _ (wsk fun K13 hK13 => wrl (sdm A λa A↦?_)))
    refine sdo (v := .int .i64 (left - 1)) A (qh rfl rfl (zih (xb (by omega) (by omega)))) λa A↦?_
    refine sda A λa A↦?_
    refine qa (hK13 _ _ (wsk fun K14 hK14 => wsk fun K15 hK15 => wrl (sda A λa A↦?_)))
    refine qa (hK15 _ _ (wp_block (jd (fun m_ a w1 => ∃ (i : Nat) (m : Int), m_ = 1 + (ts.length - i) ∧ (i ≤ ts.length ∧ qgg qi dp (decide (d.k = 8)) 0 (left - 1) ((ts.map Dt.tr).drop 0) = qgg qi dp (decide (d.k = 8)) i m ((ts.map Dt.tr).drop i) ∧ -1 ≤ m ∧ m ≤ 20000) ∧ Sl a 52 [(0, .agg (d.cells ts.length).toArray), (1, .int .i64 dp), (2, .int .i64 m), (3, .pointer (some ⟨g2, 0, none⟩)), (6, .int .i64 0), (7, .int .i64 (((i : Nat) : Int))), (9, .int .i64 dp), (10, .bool false), (11, .bool false), (12, .int .i64 left), (13, .bool false), (14, .bool false), (15, .bool false), (16, .agg (d.cells ts.length).toArray), (17, .bool true), (18, .bool false), (19, .bool false), (20, .int .i64 left), (21, .int .i64 (left - 1))] ∧ Mg w w1 (.obj g2 (.cells (d.cells ts.length).toArray 30) :: [])) _ ⟨0, left - 1, rfl, ⟨Nat.zero_le _, rfl, by omega, by omega⟩, A.keep _ (by repeat' constructor), M⟩ ?_)))
    clear M A
    rintro m_ a w16 ⟨i, m, rfl, hinv18, A, M⟩ K17 hK17
    obtain ⟨hi0, hin9, hm0, hm1_⟩ := hinv18
    refine wsk fun K19 hK19 => wsk fun K20 hK20 => wrl (sdm A λa A↦?_)
    refine sdo (v := .pointer (some ⟨g2, 10, none⟩)) A (qb TrW_fld_30_5 rfl rfl) λa A↦?_
    refine sdo A (ql M TrW_is1_22 rfl 0 rfl rfl) λa A↦?_
    refine sdo A (zb Tryz.underlying22 rfl) λa A↦?_
    rcases tf (decide (((i : Nat) : Int) < ((ts.length : Nat) : Int))) with hb21 | hb21
    ·
     have hb21' := of_decide_eq_true hb21
     refine sdc A zj hb21 λa A↦?_
     iterate 2 refine sdm A λa A↦?_
     rcases tf (decide (0 ≤ m)) with hb22 | hb22
     ·
      have hb22' := of_decide_eq_true hb22
      refine sdc A xl hb22 λa A↦?_
      refine sdk (v := .bool true) A λa A↦?_
      refine qa (hK20 _ _ (wp_cond_true (A.ev rfl) ?_))
      refine wp_skip (hK19 _ _ (wsk fun K23 hK23 => wp_block (wsk fun K24 hK24 => wrl (sdm A λa A↦?_))))
      refine sdo (v := .int .i64 (dp + 1)) A (qh rfl rfl (ji (xb (by omega) (by omega)))) λa A↦?_
      refine sda A λa A↦?_
      refine qa (hK24 _ _ (wsk fun K25 hK25 => wsk fun K26 hK26 => wrl (sdo (v := .pointer (some ⟨g2, 0, none⟩)) A (qb TrW_fld_30_0 rfl rfl) λa A↦?_)))
      refine sdo A (ql M TrW_is1_3 rfl 0 rfl rfl) λa A↦?_
      rcases tf ((d.k == 8)) with hb27 | hb27
      ·
       have hb27' := eq_of_beq hb27
       refine sdc A qk hb27 λa A↦?_
       iterate 2 refine sdm A λa A↦?_
       rcases tf ((((i : Nat) : Int) == 1)) with hb28 | hb28
       ·
        have hb28' := eq_of_beq hb28
        refine sdc A qk hb28 λa A↦?_
        refine sdk (v := .bool true) A λa A↦?_
        refine qa (hK26 _ _ (wp_cond_true (A.ev rfl) ?_))
        refine wrl (sdm A λa A↦?_)
        refine sda A λa A↦?_
        refine qa (hK25 _ _ ?_)
        obtain ⟨t1, b1, o1, hi1, hm1, hr1, hl1, hH1⟩ := kid hrd (i := i) (by omega)
        have hD : (if decide (d.k = 8) = true ∧ i = 1 then dp else dp + 1) = dp := if_pos ⟨decide_eq_true hb27', by omega⟩
        refine wrl (sdo (v := .pointer (some ⟨g2, 10, none⟩)) A (qb TrW_fld_30_5 rfl rfl) λa A↦?_)
        refine sdo A (ql M TrW_is1_22 rfl 0 rfl rfl) λa A↦?_
        refine sdm A λa A↦?_
        refine sdo (v := .pointer (some ⟨b1, o1 + i * 11, none⟩)) A (zi (k := i) Tryz.underlying22 (by kernel_rfl) rfl rfl rfl hl1 (by omega)) λa A↦?_
        refine sdo A (zx M hH1 TrW_isS_30 rfl rfl) λa A↦?_
        iterate 2 refine sdm A λa A↦?_
        refine gcl A M (ef rfl rfl) (ih t1 hm1 (Dt.keep M.bel _ hr1) (by have := qgi (d := d) hm1; omega) (by omega) (by omega) (by omega) (by omega)) fun w30 hb29 M a A => ?_
        refine sda A λa A↦?_
        refine qa (hK23 _ _ (wrl (sdm A λa A↦?_)))
        refine sdo (v := .int .i64 (((i + 1 : Nat) : Int))) A (qh rfl rfl (fun w => (ji (xb (by omega) (by omega)) w).trans (by rw [show (((i : Nat) : Int) + 1 : Int) = ((i + 1 : Nat) : Int) from by omega]))) λa A↦?_
        refine sda A λa A↦?_
        refine qa ?_
        have hc9 := zeg qi t1.tr (dp) m (by omega)
        refine hK17 _ _ _ (by omega) ⟨i + 1, qee qi (dp) m t1.tr, rfl, ⟨by omega, by rw [hin9, qwb hi1 (by omega) hD], by omega, by omega⟩, A.keep _ (by repeat' constructor), M⟩
       ·
        have hb28' := ne_of_beq_false hb28
        refine sdc A qk hb28 λa A↦?_
        refine sdk (v := .bool false) A λa A↦?_
        refine qa (hK26 _ _ (wp_cond_false (A.ev rfl) ?_))
        refine wp_skip (hK25 _ _ ?_)
        obtain ⟨t1, b1, o1, hi1, hm1, hr1, hl1, hH1⟩ := kid hrd (i := i) (by omega)
        have hD : (if decide (d.k = 8) = true ∧ i = 1 then dp else dp + 1) = dp + 1 := if_neg (fun e => by omega)
        refine wrl (sdo (v := .pointer (some ⟨g2, 10, none⟩)) A (qb TrW_fld_30_5 rfl rfl) λa A↦?_)
        refine sdo A (ql M TrW_is1_22 rfl 0 rfl rfl) λa A↦?_
        refine sdm A λa A↦?_
        refine sdo (v := .pointer (some ⟨b1, o1 + i * 11, none⟩)) A (zi (k := i) Tryz.underlying22 (by kernel_rfl) rfl rfl rfl hl1 (by omega)) λa A↦?_
        refine sdo A (zx M hH1 TrW_isS_30 rfl rfl) λa A↦?_
        iterate 2 refine sdm A λa A↦?_
        refine gcl A M (ef rfl rfl) (ih t1 hm1 (Dt.keep M.bel _ hr1) (by have := qgi (d := d) hm1; omega) (by omega) (by omega) (by omega) (by omega)) fun w32 hb31 M a A => ?_
        refine sda A λa A↦?_
        refine qa (hK23 _ _ (wrl (sdm A λa A↦?_)))
        refine sdo (v := .int .i64 (((i + 1 : Nat) : Int))) A (qh rfl rfl (fun w => (ji (xb (by omega) (by omega)) w).trans (by rw [show (((i : Nat) : Int) + 1 : Int) = ((i + 1 : Nat) : Int) from by omega]))) λa A↦?_
        refine sda A λa A↦?_
        refine qa ?_
        have hc9 := zeg qi t1.tr (dp + 1) m (by omega)
        refine hK17 _ _ _ (by omega) ⟨i + 1, qee qi (dp + 1) m t1.tr, rfl, ⟨by omega, by rw [hin9, qwb hi1 (by omega) hD], by omega, by omega⟩, A.keep _ (by repeat' constructor), M⟩
      ·
       have hb27' := ne_of_beq_false hb27
       refine sdc A qk hb27 λa A↦?_
       refine sdm A λa A↦?_
       iterate 2 refine qr A rfl rfl rfl λa A↦?_
       refine sdk (v := .bool false) A λa A↦?_
       refine qa (hK26 _ _ (wp_cond_false (A.ev rfl) ?_))
       refine wp_skip (hK25 _ _ ?_)
       obtain ⟨t1, b1, o1, hi1, hm1, hr1, hl1, hH1⟩ := kid hrd (i := i) (by omega)
       have hD : (if decide (d.k = 8) = true ∧ i = 1 then dp else dp + 1) = dp + 1 := if_neg (fun e => hb27' (of_decide_eq_true e.1))
       refine wrl (sdo (v := .pointer (some ⟨g2, 10, none⟩)) A (qb TrW_fld_30_5 rfl rfl) λa A↦?_)
       refine sdo A (ql M TrW_is1_22 rfl 0 rfl rfl) λa A↦?_
       refine sdm A λa A↦?_
       refine sdo (v := .pointer (some ⟨b1, o1 + i * 11, none⟩)) A (zi (k := i) Tryz.underlying22 (by kernel_rfl) rfl rfl rfl hl1 (by omega)) λa A↦?_
       refine sdo A (zx M hH1 TrW_isS_30 rfl rfl) λa A↦?_
       iterate 2 refine sdm A λa A↦?_
       refine gcl A M (ef rfl rfl) (ih t1 hm1 (Dt.keep M.bel _ hr1) (by have := qgi (d := d) hm1; omega) (by omega) (by omega) (by omega) (by omega)) fun w34 hb33 M a A => ?_
       refine sda A λa A↦?_
       refine qa (hK23 _ _ (wrl (sdm A λa A↦?_)))
       refine sdo (v := .int .i64 (((i + 1 : Nat) : Int))) A (qh rfl rfl (fun w => (ji (xb (by omega) (by omega)) w).trans (by rw [show (((i : Nat) : Int) + 1 : Int) = ((i + 1 : Nat) : Int) from by omega]))) λa A↦?_
       refine sda A λa A↦?_
       refine qa ?_
       have hc9 := zeg qi t1.tr (dp + 1) m (by omega)
       refine hK17 _ _ _ (by omega) ⟨i + 1, qee qi (dp + 1) m t1.tr, rfl, ⟨by omega, by rw [hin9, qwb hi1 (by omega) hD], by omega, by omega⟩, A.keep _ (by repeat' constructor), M⟩
     ·
      have hb22' := of_decide_eq_false hb22
      refine sdc A xl hb22 λa A↦?_
      refine sdk (v := .bool false) A λa A↦?_
      refine qa (hK20 _ _ (wp_cond_false (A.ev rfl) ?_))
      refine wp_exit (hK14 _ _ (wsk fun K35 hK35 => wrl (sdm A λa A↦?_)))
      refine sda A λa A↦?_
      refine qa (hK35 _ _ (wp_ret (hret _ _ (en1 A rfl (qe rfl) ?_))))
      rw [zjc (by omega) (by omega) (by rw [kp]; exact hb10), hin9, qnb (by omega)]
      exact ⟨rfl, M.bel⟩
    ·
     have hb21' := of_decide_eq_false hb21
     refine sdc A zj hb21 λa A↦?_
     refine sdm A λa A↦?_
     iterate 2 refine qr A rfl rfl rfl λa A↦?_
     refine sdk (v := .bool false) A λa A↦?_
     refine qa (hK20 _ _ (wp_cond_false (A.ev rfl) ?_))
     refine wp_exit (hK14 _ _ (wsk fun K36 hK36 => wrl (sdm A λa A↦?_)))
     refine sda A λa A↦?_
     refine qa (hK36 _ _ (wp_ret (hret _ _ (en1 A rfl (qe rfl) ?_))))
     rw [zjc (by omega) (by omega) (by rw [kp]; exact hb10), hin9, yq (by omega), qgg]
     exact ⟨rfl, M.bel⟩
   ·
    refine gcl A M (ef rfl rfl) (qpd (hok.1.below M.bel) (Nat.le_trans qrj hbk) hlen hb10) fun w38 hb37 M a A => ?_
    refine sdo (v := .bool true) A (zk rfl zt) λa A↦?_
    refine sdk (v := .bool true) A λa A↦?_
    refine qa (hK5 _ _ (wp_cond_true (A.ev rfl) ?_))
    refine wsk fun K39 hK39 => wrl (sda A λa A↦?_)
    refine qa (hK39 _ _ (wp_ret (hret _ _ (en1 A rfl (qe rfl) ?_))))
    rw [qwa (.inr (.inr (by rw [kp]; exact hb10)))]
    exact ⟨rfl, M.bel⟩
theorem zpc {w : World} {d : Nd} {ts : List Dt} (hrd : (Dt.mk d ts).rd w) (hbk : (Dt.mk d ts).tr.bulk ≤ 4000000) : Calls Tryz.prog 27 #[.agg (d.cells ts.length).toArray] w fun e w' => e = .returned (.bool (qm qi (Dt.mk d ts).tr)) ∧ Below w.heap.size w w' := by
 have M : Mg w w ([]) := Mg.start w
 refine qx (l := [(0, .agg (d.cells ts.length).toArray)]) Tryz.func27 rfl Tryz.ntmps27 rfl rfl ?_
 intro Q hret hnorm hP a A
 refine wsk fun K1 hK1 => wrl (zv (vs := [.int .i64 d.k, .int .i64 d.n, .bool d.y.q.b1, .slice d.y.o1 d.y.q.t1.length d.y.c1, .slice d.y.o2 d.y.q.q1.length d.y.c2, .bool d.y.q.b2, .slice d.y.o3 d.y.q.t2.length d.y.c3, .slice d.y.o4 d.y.q.q2.length d.y.c4, .string d.s, .slice d.ro d.rl.length d.rc, .slice d.lo ts.length d.lc]) (t := 30) A M rfl rfl rfl pg (qt rfl rfl) (by decide) ?_)
 intro g2 w3 M a A
 refine sda A λa A↦?_
 refine qa (hK1 _ _ (wsk fun K4 hK4 => wrl (sdo A (za M TrW_isS_30 rfl 0 rfl (cs := [.int .i64 d.k, .int .i64 d.n, .bool d.y.q.b1, .slice d.y.o1 d.y.q.t1.length d.y.c1, .slice d.y.o2 d.y.q.q1.length d.y.c2, .bool d.y.q.b2, .slice d.y.o3 d.y.q.t2.length d.y.c3, .slice d.y.o4 d.y.q.q2.length d.y.c4, .string d.s, .slice d.ro d.rl.length d.rc, .slice d.lo ts.length d.lc]) rfl rfl) λa A↦?_)))
 refine gcl A M (ef rfl rfl) (zpb (Dt.mk d ts) (Dt.keep M.bel _ hrd) hbk (by omega) (by omega) (by omega) (by omega)) fun w5 hb9 M a A => ?_
 refine sdo (v := .bool (decide (0 ≤ qee qi 1 20000 (Dt.mk d ts).tr))) A (qh rfl rfl xl) λa A↦?_
 refine sda A λa A↦?_
 refine qa (hK4 _ _ (wp_ret (hret _ _ (en1 A rfl (qe rfl) ?_))))
 exact ⟨by rw [← qyf], M.bel⟩
theorem rsound_any {w : World} {t : Dt} (hrd : t.rd w) (hbk : t.tr.bulk ≤ 4000000) : Calls Tryz.prog 27 #[.agg t.cells.toArray] w fun e w' => e = .returned (.bool (qm qi t.tr)) ∧ Below w.heap.size w w' := by
 obtain ⟨d, ts⟩ := t
 exact zpc hrd hbk
theorem LiS_is1_22 : Is1 Tryz.prog 22 := ⟨⟨_, Tryz.underlying22, rfl⟩, by kernel_rfl⟩
theorem LiS_is1_28 : Is1 Tryz.prog 28 := ⟨⟨_, Tryz.underlying28, rfl⟩, by kernel_rfl⟩
theorem LiS_is1_3 : Is1 Tryz.prog 3 := ⟨⟨_, Tryz.underlying3, rfl⟩, by kernel_rfl⟩
theorem LiS_is1_5 : Is1 Tryz.prog 5 := ⟨⟨_, Tryz.underlying5, rfl⟩, by kernel_rfl⟩
theorem LiS_is1_9 : Is1 Tryz.prog 9 := ⟨⟨_, Tryz.underlying9, rfl⟩, by kernel_rfl⟩
theorem LiS_fld_30_0 : FieldAt Tryz.prog 30 0 0 := ⟨_, _, Tryz.underlying30, rfl, rfl, by kernel_rfl⟩
theorem LiS_fld_30_1 : FieldAt Tryz.prog 30 1 1 := ⟨_, _, Tryz.underlying30, rfl, rfl, by kernel_rfl⟩
theorem LiS_fld_30_2 : FieldAt Tryz.prog 30 2 2 := ⟨_, _, Tryz.underlying30, rfl, rfl, by kernel_rfl⟩
theorem LiS_fld_30_3 : FieldAt Tryz.prog 30 3 8 := ⟨_, _, Tryz.underlying30, rfl, rfl, by kernel_rfl⟩
theorem LiS_fld_30_4 : FieldAt Tryz.prog 30 4 9 := ⟨_, _, Tryz.underlying30, rfl, rfl, by kernel_rfl⟩
theorem LiS_fld_30_5 : FieldAt Tryz.prog 30 5 10 := ⟨_, _, Tryz.underlying30, rfl, rfl, by kernel_rfl⟩
theorem LiS_isS_27 : IsS Tryz.prog 27 6 := ⟨⟨_, Tryz.underlying27⟩, by kernel_rfl⟩
theorem LiS_isS_30 : IsS Tryz.prog 30 11 := ⟨⟨_, Tryz.underlying30⟩, by kernel_rfl⟩
theorem qpe {w : World} {t u : Dt} (ht : t.rd w) (hu : u.rd w) {b : Bool} (h : SQ2 t u = b) : Calls Tryz.prog 43 #[t.d.y.val, u.d.y.val] w fun e w' => e = .returned (.bool b) ∧ Below w.heap.size w w' := zgf (Dt.okT ht).1.num (Dt.okT ht).1.len (Dt.okT hu).1.num (Dt.okT hu).1.len h
def RSames (n : Nat) : Prop := ∀ {w : World} {t u : Dt}, t.tr.bulk < n → t.rd w → u.rd w → Calls Tryz.prog 16 #[.agg (t.d.cells t.ts.length).toArray, .agg (u.d.cells u.ts.length).toArray] w fun e w' => e = .returned (.bool (js t.tr u.tr)) ∧ Below w.heap.size w w'
set_option maxHeartbeats 1000000 in
theorem zbj {n : Nat} (ih : RSames n) : RSames (n + 1) := by
 intro w t u hn ht hu
 have hlt := (Dt.okT ht).2
 have hrt : t.d.rl.length ≤ 9223372036854775807 := Nat.le_trans (Dt.okT ht).1.rcap (Dt.okT ht).1.rmax
 have M : Mg w w ([]) := Mg.start w
 refine qx (l := [(0, .agg (t.d.cells t.ts.length).toArray), (1, .agg (u.d.cells u.ts.length).toArray)]) Tryz.func16 rfl Tryz.ntmps16 rfl rfl ?_
 intro Q hret hnorm hP a A
 refine wsk fun K1 hK1 => wrl (zv (vs := (t.d.cells t.ts.length)) (t := 30) A M rfl rfl rfl pg (qt rfl rfl) (by decide) ?_)
 intro g2 w3 M a A
 refine zv (vs := (u.d.cells u.ts.length)) (t := 30) A M rfl rfl rfl pg (qt rfl rfl) (by decide) ?_
 intro g4 w5 M a A
 refine sda A λa A↦?_
 refine qa (hK1 _ _ (wsk fun K6 hK6 => wsk fun K7 hK7 => wrl (sdo (v := .pointer (some ⟨g2, 0, none⟩)) A (qb LiS_fld_30_0 rfl rfl) λa A↦?_)))
 refine sdo A (ql M LiS_is1_3 rfl 1 rfl rfl) λa A↦?_
 refine sdo (v := .pointer (some ⟨g4, 0, none⟩)) A (qb LiS_fld_30_0 rfl rfl) λa A↦?_
 refine sdo A (ql M LiS_is1_3 rfl 0 rfl rfl) λa A↦?_
 rcases tf ((t.d.k != u.d.k)) with hb8 | hb8
 ·
  have hb8' := bne_iff_ne.1 hb8
  refine sdc A zr hb8 λa A↦?_
  refine sdm A λa A↦?_
  iterate 5 refine qr A rfl rfl rfl λa A↦?_
  refine sdk (v := .bool true) A λa A↦?_
  refine sdm A λa A↦?_
  iterate 5 refine qr A rfl rfl rfl λa A↦?_
  refine sdk (v := .bool true) A λa A↦?_
  refine sdm A λa A↦?_
  iterate 7 refine qr A rfl rfl rfl λa A↦?_
  refine sdk (v := .bool true) A λa A↦?_
  refine sdm A λa A↦?_
  iterate 7 refine qr A rfl rfl rfl λa A↦?_
  refine sdk (v := .bool true) A λa A↦?_
  refine sdm A λa A↦?_
  iterate 6 refine qr A rfl rfl rfl λa A↦?_
  refine sdk (v := .bool true) A λa A↦?_
  refine qa (hK7 _ _ (wp_cond_true (A.ev rfl) ?_))
  refine wsk fun K9 hK9 => wrl (sda A λa A↦?_)
  refine qa (hK9 _ _ (wp_ret (hret _ _ (en1 A rfl (qe rfl) ?_))))
  exact ⟨by rw [qbi (.inl hb8')], M.bel⟩
 ·
  have hb8' := bne_eq_false_iff_eq.1 hb8
  refine sdc A zr hb8 λa A↦?_
  refine sdm A λa A↦?_
  refine sdo (v := .pointer (some ⟨g2, 1, none⟩)) A (qb LiS_fld_30_1 rfl rfl) λa A↦?_
  refine sdo A (ql M LiS_is1_3 rfl 1 rfl rfl) λa A↦?_
  refine sdo (v := .pointer (some ⟨g4, 1, none⟩)) A (qb LiS_fld_30_1 rfl rfl) λa A↦?_
  refine sdo A (ql M LiS_is1_3 rfl 0 rfl rfl) λa A↦?_
  rcases tf ((t.d.n != u.d.n)) with hb10 | hb10
  ·
   have hb10' := bne_iff_ne.1 hb10
   refine sdc A zr hb10 λa A↦?_
   refine sdk (v := .bool true) A λa A↦?_
   refine sdm A λa A↦?_
   iterate 5 refine qr A rfl rfl rfl λa A↦?_
   refine sdk (v := .bool true) A λa A↦?_
   refine sdm A λa A↦?_
   iterate 7 refine qr A rfl rfl rfl λa A↦?_
   refine sdk (v := .bool true) A λa A↦?_
   refine sdm A λa A↦?_
   iterate 7 refine qr A rfl rfl rfl λa A↦?_
   refine sdk (v := .bool true) A λa A↦?_
   refine sdm A λa A↦?_
   iterate 6 refine qr A rfl rfl rfl λa A↦?_
   refine sdk (v := .bool true) A λa A↦?_
   refine qa (hK7 _ _ (wp_cond_true (A.ev rfl) ?_))
   refine wsk fun K11 hK11 => wrl (sda A λa A↦?_)
   refine qa (hK11 _ _ (wp_ret (hret _ _ (en1 A rfl (qe rfl) ?_))))
   exact ⟨by rw [qbi (.inr (.inl hb10'))], M.bel⟩
  ·
   have hb10' := bne_eq_false_iff_eq.1 hb10
   refine sdc A zr hb10 λa A↦?_
   refine sdk (v := .bool false) A λa A↦?_
   refine sdm A λa A↦?_
   refine sdo (v := .pointer (some ⟨g2, 8, none⟩)) A (qb LiS_fld_30_3 rfl rfl) λa A↦?_
   refine sdo A (ql M LiS_is1_9 rfl 1 rfl rfl) λa A↦?_
   refine sdo (v := .pointer (some ⟨g4, 8, none⟩)) A (qb LiS_fld_30_3 rfl rfl) λa A↦?_
   refine sdo A (ql M LiS_is1_9 rfl 0 rfl rfl) λa A↦?_
   rcases tf (decide (t.d.s = u.d.s)) with hb12 | hb12
   ·
    have hb12' := of_decide_eq_true hb12
    refine sdo (v := .bool false) A (qh rfl rfl (fun w => (qgh Tryz.underlying9 w).trans (by rw [hb12] <;> rfl))) λa A↦?_
    refine sdk (v := .bool false) A λa A↦?_
    refine sdm A λa A↦?_
    refine sdo (v := .pointer (some ⟨g2, 9, none⟩)) A (qb LiS_fld_30_4 rfl rfl) λa A↦?_
    refine sdo A (ql M LiS_is1_28 rfl 1 rfl rfl) λa A↦?_
    refine sdo A (zb Tryz.underlying28 rfl) λa A↦?_
    refine sdo (v := .pointer (some ⟨g4, 9, none⟩)) A (qb LiS_fld_30_4 rfl rfl) λa A↦?_
    refine sdo A (ql M LiS_is1_28 rfl 0 rfl rfl) λa A↦?_
    refine sdo A (zb Tryz.underlying28 rfl) λa A↦?_
    rcases tf ((((t.d.rl.length : Nat) : Int) != ((u.d.rl.length : Nat) : Int))) with hb13 | hb13
    ·
     have hb13' := bne_iff_ne.1 hb13
     refine sdc A zr hb13 λa A↦?_
     refine sdk (v := .bool true) A λa A↦?_
     refine sdm A λa A↦?_
     iterate 7 refine qr A rfl rfl rfl λa A↦?_
     refine sdk (v := .bool true) A λa A↦?_
     refine sdm A λa A↦?_
     iterate 6 refine qr A rfl rfl rfl λa A↦?_
     refine sdk (v := .bool true) A λa A↦?_
     refine qa (hK7 _ _ (wp_cond_true (A.ev rfl) ?_))
     refine wsk fun K14 hK14 => wrl (sda A λa A↦?_)
     refine qa (hK14 _ _ (wp_ret (hret _ _ (en1 A rfl (qe rfl) ?_))))
     exact ⟨by rw [qbi (.inr (.inr (.inr (.inl (fun e => hb13' (by rw [e]))))))], M.bel⟩
    ·
     have hb13' := bne_eq_false_iff_eq.1 hb13
     refine sdc A zr hb13 λa A↦?_
     refine sdk (v := .bool false) A λa A↦?_
     refine sdm A λa A↦?_
     refine sdo (v := .pointer (some ⟨g2, 10, none⟩)) A (qb LiS_fld_30_5 rfl rfl) λa A↦?_
     refine sdo A (ql M LiS_is1_22 rfl 1 rfl rfl) λa A↦?_
     refine sdo A (zb Tryz.underlying22 rfl) λa A↦?_
     refine sdo (v := .pointer (some ⟨g4, 10, none⟩)) A (qb LiS_fld_30_5 rfl rfl) λa A↦?_
     refine sdo A (ql M LiS_is1_22 rfl 0 rfl rfl) λa A↦?_
     refine sdo A (zb Tryz.underlying22 rfl) λa A↦?_
     rcases tf ((((t.ts.length : Nat) : Int) != ((u.ts.length : Nat) : Int))) with hb15 | hb15
     ·
      have hb15' := bne_iff_ne.1 hb15
      refine sdc A zr hb15 λa A↦?_
      refine sdk (v := .bool true) A λa A↦?_
      refine sdm A λa A↦?_
      iterate 6 refine qr A rfl rfl rfl λa A↦?_
      refine sdk (v := .bool true) A λa A↦?_
      refine qa (hK7 _ _ (wp_cond_true (A.ev rfl) ?_))
      refine wsk fun K16 hK16 => wrl (sda A λa A↦?_)
      refine qa (hK16 _ _ (wp_ret (hret _ _ (en1 A rfl (qe rfl) ?_))))
      exact ⟨by rw [qbi (.inr (.inr (.inr (.inr (.inl (fun e => hb15' (by rw [e])))))))], M.bel⟩
     ·
      have hb15' := bne_eq_false_iff_eq.1 hb15
      refine sdc A zr hb15 λa A↦?_
      refine sdk (v := .bool false) A λa A↦?_
      refine sdm A λa A↦?_
      refine sdo (v := .pointer (some ⟨g2, 2, none⟩)) A (qb LiS_fld_30_2 rfl rfl) λa A↦?_
      refine sdo A (za M LiS_isS_27 rfl 1 rfl (cs := [.bool t.d.y.q.b1, .slice t.d.y.o1 t.d.y.q.t1.length t.d.y.c1, .slice t.d.y.o2 t.d.y.q.q1.length t.d.y.c2, .bool t.d.y.q.b2, .slice t.d.y.o3 t.d.y.q.t2.length t.d.y.c3, .slice t.d.y.o4 t.d.y.q.q2.length t.d.y.c4]) rfl rfl) λa A↦?_
      refine sdo (v := .pointer (some ⟨g4, 2, none⟩)) A (qb LiS_fld_30_2 rfl rfl) λa A↦?_
      refine sdo A (za M LiS_isS_27 rfl 0 rfl (cs := [.bool u.d.y.q.b1, .slice u.d.y.o1 u.d.y.q.t1.length u.d.y.c1, .slice u.d.y.o2 u.d.y.q.q1.length u.d.y.c2, .bool u.d.y.q.b2, .slice u.d.y.o3 u.d.y.q.t2.length u.d.y.c3, .slice u.d.y.o4 u.d.y.q.q2.length u.d.y.c4]) rfl rfl) λa A↦?_
      rcases tf (SQ2 t u) with hb17 | hb17
      ·
       refine gcl A M (ef rfl rfl) (qpe (Dt.keep M.bel _ ht) (Dt.keep M.bel _ hu) hb17) fun w19 hb18 M a A => ?_
       refine sdo (v := .bool false) A (zk rfl zt) λa A↦?_
       refine sdk (v := .bool false) A λa A↦?_
       refine qa (hK7 _ _ (wp_cond_false (A.ev rfl) ?_))
       refine wp_skip (hK6 _ _ (wsk fun K20 hK20 => wsk fun K21 hK21 => wrl (sda A λa A↦?_)))
       refine qa (hK21 _ _ (wp_block (jd (fun m_ a w1 => ∃ (i : Nat), m_ = 1 + (t.d.rl.length - i) ∧ (i ≤ t.d.rl.length ∧ ∀ j, j < i → t.d.rl.getD j 0 = u.d.rl.getD j 0) ∧ Sl a 89 [(0, .agg (t.d.cells t.ts.length).toArray), (1, .agg (u.d.cells u.ts.length).toArray), (2, .pointer (some ⟨g2, 0, none⟩)), (3, .pointer (some ⟨g4, 0, none⟩)), (5, .int .i64 (((i : Nat) : Int))), (7, .pointer (some ⟨g2, 0, none⟩)), (8, .int .i64 t.d.k), (9, .pointer (some ⟨g4, 0, none⟩)), (10, .int .i64 u.d.k), (11, .bool false), (12, .bool false), (13, .pointer (some ⟨g2, 1, none⟩)), (14, .int .i64 t.d.n), (15, .pointer (some ⟨g4, 1, none⟩)), (16, .int .i64 u.d.n), (17, .bool false), (18, .bool false), (19, .bool false), (20, .pointer (some ⟨g2, 8, none⟩)), (21, .string t.d.s), (22, .pointer (some ⟨g4, 8, none⟩)), (23, .string u.d.s), (24, .bool false), (25, .bool false), (26, .bool false), (27, .pointer (some ⟨g2, 9, none⟩)), (28, .slice t.d.ro t.d.rl.length t.d.rc), (29, .int .i64 (((t.d.rl.length : Nat) : Int))), (30, .pointer (some ⟨g4, 9, none⟩)), (31, .slice u.d.ro u.d.rl.length u.d.rc), (32, .int .i64 (((u.d.rl.length : Nat) : Int))), (33, .bool false), (34, .bool false), (35, .bool false), (36, .pointer (some ⟨g2, 10, none⟩)), (37, .slice t.d.lo t.ts.length t.d.lc), (38, .int .i64 (((t.ts.length : Nat) : Int))), (39, .pointer (some ⟨g4, 10, none⟩)), (40, .slice u.d.lo u.ts.length u.d.lc), (41, .int .i64 (((u.ts.length : Nat) : Int))), (42, .bool false), (43, .bool false), (44, .bool false), (45, .pointer (some ⟨g2, 2, none⟩)), (46, .agg #[.bool t.d.y.q.b1, .slice t.d.y.o1 t.d.y.q.t1.length t.d.y.c1, .slice t.d.y.o2 t.d.y.q.q1.length t.d.y.c2, .bool t.d.y.q.b2, .slice t.d.y.o3 t.d.y.q.t2.length t.d.y.c3, .slice t.d.y.o4 t.d.y.q.q2.length t.d.y.c4]), (47, .pointer (some ⟨g4, 2, none⟩)), (48, .agg #[.bool u.d.y.q.b1, .slice u.d.y.o1 u.d.y.q.t1.length u.d.y.c1, .slice u.d.y.o2 u.d.y.q.q1.length u.d.y.c2, .bool u.d.y.q.b2, .slice u.d.y.o3 u.d.y.q.t2.length u.d.y.c3, .slice u.d.y.o4 u.d.y.q.q2.length u.d.y.c4]), (49, .bool true), (50, .bool false), (51, .bool false)] ∧ Mg w w1 (.obj g4 (.cells (u.d.cells u.ts.length).toArray 30) :: .obj g2 (.cells (t.d.cells t.ts.length).toArray 30) :: [])) _ ⟨0, rfl, ⟨Nat.zero_le _, fun j hj => absurd hj (Nat.not_lt_zero _)⟩, A.keep _ (by repeat' constructor), M⟩ ?_)))
       clear M A
       rintro m_ a w22 ⟨i, rfl, hinv24, A, M⟩ K23 hK23
       obtain ⟨hi0, hin8⟩ := hinv24
       refine wsk fun K25 hK25 => wsk fun K26 hK26 => wrl (sdm A λa A↦?_)
       refine sdo (v := .pointer (some ⟨g2, 9, none⟩)) A (qb LiS_fld_30_4 rfl rfl) λa A↦?_
       refine sdo A (ql M LiS_is1_28 rfl 1 rfl rfl) λa A↦?_
       refine sdo A (zb Tryz.underlying28 rfl) λa A↦?_
       rcases tf (decide (((i : Nat) : Int) < ((t.d.rl.length : Nat) : Int))) with hb27 | hb27
       ·
        have hb27' := of_decide_eq_true hb27
        refine sdc A zj hb27 λa A↦?_
        refine qa (hK26 _ _ (wp_cond_true (A.ev rfl) ?_))
        refine wp_skip (hK25 _ _ (wsk fun K28 hK28 => wp_block (wsk fun K29 hK29 => jf (S := fun w1 => Mg w w1 (.obj g4 (.cells (u.d.cells u.ts.length).toArray 30) :: .obj g2 (.cells (t.d.cells t.ts.length).toArray 30) :: [])) (by kernel_rfl) ?_)))
        replace M := M.drew
        refine qf (v := .pointer (some ⟨g2, 9, none⟩)) A 0 rfl rfl rfl rfl hP (M.sub (cc (cc (List.nil_sublist _)))) (fun w1 M => qb LiS_fld_30_4 rfl rfl) λa A↦?_
        refine qf A 1 rfl rfl rfl rfl hP (M.sub (cc (cc (List.nil_sublist _)))) (fun w1 M => ql M LiS_is1_28 rfl 1 rfl rfl) λa A↦?_
        refine qf A 2 rfl rfl rfl rfl hP (M.sub (cc (cc (List.nil_sublist _)))) (fun w1 M => ze rfl) λa A↦?_
        obtain ⟨bt, ot, ht1, ht2, ht3⟩ := qhi (i := i) (Dt.okT ht).1.raw (by omega)
        refine qf (v := .pointer (some ⟨bt, ot + i, none⟩)) A 3 rfl rfl rfl rfl hP (M.sub (cc (cc (List.nil_sublist _)))) (fun w1 M => jn (k := i) Tryz.underlying28 (by kernel_rfl) rfl rfl rfl ht1 (by omega)) λa A↦?_
        refine qf A 4 rfl rfl rfl rfl hP (M.sub (cc (cc (List.nil_sublist _)))) (fun w1 M => qde M ht2 (ht3 i (by omega)) LiS_is1_5 rfl) λa A↦?_
        refine qf (v := .pointer (some ⟨g4, 9, none⟩)) A 5 rfl rfl rfl rfl hP (M.sub (cc (cc (List.nil_sublist _)))) (fun w1 M => qb LiS_fld_30_4 rfl rfl) λa A↦?_
        refine qf A 6 rfl rfl rfl rfl hP (M.sub (cc (cc (List.nil_sublist _)))) (fun w1 M => ql M LiS_is1_28 rfl 0 rfl rfl) λa A↦?_
        refine qf A 7 rfl rfl rfl rfl hP (M.sub (cc (cc (List.nil_sublist _)))) (fun w1 M => ze rfl) λa A↦?_
        obtain ⟨bu, ou, hu1, hu2, hu3⟩ := qhi (i := i) (Dt.okT hu).1.raw (by omega)
        refine qf (v := .pointer (some ⟨bu, ou + i, none⟩)) A 8 rfl rfl rfl rfl hP (M.sub (cc (cc (List.nil_sublist _)))) (fun w1 M => jn (k := i) Tryz.underlying28 (by kernel_rfl) rfl rfl rfl hu1 (by omega)) λa A↦?_
        refine qf A 9 rfl rfl rfl rfl hP (M.sub (cc (cc (List.nil_sublist _)))) (fun w1 M => qde M hu2 (hu3 i (by omega)) LiS_is1_5 rfl) λa A↦?_
        rcases tf (((((t.d.rl.getD i 0).toNat : Nat) : Int) != (((u.d.rl.getD i 0).toNat : Nat) : Int))) with hb30 | hb30
        ·
         have hb30' := bne_iff_ne.1 hb30
         refine qf (v := .bool true) A 10 rfl rfl rfl rfl hP (M.sub (cc (cc (List.nil_sublist _)))) (fun w1 M => qh rfl rfl (fun w => (zr w).trans (by rw [hb30]))) λa A↦?_
         refine zp (by kernel_rfl) ?_
         refine hK29 _ _ (wp_cond_true (A.ev rfl) ?_)
         refine wsk fun K31 hK31 => wrl (sda A λa A↦?_)
         refine qa (hK31 _ _ (wp_ret (hret _ _ (en1 A rfl (qe rfl) ?_))))
         exact ⟨by rw [qbi (.inr (.inr (.inr (.inl (jdf hb30')))))], M.bel⟩
        ·
         have hb30' := bne_eq_false_iff_eq.1 hb30
         refine qf (v := .bool false) A 10 rfl rfl rfl rfl hP (M.sub (cc (cc (List.nil_sublist _)))) (fun w1 M => qh rfl rfl (fun w => (zr w).trans (by rw [hb30]))) λa A↦?_
         refine zp (by kernel_rfl) ?_
         refine hK29 _ _ (wp_cond_false (A.ev rfl) ?_)
         refine wp_skip (hK28 _ _ (wrl (sdm A λa A↦?_)))
         refine sdo (v := .int .i64 (((i + 1 : Nat) : Int))) A (qh rfl rfl (fun w => (ji (xb (by omega) (by omega)) w).trans (by rw [show (((i : Nat) : Int) + 1 : Int) = ((i + 1 : Nat) : Int) from by omega]))) λa A↦?_
         refine sda A λa A↦?_
         refine qa ?_
         refine hK23 _ _ _ (by omega) ⟨i + 1, rfl, ⟨by omega, fun j hj => if h9 : j < i then hin8 j h9 else by have h8 : j = i := (by omega); subst h8; exact jdg hb30'⟩, A.keep _ (by repeat' constructor), M⟩
       ·
        have hb27' := of_decide_eq_false hb27
        refine sdc A zj hb27 λa A↦?_
        refine qa (hK26 _ _ (wp_cond_false (A.ev rfl) ?_))
        refine wp_exit (hK20 _ _ (wsk fun K32 hK32 => wsk fun K33 hK33 => wrl (sda A λa A↦?_)))
        refine qa (hK33 _ _ (wp_block ?_))
        have hrl : t.d.rl = u.d.rl := zoi (by omega) (fun j hj => hin8 j (by omega))
        have hsy := zti hb8' hb10' hb12' hrl (by omega) hb17
        refine jd (fun m_ a w1 => ∃ (j : Nat), m_ = 1 + (t.ts.length - j) ∧ (j ≤ t.ts.length ∧ yg (t.ts.map Dt.tr) (u.ts.map Dt.tr) = yg ((t.ts.map Dt.tr).drop j) ((u.ts.map Dt.tr).drop j)) ∧ Sl a 89 [(0, .agg (t.d.cells t.ts.length).toArray), (1, .agg (u.d.cells u.ts.length).toArray), (2, .pointer (some ⟨g2, 0, none⟩)), (3, .pointer (some ⟨g4, 0, none⟩)), (5, .int .i64 (((i : Nat) : Int))), (6, .int .i64 (((j : Nat) : Int))), (7, .pointer (some ⟨g2, 0, none⟩)), (8, .int .i64 t.d.k), (9, .pointer (some ⟨g4, 0, none⟩)), (10, .int .i64 u.d.k), (11, .bool false), (12, .bool false), (13, .pointer (some ⟨g2, 1, none⟩)), (14, .int .i64 t.d.n), (15, .pointer (some ⟨g4, 1, none⟩)), (16, .int .i64 u.d.n), (17, .bool false), (18, .bool false), (19, .bool false), (20, .pointer (some ⟨g2, 8, none⟩)), (21, .string t.d.s), (22, .pointer (some ⟨g4, 8, none⟩)), (23, .string u.d.s), (24, .bool false), (25, .bool false), (26, .bool false), (27, .pointer (some ⟨g2, 9, none⟩)), (28, .slice t.d.ro t.d.rl.length t.d.rc), (29, .int .i64 (((t.d.rl.length : Nat) : Int))), (30, .pointer (some ⟨g4, 9, none⟩)), (31, .slice u.d.ro u.d.rl.length u.d.rc), (32, .int .i64 (((u.d.rl.length : Nat) : Int))), (33, .bool false), (34, .bool false), (35, .bool false), (36, .pointer (some ⟨g2, 10, none⟩)), (37, .slice t.d.lo t.ts.length t.d.lc), (38, .int .i64 (((t.ts.length : Nat) : Int))), (39, .pointer (some ⟨g4, 10, none⟩)), (40, .slice u.d.lo u.ts.length u.d.lc), (41, .int .i64 (((u.ts.length : Nat) : Int))), (42, .bool false), (43, .bool false), (44, .bool false), (45, .pointer (some ⟨g2, 2, none⟩)), (46, .agg #[.bool t.d.y.q.b1, .slice t.d.y.o1 t.d.y.q.t1.length t.d.y.c1, .slice t.d.y.o2 t.d.y.q.q1.length t.d.y.c2, .bool t.d.y.q.b2, .slice t.d.y.o3 t.d.y.q.t2.length t.d.y.c3, .slice t.d.y.o4 t.d.y.q.q2.length t.d.y.c4]), (47, .pointer (some ⟨g4, 2, none⟩)), (48, .agg #[.bool u.d.y.q.b1, .slice u.d.y.o1 u.d.y.q.t1.length u.d.y.c1, .slice u.d.y.o2 u.d.y.q.q1.length u.d.y.c2, .bool u.d.y.q.b2, .slice u.d.y.o3 u.d.y.q.t2.length u.d.y.c3, .slice u.d.y.o4 u.d.y.q.q2.length u.d.y.c4]), (49, .bool true), (50, .bool false), (51, .bool false), (52, .int .i64 (((i : Nat) : Int))), (53, .pointer (some ⟨g2, 9, none⟩)), (54, .slice t.d.ro t.d.rl.length t.d.rc), (55, .int .i64 (((t.d.rl.length : Nat) : Int))), (56, .bool false)] ∧ Mg w w1 (.obj g4 (.cells (u.d.cells u.ts.length).toArray 30) :: .obj g2 (.cells (t.d.cells t.ts.length).toArray 30) :: [])) _ ⟨0, rfl, ⟨Nat.zero_le _, rfl⟩, A.keep _ (by repeat' constructor), M⟩ ?_
        clear M A
        rintro m_ a w34 ⟨j, rfl, hinv36, A, M⟩ K35 hK35
        obtain ⟨hi1, hin9⟩ := hinv36
        refine wsk fun K37 hK37 => wsk fun K38 hK38 => wrl (sdm A λa A↦?_)
        refine sdo (v := .pointer (some ⟨g2, 10, none⟩)) A (qb LiS_fld_30_5 rfl rfl) λa A↦?_
        refine sdo A (ql M LiS_is1_22 rfl 1 rfl rfl) λa A↦?_
        refine sdo A (zb Tryz.underlying22 rfl) λa A↦?_
        rcases tf (decide (((j : Nat) : Int) < ((t.ts.length : Nat) : Int))) with hb39 | hb39
        ·
         have hb39' := of_decide_eq_true hb39
         refine sdc A zj hb39 λa A↦?_
         refine qa (hK38 _ _ (wp_cond_true (A.ev rfl) ?_))
         refine wp_skip (hK37 _ _ (wsk fun K40 hK40 => wp_block (wsk fun K41 hK41 => ?_)))
         obtain ⟨t1, bt1, ot1, it1, mt1, rt1_, lt1, Ht1⟩ := uy ht (i := j) (by omega)
         obtain ⟨u1, bu1, ou1, iu1, mu1, ru1_, lu1, Hu1⟩ := uy hu (i := j) (by omega)
         refine jf (S := fun w1 => Mg w w1 (.obj g4 (.cells (u.d.cells u.ts.length).toArray 30) :: .obj g2 (.cells (t.d.cells t.ts.length).toArray 30) :: [])) (by kernel_rfl) ?_
         replace M := M.drew
         refine qf (v := .pointer (some ⟨g2, 10, none⟩)) A 0 rfl rfl rfl rfl hP (M.sub (cc (cc (List.nil_sublist _)))) (fun w1 M => qb LiS_fld_30_5 rfl rfl) λa A↦?_
         refine qf A 1 rfl rfl rfl rfl hP (M.sub (cc (cc (List.nil_sublist _)))) (fun w1 M => ql M LiS_is1_22 rfl 1 rfl rfl) λa A↦?_
         refine qf A 2 rfl rfl rfl rfl hP (M.sub (cc (cc (List.nil_sublist _)))) (fun w1 M => ze rfl) λa A↦?_
         refine qf (v := .pointer (some ⟨bt1, ot1 + j * 11, none⟩)) A 3 rfl rfl rfl rfl hP (M.sub (cc (cc (List.nil_sublist _)))) (fun w1 M => zi (k := j) Tryz.underlying22 (by kernel_rfl) rfl rfl rfl lt1 (by omega)) λa A↦?_
         refine qf A 4 rfl rfl rfl rfl hP (M.sub (cc (cc (List.nil_sublist _)))) (fun w1 M => zx M Ht1 LiS_isS_30 rfl rfl) λa A↦?_
         refine qf (v := .pointer (some ⟨g4, 10, none⟩)) A 5 rfl rfl rfl rfl hP (M.sub (cc (cc (List.nil_sublist _)))) (fun w1 M => qb LiS_fld_30_5 rfl rfl) λa A↦?_
         refine qf A 6 rfl rfl rfl rfl hP (M.sub (cc (cc (List.nil_sublist _)))) (fun w1 M => ql M LiS_is1_22 rfl 0 rfl rfl) λa A↦?_
         refine qf A 7 rfl rfl rfl rfl hP (M.sub (cc (cc (List.nil_sublist _)))) (fun w1 M => ze rfl) λa A↦?_
         refine qf (v := .pointer (some ⟨bu1, ou1 + j * 11, none⟩)) A 8 rfl rfl rfl rfl hP (M.sub (cc (cc (List.nil_sublist _)))) (fun w1 M => zi (k := j) Tryz.underlying22 (by kernel_rfl) rfl rfl rfl lu1 (by omega)) λa A↦?_
         refine qf A 9 rfl rfl rfl rfl hP (M.sub (cc (cc (List.nil_sublist _)))) (fun w1 M => zx M Hu1 LiS_isS_30 rfl rfl) λa A↦?_
         rcases tf (js t1.tr u1.tr) with hb42 | hb42
         ·
          refine qn (by kernel_rfl) (zd A 10 rfl rfl rfl rfl (qj rfl rfl (fun w => by kernel_rfl)) ((hb42 ▸ ih (by have := ui mt1; omega) (Dt.keep M.bel _ rt1_) (Dt.keep M.bel _ ru1_))) ?_)
          rintro _ w44 ⟨rfl, hb43⟩
          replace M := M.call hb43
          refine ⟨_, rfl, (M.sub (cc (cc (List.nil_sublist _)))), ?_⟩
          intro a A
          refine qf (v := .bool false) A 11 rfl rfl rfl rfl hP (M.sub (cc (cc (List.nil_sublist _)))) (fun w1 M => zk rfl zt) λa A↦?_
          refine zp (by kernel_rfl) ?_
          refine hK41 _ _ (wp_cond_false (A.ev rfl) ?_)
          refine wp_skip (hK40 _ _ (wrl (sdm A λa A↦?_)))
          refine sdo (v := .int .i64 (((j + 1 : Nat) : Int))) A (qh rfl rfl (fun w => (ji (xb (by omega) (by omega)) w).trans (by rw [show (((j : Nat) : Int) + 1 : Int) = ((j + 1 : Nat) : Int) from by omega]))) λa A↦?_
          refine sda A λa A↦?_
          refine qa ?_
          refine hK35 _ _ _ (by omega) ⟨j + 1, rfl, ⟨by omega, by rw [hin9, zbe it1 iu1, hb42, Bool.true_and]⟩, A.keep _ (by repeat' constructor), M⟩
         ·
          refine qn (by kernel_rfl) (zd A 10 rfl rfl rfl rfl (qj rfl rfl (fun w => by kernel_rfl)) ((hb42 ▸ ih (by have := ui mt1; omega) (Dt.keep M.bel _ rt1_) (Dt.keep M.bel _ ru1_))) ?_)
          rintro _ w46 ⟨rfl, hb45⟩
          replace M := M.call hb45
          refine ⟨_, rfl, (M.sub (cc (cc (List.nil_sublist _)))), ?_⟩
          intro a A
          refine qf (v := .bool true) A 11 rfl rfl rfl rfl hP (M.sub (cc (cc (List.nil_sublist _)))) (fun w1 M => zk rfl zt) λa A↦?_
          refine zp (by kernel_rfl) ?_
          refine hK41 _ _ (wp_cond_true (A.ev rfl) ?_)
          refine wsk fun K47 hK47 => wrl (sda A λa A↦?_)
          refine qa (hK47 _ _ (wp_ret (hret _ _ (en1 A rfl (qe rfl) ?_))))
          exact ⟨by rw [hsy, hin9, zbe it1 iu1, hb42]; rfl, M.bel⟩
        ·
         have hb39' := of_decide_eq_false hb39
         refine sdc A zj hb39 λa A↦?_
         refine qa (hK38 _ _ (wp_cond_false (A.ev rfl) ?_))
         refine wp_exit (hK32 _ _ (wsk fun K48 hK48 => wrl (sda A λa A↦?_)))
         refine qa (hK48 _ _ (wp_ret (hret _ _ (en1 A rfl (qe rfl) ?_))))
         exact ⟨by rw [hsy, hin9, zoh (by omega)], M.bel⟩
      ·
       refine gcl A M (ef rfl rfl) (qpe (Dt.keep M.bel _ ht) (Dt.keep M.bel _ hu) hb17) fun w50 hb49 M a A => ?_
       refine sdo (v := .bool true) A (zk rfl zt) λa A↦?_
       refine sdk (v := .bool true) A λa A↦?_
       refine qa (hK7 _ _ (wp_cond_true (A.ev rfl) ?_))
       refine wsk fun K51 hK51 => wrl (sda A λa A↦?_)
       refine qa (hK51 _ _ (wp_ret (hret _ _ (en1 A rfl (qe rfl) ?_))))
       exact ⟨by rw [qbi (.inr (.inr (.inr (.inr (.inr hb17)))))], M.bel⟩
   ·
    have hb12' := of_decide_eq_false hb12
    refine sdo (v := .bool true) A (qh rfl rfl (fun w => (qgh Tryz.underlying9 w).trans (by rw [hb12] <;> rfl))) λa A↦?_
    refine sdk (v := .bool true) A λa A↦?_
    refine sdm A λa A↦?_
    iterate 7 refine qr A rfl rfl rfl λa A↦?_
    refine sdk (v := .bool true) A λa A↦?_
    refine sdm A λa A↦?_
    iterate 7 refine qr A rfl rfl rfl λa A↦?_
    refine sdk (v := .bool true) A λa A↦?_
    refine sdm A λa A↦?_
    iterate 6 refine qr A rfl rfl rfl λa A↦?_
    refine sdk (v := .bool true) A λa A↦?_
    refine qa (hK7 _ _ (wp_cond_true (A.ev rfl) ?_))
    refine wsk fun K52 hK52 => wrl (sda A λa A↦?_)
    refine qa (hK52 _ _ (wp_ret (hret _ _ (en1 A rfl (qe rfl) ?_))))
    exact ⟨by rw [qbi (.inr (.inr (.inl hb12')))], M.bel⟩
theorem xj : ∀ n, RSames n
 | 0 => fun h => absurd h (Nat.not_lt_zero _)
 | n + 1 => zbj (xj n)
/-- A list is sound. -/
def OkL (L : List Tr) : Prop := L.all (yb 2) = true ∧ vd L + L.length + 1 ≤ 20000 ∧ L.all (xk qi) = true
theorem zkh (L : List Tr) : qm qi (jb L nilT) = true ↔ OkL L := by
  rw [qbf]
  have h1 : yb 1 nilT = true := by rfl
  have h2 : xk qi nilT = true := by rfl
  have h3 : ub nilT = 1 := by rfl
  rw [h3]
  unfold OkL
  constructor
  · rintro ⟨⟨a, _⟩, b, c, _⟩; exact ⟨a, b, c⟩
  · rintro ⟨a, b, c⟩; exact ⟨⟨a, h1⟩, b, c, h2⟩
theorem OkL.of {L M : List Tr} (h : OkL L) (hm : ∀ x ∈ M, x ∈ L) (hn : vd M + M.length ≤ vd L + L.length) : OkL M := ⟨List.all_eq_true.2 fun x hx => List.all_eq_true.1 h.1 x (hm x hx), by have := h.2.1; omega, List.all_eq_true.2 fun x hx => List.all_eq_true.1 h.2.2 x (hm x hx)⟩
theorem zza {A : List Tr} (h : OkL A) : ofS A = jb A nilT := by unfold ofS; rw [zba ((zkh A).2 h)]
theorem jce {A : List Tr} (h : OkL A) : zfj (jb A nilT) = (jb A.reverse nilT, 0) := by
  unfold zfj
  rw [if_neg (by rw [(zkh A).2 h]; decide), qke]
/-! ### How much the answers hold -/
theorem zue (xs : List Tr) (z : Tr) : (fitS xs z).1.bulk ≤ Tr.bulks xs + xs.length + z.bulk + 1 := by
  unfold fitS
  split
  · show (jb xs z).bulk ≤ _; rw [qac]; omega
  · show xg.bulk ≤ _; rw [show xg.bulk = 1 from rfl]; omega
theorem jdh : ∀ xs : List Tr, xs.length ≤ Tr.bulks xs
  | [] => Nat.le_refl _
  | t :: xs => by
    have := jdh xs
    have h2 : 1 ≤ t.bulk := by cases t; rw [ka]; omega
    rw [Tr.bulks, List.length_cons]; omega
theorem zzb (xs : List Tr) : (ofS xs).bulk ≤ Tr.bulks xs + Tr.bulks xs + 2 := by
  have h1 := zue xs nilT
  have h2 := jdh xs
  rw [show nilT.bulk = 1 from rfl] at h1
  unfold ofS
  omega
/-! ### A fixed fact -/
def vt (k : Int) : Dt := .mk ⟨k, 0, ⟨Q6.zero, none, 0, none, 0, none, 0, none, 0⟩, ⟨#[]⟩, none, 0, [], none, 0⟩ []
theorem zuf : zfj (ofS [(vt 2).tr, (vt 10).tr]) = (jb [(vt 10).tr, (vt 2).tr] nilT, 0) := by
  have h : OkL [(vt 2).tr, (vt 10).tr] := by
    unfold vt
    rw [Dt.tr_mk, Dt.tr_mk]
    exact ⟨by rfl, by decide, by rfl⟩
  rw [zza h, jce h]
  rfl
theorem zug (w : World) : ∀ t ∈ [vt 2, vt 10], t.rd w := fun t ht => by
  rcases List.mem_cons.1 ht with h | h
  · rw [h]; exact qlh w 2 (by decide) (by decide)
  · rw [List.mem_singleton.1 h]; exact qlh w 10 (by decide) (by decide)
theorem zpd {t : Dt} {a b : Tr} (h : t.tr = .mk 8 0 Q6.zero ⟨#[]⟩ [] [a, b]) : t.d.k = 8 ∧ t.ts.length = 2 ∧ ∀ u, t.ts[0]? = some u → u.tr = a := by
  cases t with
  | mk d ts =>
    rw [Dt.tr_mk] at h
    injection h with h1 _ _ _ _ h2
    refine ⟨h1, ?_, fun u hu => ?_⟩
    · have := congrArg List.length h2; rw [List.length_map] at this; exact this
    · have := congrArg (fun l => l[0]?) h2
      simp only [List.getElem?_map] at this
      simp only [Dt.ts] at hu
      rw [hu] at this
      simpa using this
theorem LiM_is1_22 : Is1 Tryz.prog 22 := ⟨⟨_, Tryz.underlying22, rfl⟩, by kernel_rfl⟩
theorem LiM_is1_3 : Is1 Tryz.prog 3 := ⟨⟨_, Tryz.underlying3, rfl⟩, by kernel_rfl⟩
theorem LiM_fld_30_0 : FieldAt Tryz.prog 30 0 0 := ⟨_, _, Tryz.underlying30, rfl, rfl, by kernel_rfl⟩
theorem LiM_fld_30_5 : FieldAt Tryz.prog 30 5 10 := ⟨_, _, Tryz.underlying30, rfl, rfl, by kernel_rfl⟩
theorem LiM_isS_30 : IsS Tryz.prog 30 11 := ⟨⟨_, Tryz.underlying30⟩, by kernel_rfl⟩
theorem zca {w : World} : Calls Tryz.prog 38 #[] w fun e w' => e = .returned (.agg (qni.d.cells qni.ts.length).toArray) ∧ Below w.heap.size w w' := by
 have M : Mg w w ([]) := Mg.start w
 refine qx (l := []) Tryz.func38 rfl Tryz.ntmps38 rfl rfl ?_
 intro Q hret hnorm hP a A
 refine wsk fun K1 hK1 => wrl (zv (vs := (qg.d.cells qg.ts.length)) (t := 30) A M rfl rfl rfl pg (qp (z := .agg (qg.d.cells qg.ts.length).toArray) (by kernel_rfl) rfl) (by decide) ?_)
 intro g2 w3 M a A
 refine qa (hK1 _ _ (wsk fun K4 hK4 => wrl (sdo (v := .agg #[.int .i64 1, .int .i64 0, .bool false, .slice none 0 0, .slice none 0 0, .bool false, .slice none 0 0, .slice none 0 0, .string (⟨#[]⟩), .slice none 0 0, .slice none 0 0]) A (zg rfl (fun w => by kernel_rfl)) λa A↦?_)))
 refine zl (us := [.int .i64 1, .int .i64 0, .bool false, .slice none 0 0, .slice none 0 0, .bool false, .slice none 0 0, .slice none 0 0, .string (⟨#[]⟩), .slice none 0 0, .slice none 0 0]) (L' := (.obj g2 (.cells #[.int .i64 1, .int .i64 0, .bool false, .slice none 0 0, .slice none 0 0, .bool false, .slice none 0 0, .slice none 0 0, .string (⟨#[]⟩), .slice none 0 0, .slice none 0 0] 30) :: [])) A M rfl rfl (qy rfl rfl rfl (by kernel_rfl) M 0 rfl rfl rfl) 0 rfl rfl rfl ?_
 intro w5 M
 refine qa (hK4 _ _ (wp_ret (hret _ _ (en1 A rfl (zq M LiM_isS_30 rfl 0 rfl (cs := [.int .i64 1, .int .i64 0, .bool false, .slice none 0 0, .slice none 0 0, .bool false, .slice none 0 0, .slice none 0 0, .string (⟨#[]⟩), .slice none 0 0, .slice none 0 0]) rfl rfl) ?_))))
 exact ⟨rfl, M.bel⟩
theorem zpe {w0 w : World} {t : Dt} (h0 : Below w0.heap.size w0 w) (ht : t.rd w0) (hs : xk qi t.tr = true) (hb : t.tr.bulk ≤ 1000000000) : Calls Tryz.prog 33 #[.agg (t.d.cells t.ts.length).toArray] w fun e w' => ∃ so' ca' ys, ∃ q : Dt, e = .returned (.tuple #[.slice so' (ys : List Dt).length ca', .agg (q.d.cells q.ts.length).toArray]) ∧ (t.tr = jb (ys.map Dt.tr) q.tr ∧ q.d.k ≠ 8 ∧ xk qi q.tr = true ∧ (∀ x ∈ ys, x.rd w0) ∧ q.rd w0 ∧ ys.length ≤ t.tr.bulk) ∧ Mg w w' [.row 30 11 (.slice so' ys.length ca') ys.length (cellsOf ys)] := by
 have M : Mg w w ([]) := Mg.start w
 refine qx (l := [(0, .agg (t.d.cells t.ts.length).toArray)]) Tryz.func33 rfl Tryz.ntmps33 rfl rfl ?_
 intro Q hret hnorm hP a A
 refine wsk fun K1 hK1 => wrl (zv (vs := (t.d.cells t.ts.length)) (t := 30) A M rfl rfl rfl pg (qt rfl rfl) (by decide) ?_)
 intro g2 w3 M a A
 refine sda A λa A↦?_
 refine zv (vs := (qg.d.cells qg.ts.length)) (t := 30) A M rfl rfl rfl pg (qp (z := .agg (qg.d.cells qg.ts.length).toArray) (by kernel_rfl) rfl) (by decide) ?_
 intro g4 w5 M a A
 refine qa (hK1 _ _ (wsk fun K6 hK6 => wrl (kj (e := 30) (sz := 11) (m := 0) (vs := cellsOf []) A M rfl rfl rfl (zn rfl (by kernel_rfl)) rfl rfl (.inl (by decide)) ?_)))
 intro g7 w8 M a A
 refine sda A λa A↦?_
 refine qa (hK6 _ _ (wsk fun K9 hK9 => wp_block (jd (fun m_ a w1 => ∃ (p : Dt) (xs : List Dt) (so_ : Option Addr) (ca_ : Nat), m_ = 1 + p.tr.bulk ∧ (p.rd w0 ∧ xk qi p.tr = true ∧ (∀ x ∈ xs, x.rd w0) ∧ t.tr = jb (xs.map Dt.tr) p.tr ∧ xs.length + p.tr.bulk ≤ t.tr.bulk) ∧ Sl a 22 [(0, .agg (t.d.cells t.ts.length).toArray), (1, .pointer (some ⟨g2, 0, none⟩)), (2, .slice none 0 0), (3, .pointer (some ⟨g4, 0, none⟩)), (4, .slice so_ xs.length ca_), (5, .slice (some ⟨g7, 0, none⟩) 0 0)] ∧ Mg w w1 (.row 30 11 (.slice so_ xs.length ca_) xs.length (cellsOf xs) :: .obj g4 (.cells (qg.d.cells qg.ts.length).toArray 30) :: .obj g2 (.cells (p.d.cells p.ts.length).toArray 30) :: [])) _ ⟨t, [], some ⟨g7, 0, none⟩, 0, rfl, ⟨ht, hs, (fun x h => by cases h), rfl, (by show 0 + t.tr.bulk ≤ t.tr.bulk; omega)⟩, A.keep _ (by repeat' constructor), M⟩ ?_)))
 clear M A
 rintro m_ a w10 ⟨p, xs, so_, ca_, rfl, hinv12, A, M⟩ K11 hK11
 obtain ⟨hp, hps, hxs, htl, hbx⟩ := hinv12
 refine wsk fun K13 hK13 => wsk fun K14 hK14 => wrl (sdo (v := .pointer (some ⟨g2, 0, none⟩)) A (qb LiM_fld_30_0 rfl rfl) λa A↦?_)
 refine sdo A (ql M LiM_is1_3 rfl 2 rfl rfl) λa A↦?_
 rcases tf ((p.d.k == 8)) with hb15 | hb15
 ·
  have hb15' := eq_of_beq hb15
  refine sdc A qk hb15 λa A↦?_
  refine qa (hK14 _ _ (wp_cond_true (A.ev rfl) ?_))
  refine wp_skip (hK13 _ _ (wp_block (wsk fun K16 hK16 => ?_)))
  have l2p := (qlj hps hb15').1
  have hbp := zac p
  obtain ⟨p0, bp0, op0, ip0, mp0, rp0_, lp0, Hp0⟩ := uy hp (i := 0) (by omega)
  obtain ⟨p1, bp1, op1, ip1, mp1, rp1_, lp1, Hp1⟩ := uy hp (i := 1) (by omega)
  replace Hp0 := Hp0.below h0
  replace Hp1 := Hp1.below h0
  refine wrl (sdm A λa A↦?_)
  refine sdo (v := .pointer (some ⟨g2, 10, none⟩)) A (qb LiM_fld_30_5 rfl rfl) λa A↦?_
  refine sdo A (ql M LiM_is1_22 rfl 2 rfl rfl) λa A↦?_
  refine sdo (v := .pointer (some ⟨bp0, op0 + 0 * 11, none⟩)) A (zi (k := 0) Tryz.underlying22 (by kernel_rfl) rfl rfl rfl lp0 (by omega)) λa A↦?_
  refine sdo A (zx M Hp0 LiM_isS_30 rfl rfl) λa A↦?_
  refine kj (e := 30) (sz := 11) (m := 1) (vs := cellsOf [p0]) A M rfl rfl rfl (zn rfl (by kernel_rfl)) rfl rfl (.inl (by decide)) ?_
  intro g17 w18 M a A
  refine vz (e := 30) (sz := 11) (k := 1) (q := xs.length) (m := 1) (xs := cellsOf xs) (news := cellsOf [p0]) (L' := fun v19 => (.row 30 11 (.slice (some ⟨g17, 0, none⟩) 1 1) 1 (cellsOf [p0]) :: .row 30 11 (v19) (xs.length + 1) (cellsOf xs ++ cellsOf [p0]) :: .obj g4 (.cells (qg.d.cells qg.ts.length).toArray 30) :: .obj g2 (.cells (p.d.cells p.ts.length).toArray 30) :: [])) A rfl rfl rfl (qij (z := .agg #[.int .i64 0, .int .i64 0, .bool false, .slice none 0 0, .slice none 0 0, .bool false, .slice none 0 0, .slice none 0 0, .string ⟨#[]⟩, .slice none 0 0, .slice none 0 0]) (sz := 11) (by_ := 192) Tryz.underlying22 (by kernel_rfl) rfl rfl rfl M 1 rfl rfl rfl rfl (qwg (M.has 0 rfl)) (yk [p0]) (by omega)) (fun _ => rfl) ?_
  intro v19 w20 M a A
  replace M : Mg w w20 (.row 30 11 (.slice (some ⟨g17, 0, none⟩) 1 1) 1 (cellsOf [p0]) :: .row 30 11 (v19) ((xs ++ [p0]).length) (cellsOf (xs ++ [p0])) :: .obj g4 (.cells (qg.d.cells qg.ts.length).toArray 30) :: .obj g2 (.cells (p.d.cells p.ts.length).toArray 30) :: []) := by
   rw [vl, List.length_append]; exact M
  obtain ⟨so21, ca22, rfl⟩ := qcg (M.has 1 rfl)
  refine sda A λa A↦?_
  refine qa (hK16 _ _ (wrl (sdo (v := .pointer (some ⟨g2, 10, none⟩)) A (qb LiM_fld_30_5 rfl rfl) λa A↦?_)))
  refine sdo A (ql M LiM_is1_22 rfl 3 rfl rfl) λa A↦?_
  refine sdo (v := .pointer (some ⟨bp1, op1 + 1 * 11, none⟩)) A (zi (k := 1) Tryz.underlying22 (by kernel_rfl) rfl rfl rfl lp1 (by omega)) λa A↦?_
  refine sdo A (zx M Hp1 LiM_isS_30 rfl rfl) λa A↦?_
  refine zl (us := (p1.d.cells p1.ts.length)) (L' := (.row 30 11 (.slice (some ⟨g17, 0, none⟩) 1 1) 1 (cellsOf [p0]) :: .row 30 11 (.slice so21 ((xs ++ [p0]).length) ca22) ((xs ++ [p0]).length) (cellsOf (xs ++ [p0])) :: .obj g4 (.cells (qg.d.cells qg.ts.length).toArray 30) :: .obj g2 (.cells (p1.d.cells p1.ts.length).toArray 30) :: [])) A M rfl rfl (qy rfl rfl rfl (by kernel_rfl) M 3 rfl rfl rfl) 3 rfl rfl rfl ?_
  intro w23 M
  refine qa ?_
  replace M : Mg w w23 (.row 30 11 (.slice so21 ((xs ++ [p0]).length) ca22) ((xs ++ [p0]).length) (cellsOf (xs ++ [p0])) :: .obj g4 (.cells (qg.d.cells qg.ts.length).toArray 30) :: .obj g2 (.cells (p1.d.cells p1.ts.length).toArray 30) :: []) := by
   have h9 := M.sub (cn (cc (cc (cc (.refl _)))))
   exact h9
  refine hK11 _ _ _ (by have := ui mp1; omega) ⟨p1, xs ++ [p0], so21, ca22, rfl, ⟨rp1_, (qwi hps).2 _ mp1, zab hxs rp0_, qta htl hps hb15' ip0 ip1, by have := ui mp1; rw [List.length_append]; simp only [List.length_cons, List.length_nil]; omega⟩, A.keep _ (by repeat' constructor), M⟩
 ·
  have hb15' := ne_of_beq_false hb15
  refine sdc A qk hb15 λa A↦?_
  refine qa (hK14 _ _ (wp_cond_false (A.ev rfl) ?_))
  refine wp_exit (hK9 _ _ (wsk fun K24 hK24 => jf (S := fun w1 => Mg w w1 (.obj g2 (.cells (p.d.cells p.ts.length).toArray 30) :: [])) (by kernel_rfl) ?_))
  replace M := M.drew
  refine qf A 0 rfl rfl rfl rfl hP (M.sub (cn (cn (cc (List.nil_sublist _))))) (fun w1 M => ze rfl) λa A↦?_
  refine qf A 1 rfl rfl rfl rfl hP (M.sub (cn (cn (cc (List.nil_sublist _))))) (fun w1 M => za M LiM_isS_30 rfl 0 rfl (cs := (p.d.cells p.ts.length)) rfl rfl) λa A↦?_
  refine qf A 2 rfl rfl rfl rfl hP (M.sub (cn (cn (cc (List.nil_sublist _))))) (fun w1 M => je rfl) λa A↦?_
  refine qn (by kernel_rfl) (qaf (us := (p.d.cells p.ts.length)) (L' := (.row 30 11 (.slice so_ xs.length ca_) xs.length (cellsOf xs) :: .obj g4 (.cells (p.d.cells p.ts.length).toArray 30) :: .obj g2 (.cells (p.d.cells p.ts.length).toArray 30) :: [])) A M 3 rfl rfl rfl (qy rfl rfl rfl (by kernel_rfl) M 1 rfl rfl rfl) 1 rfl rfl rfl ?_)
  intro w25 M
  refine ⟨(M.sub (cn (cn (cc (List.nil_sublist _))))), ?_⟩
  refine zp (by kernel_rfl) ?_
  refine hK24 _ _ (wp_ret (hret _ _ (en2 A rfl (qe rfl) (zq M LiM_isS_30 rfl 1 rfl (cs := [.int .i64 p.d.k, .int .i64 p.d.n, .bool p.d.y.q.b1, .slice p.d.y.o1 p.d.y.q.t1.length p.d.y.c1, .slice p.d.y.o2 p.d.y.q.q1.length p.d.y.c2, .bool p.d.y.q.b2, .slice p.d.y.o3 p.d.y.q.t2.length p.d.y.c3, .slice p.d.y.o4 p.d.y.q.q2.length p.d.y.c4, .string p.d.s, .slice p.d.ro p.d.rl.length p.d.rc, .slice p.d.lo p.ts.length p.d.lc]) rfl rfl) ?_)))
  replace M : Mg w w25 (.row 30 11 (.slice so_ xs.length ca_) xs.length (cellsOf xs) :: []) := by
   have h9 := M.sub (cc (cn (cn (.refl _))))
   exact h9
  exact ⟨_, _, xs, p, rfl, ⟨htl, hb15', hps, hxs, hp, by omega⟩, M⟩
theorem qjc {w0 w : World} {t : Dt} (h0 : Below w0.heap.size w0 w) (ht : t.rd w0) (hb : t.tr.bulk ≤ 4000000) : Calls Tryz.prog 8 #[.agg (t.d.cells t.ts.length).toArray] w fun e w' => (∃ so' ca' ys, e = .returned (.tuple #[.slice so' (ys : List Dt).length ca', .int .i64 0]) ∧ (qm qi t.tr = true ∧ zw t.tr = some (ys.map Dt.tr) ∧ (∀ x ∈ ys, x.rd w0) ∧ ys.length ≤ t.tr.bulk) ∧ Mg w w' [.row 30 11 (.slice so' ys.length ca') ys.length (cellsOf ys)]) ∨ (e = .returned (.tuple #[.slice none 0 0, .int .i64 10]) ∧ (qm qi t.tr = true ∧ zw t.tr = none) ∧ Below w.heap.size w w') ∨ (e = .returned (.tuple #[.slice none 0 0, .int .i64 2]) ∧ qm qi t.tr = false ∧ Below w.heap.size w w') := by
 have M : Mg w w ([]) := Mg.start w
 refine qx (l := [(0, .agg (t.d.cells t.ts.length).toArray)]) Tryz.func8 rfl Tryz.ntmps8 rfl rfl ?_
 intro Q hret hnorm hP a A
 refine wsk fun K1 hK1 => wrl (zv (vs := (t.d.cells t.ts.length)) (t := 30) A M rfl rfl rfl pg (qt rfl rfl) (by decide) ?_)
 intro g2 w3 M a A
 iterate 2 refine sda A λa A↦?_
 refine qa (hK1 _ _ (wsk fun K4 hK4 => wsk fun K5 hK5 => wrl (sdo A (za M LiM_isS_30 rfl 0 rfl (cs := (t.d.cells t.ts.length)) rfl rfl) λa A↦?_)))
 rcases tf (qm qi t.tr) with hb6 | hb6
 ·
  refine gcl A M (ef rfl rfl) ((hb6 ▸ rsound_any (t := t) (Dt.keep M.bel _ (Dt.keep h0 _ ht)) (by omega))) fun w8 hb7 M a A => ?_
  refine sdo (v := .bool false) A (zk rfl zt) λa A↦?_
  refine qa (hK5 _ _ (wp_cond_false (A.ev rfl) ?_))
  refine wp_skip (hK4 _ _ (wsk fun K9 hK9 => wrl (sdo A (za M LiM_isS_30 rfl 0 rfl (cs := (t.d.cells t.ts.length)) rfl rfl) λa A↦?_)))
  refine sct A (ef rfl rfl) (zpe (h0.trans (M.bel.mono h0.size)) ht (qea hb6) (by omega)) ?_
  rintro _ w10 ⟨so7, ca7, ys, q, rfl, ⟨hy1, hq8, hqs, hy2, hqr, hy3⟩, hM7⟩
  replace M : Mg w w10 (.row 30 11 (.slice so7 ys.length ca7) ys.length (cellsOf ys) :: .obj g2 (.cells (t.d.cells t.ts.length).toArray 30) :: []) := (M.both hM7 (qs (by simp) (zh zm)) (qs (by simp) (zh zm)))
  refine ⟨_, rfl, ?_⟩
  intro a A
  refine sdm A λa A↦?_
  iterate 2 refine sdo A (qz (vs := [.slice so7 ys.length ca7, .agg (q.d.cells q.ts.length).toArray]) rfl rfl) λa A↦?_
  refine zv (vs := (qg.d.cells qg.ts.length)) (t := 30) A M rfl rfl rfl pg (qp (z := .agg (qg.d.cells qg.ts.length).toArray) (by kernel_rfl) rfl) (by decide) ?_
  intro g11 w12 M a A
  refine sda A λa A↦?_
  refine zl (us := (q.d.cells q.ts.length)) (L' := (.obj g11 (.cells (q.d.cells q.ts.length).toArray 30) :: .row 30 11 (.slice so7 ys.length ca7) ys.length (cellsOf ys) :: .obj g2 (.cells (t.d.cells t.ts.length).toArray 30) :: [])) A M rfl rfl (qy rfl rfl rfl (by kernel_rfl) M 0 rfl rfl rfl) 0 rfl rfl rfl ?_
  intro w13 M
  refine qa (hK9 _ _ (wsk fun K14 hK14 => wsk fun K15 hK15 => wrl (sdo (v := .pointer (some ⟨g11, 0, none⟩)) A (qb LiM_fld_30_0 rfl rfl) λa A↦?_)))
  refine sdo A (ql M LiM_is1_3 rfl 0 rfl rfl) λa A↦?_
  rcases tf ((q.d.k != 1)) with hb16 | hb16
  ·
   have hb16' := bne_iff_ne.1 hb16
   refine sdc A zr hb16 λa A↦?_
   refine qa (hK15 _ _ (wp_cond_true (A.ev rfl) ?_))
   refine wsk fun K17 hK17 => wrl ?_
   iterate 2 refine sda A λa A↦?_
   refine qa (hK17 _ _ (wp_ret (hret _ _ (en2 A rfl (qe rfl) (qe rfl) ?_))))
   exact .inr (.inl ⟨rfl, ⟨hb6, qod hy1 hq8 hb16'⟩, M.bel⟩)
  ·
   have hb16' := bne_eq_false_iff_eq.1 hb16
   refine sdc A zr hb16 λa A↦?_
   refine qa (hK15 _ _ (wp_cond_false (A.ev rfl) ?_))
   refine wp_skip (hK14 _ _ (wsk fun K18 hK18 => wrl (sdm A λa A↦?_)))
   iterate 2 refine sda A λa A↦?_
   refine qa (hK18 _ _ (wp_ret (hret _ _ (en2 A rfl (qe rfl) (qe rfl) ?_))))
   replace M : Mg w w13 (.row 30 11 (.slice so7 ys.length ca7) ys.length (cellsOf ys) :: []) := by
    have h9 := M.sub (cn (cc (cn (.refl _))))
    exact h9
   exact .inl ⟨_, _, ys, rfl, ⟨hb6, qoc hy1 hqs hb16', hy2, hy3⟩, M⟩
 ·
  refine gcl A M (ef rfl rfl) ((hb6 ▸ rsound_any (t := t) (Dt.keep M.bel _ (Dt.keep h0 _ ht)) (by omega))) fun w20 hb19 M a A => ?_
  refine sdo (v := .bool true) A (zk rfl zt) λa A↦?_
  refine qa (hK5 _ _ (wp_cond_true (A.ev rfl) ?_))
  refine wsk fun K21 hK21 => wrl ?_
  iterate 2 refine sda A λa A↦?_
  refine qa (hK21 _ _ (wp_ret (hret _ _ (en2 A rfl (qe rfl) (qe rfl) ?_))))
  exact .inr (.inr ⟨rfl, hb6, M.bel⟩)
theorem zcb {w0 w : World} {t : Dt} (h0 : Below w0.heap.size w0 w) (ht : t.rd w0) (hb : t.tr.bulk ≤ 4000000) (hs : qm qi t.tr = true) (h : (zw t.tr).isSome = true) : Calls Tryz.prog 8 #[.agg (t.d.cells t.ts.length).toArray] w fun e w' => ∃ so' ca' ys, e = .returned (.tuple #[.slice so' (ys : List Dt).length ca', .int .i64 0]) ∧ (zw t.tr = some (ys.map Dt.tr) ∧ (∀ x ∈ ys, x.rd w0) ∧ ys.length ≤ t.tr.bulk) ∧ Mg w w' [.row 30 11 (.slice so' ys.length ca') ys.length (cellsOf ys)] := by
 refine (qjc h0 ht hb).mono ?_
 rintro e w' (⟨so', ca', ys, h1, h2, h3⟩ | ⟨_, h2, _⟩ | ⟨_, h2, _⟩)
 ·
  exact ⟨so', ca', ys, h1, h2.2, h3⟩
 ·
  rw [h2.2] at h; cases h
 ·
  rw [hs] at h2; cases h2
theorem zcc {w0 w : World} {t : Dt} (h0 : Below w0.heap.size w0 w) (ht : t.rd w0) (hb : t.tr.bulk ≤ 4000000) (hs : qm qi t.tr = true) (h : (zw t.tr).isSome = false) : Calls Tryz.prog 8 #[.agg (t.d.cells t.ts.length).toArray] w fun e w' => e = .returned (.tuple #[.slice none 0 0, .int .i64 10]) ∧ Below w.heap.size w w' := by
 refine (qjc h0 ht hb).mono ?_
 rintro e w' (⟨so', ca', ys, h1, h2, h3⟩ | ⟨h1, h2, h3⟩ | ⟨_, h2, _⟩)
 ·
  rw [h2.2.1] at h; cases h
 ·
  exact ⟨h1, h3⟩
 ·
  rw [hs] at h2; cases h2
theorem zhb {w0 w : World} {t : Dt} (h0 : Below w0.heap.size w0 w) (ht : t.rd w0) (hb : t.tr.bulk ≤ 4000000) (hs : qm qi t.tr = false) : Calls Tryz.prog 8 #[.agg (t.d.cells t.ts.length).toArray] w fun e w' => e = .returned (.tuple #[.slice none 0 0, .int .i64 2]) ∧ Below w.heap.size w w' := by
 refine (qjc h0 ht hb).mono ?_
 rintro e w' (⟨so', ca', ys, h1, h2, h3⟩ | ⟨h1, h2, h3⟩ | ⟨h1, h2, h3⟩)
 ·
  rw [hs] at h2; cases h2.1
 ·
  rw [hs] at h2; cases h2.1
 ·
  exact ⟨h1, h3⟩
theorem zzc {ts : List Dt} {k : Nat} {t : Dt} (h : ts[k - 1]? = some t) (hk : 0 < k) : (ts.drop (k - 1)).map Dt.tr = t.tr :: (ts.drop k).map Dt.tr := by
 obtain ⟨hl, rfl⟩ := List.getElem?_eq_some_iff.1 h
 rw [List.drop_eq_getElem_cons hl, show k - 1 + 1 = k by omega, List.map_cons]
theorem qua {w : World} {so : Option Addr} {ca : Nat} {ts : List Dt} (hR : Rt w so ts) (hD : ∀ t ∈ ts, t.rd w) {u : Dt} (hu : u.rd w) (hl : ts.length ≤ 1000000000) (P : Nat → Prop) (hPn : ∀ b, w.heap.size ≤ b → P b) (hPt : ∀ t ∈ ts, t.at_ P) (hPu : u.at_ P) : Calls Tryz.prog 40 #[.slice so ts.length ca, .agg (u.d.cells u.ts.length).toArray] w fun e w' => ∃ t2 : Dt, e = .returned (.agg (t2.d.cells t2.ts.length).toArray) ∧ (t2.rd w' ∧ t2.at_ P ∧ t2.tr = jb (ts.map Dt.tr) u.tr) ∧ Below w.heap.size w w' := by
 have M : Mg w w ([]) := Mg.start w
 refine qx (l := [(0, .slice so ts.length ca), (1, .agg (u.d.cells u.ts.length).toArray)]) Tryz.func40 rfl Tryz.ntmps40 rfl rfl ?_
 intro Q hret hnorm hP a A
 refine wsk fun K1 hK1 => wrl (zv (vs := (u.d.cells u.ts.length)) (t := 30) A M rfl rfl rfl pg (qt rfl rfl) (by decide) ?_)
 intro g2 w3 M a A
 refine zv (vs := (qg.d.cells qg.ts.length)) (t := 30) A M rfl rfl rfl pg (qp (z := .agg (qg.d.cells qg.ts.length).toArray) (by kernel_rfl) rfl) (by decide) ?_
 intro g4 w5 M a A
 refine qa (hK1 _ _ (wsk fun K6 hK6 => wsk fun K7 hK7 => wrl (sdm A λa A↦?_)))
 refine sdo A (zb Tryz.underlying22 rfl) λa A↦?_
 refine sdo (v := .int .i64 (((ts.length : Nat) : Int) - 1)) A (qh rfl rfl (ar_sub (in_i64 (by omega) (by omega)))) λa A↦?_
 refine sda A λa A↦?_
 refine qa (hK7 _ _ (wp_block ?_))
 have hge3 := (Ck.lt (M.has 1 rfl) g2 rfl).1
 have hge4 := (Ck.lt (M.has 0 rfl) g4 rfl).1
 refine jd (fun m_ a w1 => ∃ (k : Nat) (z : Dt), m_ = 1 + k ∧ (k ≤ ts.length ∧ z.rd w1 ∧ z.at_ (fun b => b ≠ g2 ∧ b ≠ g4) ∧ z.at_ P ∧ z.tr = jb ((ts.drop k).map Dt.tr) u.tr) ∧ Sl a 21 [(0, .slice so ts.length ca), (1, .agg (u.d.cells u.ts.length).toArray), (3, .pointer (some ⟨g2, 0, none⟩)), (4, .pointer (some ⟨g4, 0, none⟩)), (5, .int .i64 (((k : Nat) : Int) - 1)), (6, .slice so ts.length ca), (7, .int .i64 (((ts.length : Nat) : Int))), (8, .int .i64 (((ts.length : Nat) : Int) - 1))] ∧ Mg w w1 (.obj g4 (.cells (qg.d.cells qg.ts.length).toArray 30) :: .obj g2 (.cells (z.d.cells z.ts.length).toArray 30) :: [])) _ ⟨ts.length, u, rfl, ⟨Nat.le_refl _, Dt.keep M.bel _ hu, Dt.at_mono (fun b hb => by constructor <;> omega) _ (Dt.at_lt _ hu), hPu, by rw [List.drop_length]; rfl⟩, A.keep _ (by repeat' constructor), M⟩ ?_
 clear M A
 rintro m_ a w8 ⟨k, z, rfl, hinv10, A, M⟩ K9 hK9
 obtain ⟨hk0, hzr, hza, hzp, hzt⟩ := hinv10
 refine wsk fun K11 hK11 => wsk fun K12 hK12 => wrl (sdm A λa A↦?_)
 rcases tf (decide (0 ≤ ((k : Nat) : Int) - 1)) with hb13 | hb13
 ·
  have hb13' := of_decide_eq_true hb13
  refine sdc A xl hb13 λa A↦?_
  refine qa (hK12 _ _ (wp_cond_true (A.ev rfl) ?_))
  refine wp_skip (hK11 _ _ (wsk fun K14 hK14 => wp_block ?_))
  obtain ⟨t1, bt1, ot1, it1, mt1, rt1_, lt1, Ht1⟩ := zya hR hD (i := (k - 1)) (by omega)
  have hl3 := (Ck.lt (M.has 1 rfl) g2 rfl).2
  have hl4 := (Ck.lt (M.has 0 rfl) g4 rfl).2
  refine jf (S := fun w1 => Mg w w1 ([])) (by kernel_rfl) ?_
  replace M := M.drew
  refine qf A 0 rfl rfl rfl rfl hP (M.sub (cn (cn (List.nil_sublist _)))) (fun w1 M => ze rfl) λa A↦?_
  refine qf A 1 rfl rfl rfl rfl hP (M.sub (cn (cn (List.nil_sublist _)))) (fun w1 M => ze rfl) λa A↦?_
  refine qf (v := .pointer (some ⟨bt1, ot1 + (k - 1) * 11, none⟩)) A 2 rfl rfl rfl rfl hP (M.sub (cn (cn (List.nil_sublist _)))) (fun w1 M => zi (k := (k - 1)) Tryz.underlying22 (by kernel_rfl) rfl rfl (by omega) lt1 (by omega)) λa A↦?_
  refine qf A 3 rfl rfl rfl rfl hP (M.sub (cn (cn (List.nil_sublist _)))) (fun w1 M => zx M Ht1 LiM_isS_30 rfl rfl) λa A↦?_
  refine qn (by kernel_rfl) (uq A 4 rfl rfl rfl rfl (za M LiM_isS_30 rfl 1 rfl (cs := (z.d.cells z.ts.length)) rfl rfl) (M.sub (cn (cn (List.nil_sublist _)))) ?_)
  intro a A
  replace hzr : z.rd w8.drew := Dt.keep (Below.refl _ w8).drew _ hzr
  have hdw : w8.drew.heap.size = w8.heap.size := rfl
  refine qn (by kernel_rfl) (jbf (e := 30) (sz := 11) (m := 2) (vs := cellsOf [t1, z]) A M 5 rfl rfl rfl rfl (zn rfl (by kernel_rfl)) rfl rfl (by decide) ?_)
  intro g5 w15 M hg5 hb5
  replace hzr := Dt.keep hb5 _ hzr
  refine ⟨(M.sub (cn (cn (cn (List.nil_sublist _))))), ?_⟩
  intro a A
  refine qf (v := .agg ((ve g5 t1 z).d.cells (ve g5 t1 z).ts.length).toArray) A 6 rfl rfl rfl rfl hP (M.sub (cn (cn (cn (List.nil_sublist _))))) (fun w1 M => zg rfl (fun w => by kernel_rfl)) λa A↦?_
  refine qn (by kernel_rfl) (qhc (us := ((ve g5 t1 z).d.cells (ve g5 t1 z).ts.length)) (L' := (.row 30 11 (.slice (some ⟨g5, 0, none⟩) 2 2) 2 (cellsOf [t1, z]) :: .obj g4 (.cells (qg.d.cells qg.ts.length).toArray 30) :: .obj g2 (.cells ((ve g5 t1 z).d.cells (ve g5 t1 z).ts.length).toArray 30) :: [])) A M 7 rfl rfl rfl (qy (cs := (ve g5 t1 z).d.cells (ve g5 t1 z).ts.length) rfl rfl rfl (by kernel_rfl) M 2 rfl rfl (vb (ve g5 t1 z))) 2 rfl rfl rfl ?_)
  intro w16 M hK17
  replace hzr := Dt.kept hK17 _ hzr (Dt.at_mono (fun b hb => hb.1) _ hza)
  have hr9 : (ve g5 t1 z).rd w16 := zaf (Ck.lt (M.has 0 rfl) g5 rfl).2 (fun p v hp => by
   obtain ⟨b, o, e, hc⟩ := qwg (M.has 0 rfl) (fun e => by cases e)
   cases e
   have := hc p v hp
   rwa [Nat.zero_add] at this) (Dt.keep M.bel _ rt1_) hzr
  have ha9 : (ve g5 t1 z).at_ (fun b => b ≠ g2 ∧ b ≠ g4) := qoe ⟨by omega, by omega⟩ (Dt.at_mono (fun b hb => by constructor <;> omega) _ (Dt.at_lt _ rt1_)) hza
  have hp9 : (ve g5 t1 z).at_ P := qoe (hPn _ (by omega)) (hPt t1 mt1) hzp
  refine ⟨(M.sub (cn (cn (cn (List.nil_sublist _))))), ?_⟩
  refine zp (by kernel_rfl) ?_
  refine hK14 _ _ (wrl (sdm A λa A↦?_))
  refine sdo (v := .int .i64 (((k - 1 : Nat) : Int) - 1)) A (qh rfl rfl (ar_sub ((in_i64 (by omega) (by omega)).trans (by omega)))) λa A↦?_
  refine sda A λa A↦?_
  refine qa ?_
  replace M : Mg w w16 (.obj g4 (.cells (qg.d.cells qg.ts.length).toArray 30) :: .obj g2 (.cells ((ve g5 t1 z).d.cells (ve g5 t1 z).ts.length).toArray 30) :: []) := by
   have h9 := M.sub (cn (cc (cc (.refl _))))
   exact h9
  refine hK9 _ _ _ (by omega) ⟨k - 1, (ve g5 t1 z), rfl, ⟨by omega, hr9, ha9, hp9, by rw [zae, hzt, zzc it1 (by omega)]; rfl⟩, A.keep _ (by repeat' constructor), M⟩
 ·
  have hb13' := of_decide_eq_false hb13
  refine sdc A xl hb13 λa A↦?_
  refine qa (hK12 _ _ (wp_cond_false (A.ev rfl) ?_))
  refine wp_exit (hK6 _ _ (wsk fun K18 hK18 => wrl (sdo A (za M LiM_isS_30 rfl 1 rfl (cs := (z.d.cells z.ts.length)) rfl rfl) λa A↦?_)))
  refine xr (us := (z.d.cells z.ts.length)) (L' := (.obj g4 (.cells (z.d.cells z.ts.length).toArray 30) :: .obj g2 (.cells (z.d.cells z.ts.length).toArray 30) :: [])) A M rfl rfl (qy rfl rfl rfl (by kernel_rfl) M 0 rfl rfl rfl) 0 rfl rfl rfl ?_
  intro w19 M hK20
  replace hzr := Dt.kept hK20 _ hzr (Dt.at_mono (fun b hb => hb.2) _ hza)
  refine qa (hK18 _ _ (wp_ret (hret _ _ (en1 A rfl (zq M LiM_isS_30 rfl 0 rfl (cs := [.int .i64 z.d.k, .int .i64 z.d.n, .bool z.d.y.q.b1, .slice z.d.y.o1 z.d.y.q.t1.length z.d.y.c1, .slice z.d.y.o2 z.d.y.q.q1.length z.d.y.c2, .bool z.d.y.q.b2, .slice z.d.y.o3 z.d.y.q.t2.length z.d.y.c3, .slice z.d.y.o4 z.d.y.q.q2.length z.d.y.c4, .string z.d.s, .slice z.d.ro z.d.rl.length z.d.rc, .slice z.d.lo z.ts.length z.d.lc]) rfl rfl) ?_))))
  obtain rfl : k = 0 := by omega
  exact ⟨z, rfl, ⟨hzr, hzp, hzt⟩, M.bel⟩
theorem qub {P : Program} {w : World} {b : Nat} : ∀ (l : List UInt8) (off : Nat) (acc : ByteArray), (∀ j, j < l.length → w.cell? ⟨b, off + j, none⟩ = some (.int .u8 (((l.getD j 0).toNat : Nat) : Int))) → (Extern.Bytes.loadBytes ⟨b, off, none⟩ l.length acc).run P w = .ok ⟨acc.data ++ l.toArray⟩ w
  | [], off, acc, _ => by
    simp [Extern.Bytes.loadBytes]
  | x :: l, off, acc, h => by
    have h0 := h 0 (by simp)
    have hl : (load ⟨b, off, none⟩).run P w = .ok (.int .u8 ((x.toNat : Nat) : Int)) w := by
      rw [Nat.add_zero] at h0
      have h1 : w.cell? ⟨b, off, none⟩ = some (.int .u8 ((x.toNat : Nat) : Int)) := by simpa using h0
      simp [go_sem, h1]
    have hn : ∀ j, j < l.length → w.cell? ⟨b, off + 1 + j, none⟩ = some (.int .u8 (((l.getD j 0).toNat : Nat) : Int)) := by
      intro j hj
      have h3 := h (j + 1) (by simpa using hj)
      rw [show off + (j + 1) = off + 1 + j by omega] at h3
      simpa using h3
    have ih := qub (P := P) l (off + 1) (acc.push x) hn
    rw [List.length_cons, Extern.Bytes.loadBytes, Sem.run_bind, hl]
    simp only [Result.andThen_ok, xd, Int.toNat_natCast, UInt8.ofNat_toNat]
    rw [ih]
    congr 2
    simp
theorem qpf {P : Program} {w : World} {so : Option Addr} {l : List UInt8} {ca : Nat} (h : Rb w so l) : (Extern.Bytes.bytesOf (.slice so l.length ca)).run P w = .ok ⟨l.toArray⟩ w := by
  by_cases hl : l = []
  · subst hl
    cases so with
    | none => simp [Extern.Bytes.bytesOf]; rfl
    | some a => simp [Extern.Bytes.bytesOf, Extern.Bytes.loadBytes]; rfl
  · obtain ⟨b, off, rfl, _, h2⟩ := h.pos hl
    have := qub (P := P) l off .empty h2
    simp only [Extern.Bytes.bytesOf]
    rw [this]
    simp
theorem qxh {P : Program} {w : World} {so sp : Option Addr} {a b : List UInt8} {ca cb : Nat} (ha : Rb w so a) (hb : Rb w sp b) : (Extern.BytealgCompare.compare #[.slice so a.length ca, .slice sp b.length cb]).run P w = .ok (.int .i64 (compareBytes a b)) w := by
  change Sem.run P (do pure (goInt (Extern.BytealgCompare.cmp (← Extern.Bytes.bytesOf (.slice so a.length ca)) (← Extern.Bytes.bytesOf (.slice sp b.length cb))))) w = _
  simp only [Sem.run_bind, Sem.run_pure, Result.andThen, qpf ha, qpf hb]
  rw [Go.Lib.cmp_eq]
  rfl
set_option maxHeartbeats 1000000 in
set_option maxRecDepth 100000 in
theorem zuh {w : World} {so sp : Option Addr} {a b : List UInt8} {ca cb : Nat} (ha : Rb w so a) (hb : Rb w sp b) : Calls Tryz.prog 77 #[.slice so a.length ca, .slice sp b.length cb] w fun e w' => e = .returned (.int .i64 (compareBytes a b)) ∧ Below w.heap.size w w' := by
  go_enter Tryz.func77, Tryz.ntmps77
  go_wp2
  rw [run_callFunc_extern Tryz.func94 (by kernel_rfl) (by kernel_rfl) (by kernel_rfl) (e := Extern.BytealgCompare.compare) (by kernel_rfl), qxh ha hb]
  simp only [Result.andThen]
  rw [Oper.upon_value]
  go_wp2
  go_ret
  exact ⟨rfl, Below.refl _ _⟩
theorem qpg {w : World} {s t : ByteArray} : Calls Tryz.prog 76 #[.string s, .string t] w fun e w' => e = .returned (.int .i64 (compareBytes s.data.toList t.data.toList)) ∧ Below w.heap.size w w' := (Tryz.strings_Compare s t w).mono fun e w' ⟨h, e2⟩ => ⟨h, e2 ▸ Below.refl _ _⟩
end Go.Proofs.YtipikhcmieboaaaGreatDoor.G
namespace Go.Proofs.YtipikhcmieboaaaGreatDoor
open Go.RowKit
set_option linter.unusedVariables false
set_option linter.unusedSimpArgs false
set_option maxRecDepth 100000
theorem EqN_is1_23 : Is1 Tryz.prog 23 := ⟨⟨_, Tryz.underlying23, rfl⟩, by kernel_rfl⟩
theorem EqN_is1_4 : Is1 Tryz.prog 4 := ⟨⟨_, Tryz.underlying4, rfl⟩, by kernel_rfl⟩
theorem EqN_fld_25_0 : FieldAt Tryz.prog 25 0 0 := ⟨_, _, Tryz.underlying25, rfl, rfl, by kernel_rfl⟩
theorem EqN_fld_25_1 : FieldAt Tryz.prog 25 1 1 := ⟨_, _, Tryz.underlying25, rfl, rfl, by kernel_rfl⟩
theorem EqN_fld_25_2 : FieldAt Tryz.prog 25 2 2 := ⟨_, _, Tryz.underlying25, rfl, rfl, by kernel_rfl⟩
theorem EqN_fld_27_0 : FieldAt Tryz.prog 27 0 0 := ⟨_, _, Tryz.underlying27, rfl, rfl, by kernel_rfl⟩
theorem EqN_fld_27_1 : FieldAt Tryz.prog 27 1 3 := ⟨_, _, Tryz.underlying27, rfl, rfl, by kernel_rfl⟩
theorem EqN_isS_25 : IsS Tryz.prog 25 3 := ⟨⟨_, Tryz.underlying25⟩, by kernel_rfl⟩
theorem EqN_isS_27 : IsS Tryz.prog 27 6 := ⟨⟨_, Tryz.underlying27⟩, by kernel_rfl⟩
theorem qpi (u : Rat) : Q6.rat u 0 = ⟨rb u.num, words u.num.natAbs, words u.den, false, [], [1]⟩ := by
 unfold Q6.rat
 have h0 : words (0 : Rat).num.natAbs = [] := by show words 0 = []; exact words_zero
 have h1 : words (0 : Rat).den = [1] := by show words 1 = [1]; exact vx
 rw [h0, h1]
 rfl
theorem zvb {u x : Rat} (hu : xq u) (hx : xq x) : zma ⟨rb u.num, words u.num.natAbs, words u.den, false, [], [1]⟩ ⟨rb x.num, words x.num.natAbs, words x.den, false, [], [1]⟩ = (ye u x, 0) := by
 rw [← qpi, ← qpi, zrd hu hx]
theorem zvc : xq 0 := by
 refine ⟨?_, ?_⟩
 ·
  show (words 0).length ≤ 512; rw [words_zero]; decide
 ·
  show (words 1).length ≤ 512; rw [vx]; decide
theorem zce {u : Rat} (hu : xq u) : LenQ ⟨rb u.num, words u.num.natAbs, words u.den, false, [], [1]⟩ := by rw [← qpi]; exact qnf hu zvc
theorem zpf {u x : Rat} (h : xp (rb u.num) (words u.num.natAbs) (words u.den) (rb x.num) (words x.num.natAbs) (words x.den) = true) : ye u x = 0 := by
 unfold xp at h
 simp only [Bool.and_eq_true, beq_iff_eq, decide_eq_true_eq] at h
 rw [zxb h.1 h.2.1 h.2.2]
 unfold ye
 rw [if_neg Rat.lt_irrefl, if_pos rfl]
theorem qla {w : World} {b b' : Bool} {t q t' q' : List Nat} {a1 a2 : Option Addr} {ac1 ac2 : Nat} (ha1 : Sc w a1 ac1 t) (ha2 : Sc w a2 ac2 q) {u1 u2 : Option Addr} {uc1 uc2 : Nat} (hu1 : Sc w u1 uc1 t') (hu2 : Sc w u2 uc2 q') (l1 : t.length ≤ 9223372036854775807) (l2 : q.length ≤ 9223372036854775807) (l3 : t'.length ≤ 9223372036854775807) (l4 : q'.length ≤ 9223372036854775807) {r : Bool} (hr : xp b t q b' t' q' = r) :
  Calls Tryz.prog 107 #[.agg #[.bool b, .slice a1 t.length ac1, .slice a2 q.length ac2], .agg #[.bool b', .slice u1 t'.length uc1, .slice u2 q'.length uc2]] w fun e w' => e = .returned (.bool r) ∧ Below w.heap.size w w' := by
 have V : St w w [] [(u2, q'), (u1, t'), (a2, q), (a1, t)] [] := ((((St.start w).addR ha1.rd).addR ha2.rd).addR hu1.rd).addR hu2.rd
 refine qx (l := [(0, .agg #[.bool b, .slice a1 t.length ac1, .slice a2 q.length ac2]), (1, .agg #[.bool b', .slice u1 t'.length uc1, .slice u2 q'.length uc2])]) Tryz.func107 rfl Tryz.ntmps107 rfl rfl ?_
 intro Q hret hnorm hP a A
 refine wsk fun K1 hK1 => wrl (ja A V rfl rfl rfl pg (qt rfl rfl) rfl ?_)
 intro g2 w3 V a A
 refine ja A V rfl rfl rfl pg (qt rfl rfl) rfl ?_
 intro g4 w5 V a A
 refine sda A λa A↦?_
 refine qa (hK1 _ _ (wsk fun K6 hK6 => wrl (sdo (v := .pointer (some ⟨g2, 0, none⟩)) A (qb EqN_fld_25_0 rfl rfl) λa A↦?_)))
 refine sdo A (qw V EqN_is1_4 rfl 1 rfl rfl) λa A↦?_
 refine sdo (v := .pointer (some ⟨g4, 0, none⟩)) A (qb EqN_fld_25_0 rfl rfl) λa A↦?_
 refine sdo A (qw V EqN_is1_4 rfl 0 rfl rfl) λa A↦?_
 rcases tf ((b == b')) with hb7 | hb7
 ·
  have hb7' := eq_of_beq hb7
  refine sdo (v := .bool true) A (qh rfl rfl (fun w => ((ut Tryz.underlying4) w).trans (by rw [hb7]))) λa A↦?_
  refine sdm A λa A↦?_
  refine sdo (v := .pointer (some ⟨g2, 1, none⟩)) A (qb EqN_fld_25_1 rfl rfl) λa A↦?_
  refine sdo A (qw V EqN_is1_23 rfl 1 rfl rfl) λa A↦?_
  refine sdo (v := .pointer (some ⟨g4, 1, none⟩)) A (qb EqN_fld_25_1 rfl rfl) λa A↦?_
  refine sdo A (qw V EqN_is1_23 rfl 0 rfl rfl) λa A↦?_
  rcases tf (decide (t = t')) with hb8 | hb8
  ·
   have hb8' := of_decide_eq_true hb8
   refine sct A (ef rfl rfl) (qba _ _ (V.rd 3 rfl) (V.rd 1 rfl) l1 l3 hb8) ?_
   rintro _ w10 ⟨rfl, hb9⟩
   replace V := V.call hb9
   refine ⟨_, rfl, ?_⟩
   intro a A
   refine sdk (v := .bool true) A λa A↦?_
   refine sdm A λa A↦?_
   refine sdo (v := .pointer (some ⟨g2, 2, none⟩)) A (qb EqN_fld_25_2 rfl rfl) λa A↦?_
   refine sdo A (qw V EqN_is1_23 rfl 1 rfl rfl) λa A↦?_
   refine sdo (v := .pointer (some ⟨g4, 2, none⟩)) A (qb EqN_fld_25_2 rfl rfl) λa A↦?_
   refine sdo A (qw V EqN_is1_23 rfl 0 rfl rfl) λa A↦?_
   rcases tf (decide (q = q')) with hb11 | hb11
   ·
    have hb11' := of_decide_eq_true hb11
    refine sct A (ef rfl rfl) (qba _ _ (V.rd 2 rfl) (V.rd 0 rfl) l2 l4 hb11) ?_
    rintro _ w13 ⟨rfl, hb12⟩
    replace V := V.call hb12
    refine ⟨_, rfl, ?_⟩
    intro a A
    refine sdk (v := .bool true) A λa A↦?_
    refine sda A λa A↦?_
    refine qa (hK6 _ _ (wp_ret (hret _ _ (en1 A rfl (qe rfl) ?_))))
    subst hr
    exact ⟨by unfold xp; rw [hb7, hb8, hb11]; try rfl, V.bel⟩
   ·
    have hb11' := of_decide_eq_false hb11
    refine sct A (ef rfl rfl) (qba _ _ (V.rd 2 rfl) (V.rd 0 rfl) l2 l4 hb11) ?_
    rintro _ w15 ⟨rfl, hb14⟩
    replace V := V.call hb14
    refine ⟨_, rfl, ?_⟩
    intro a A
    refine sdk (v := .bool false) A λa A↦?_
    refine sda A λa A↦?_
    refine qa (hK6 _ _ (wp_ret (hret _ _ (en1 A rfl (qe rfl) ?_))))
    subst hr
    exact ⟨by unfold xp; rw [hb7, hb8, hb11]; try rfl, V.bel⟩
  ·
   have hb8' := of_decide_eq_false hb8
   refine sct A (ef rfl rfl) (qba _ _ (V.rd 3 rfl) (V.rd 1 rfl) l1 l3 hb8) ?_
   rintro _ w17 ⟨rfl, hb16⟩
   replace V := V.call hb16
   refine ⟨_, rfl, ?_⟩
   intro a A
   refine sdk (v := .bool false) A λa A↦?_
   refine sdm A λa A↦?_
   iterate 5 refine qr A rfl rfl rfl λa A↦?_
   refine sdk (v := .bool false) A λa A↦?_
   refine sda A λa A↦?_
   refine qa (hK6 _ _ (wp_ret (hret _ _ (en1 A rfl (qe rfl) ?_))))
   subst hr
   exact ⟨by unfold xp; rw [hb7, hb8]; try rfl, V.bel⟩
 ·
  have hb7' := ne_of_beq_false hb7
  refine sdo (v := .bool false) A (qh rfl rfl (fun w => ((ut Tryz.underlying4) w).trans (by rw [hb7]))) λa A↦?_
  refine sdm A λa A↦?_
  iterate 5 refine qr A rfl rfl rfl λa A↦?_
  refine sdk (v := .bool false) A λa A↦?_
  refine sdm A λa A↦?_
  iterate 5 refine qr A rfl rfl rfl λa A↦?_
  refine sdk (v := .bool false) A λa A↦?_
  refine sda A λa A↦?_
  refine qa (hK6 _ _ (wp_ret (hret _ _ (en1 A rfl (qe rfl) ?_))))
  subst hr
  exact ⟨by unfold xp; rw [hb7]; try rfl, V.bel⟩
theorem quc {w : World} {b : Bool} {t q : List Nat} {a1 a2 : Option Addr} {ac1 ac2 : Nat} (ha1 : Sc w a1 ac1 t) (ha2 : Sc w a2 ac2 q) : Calls Tryz.prog 109 #[.agg #[.bool b, .slice a1 t.length ac1, .slice a2 q.length ac2]] w (AnsV w ⟨b, t, q, false, [], [1]⟩) := by
 have V : St w w [] [(a2, q), (a1, t)] [] := ((St.start w).addR ha1.rd).addR ha2.rd
 refine qx (l := [(0, .agg #[.bool b, .slice a1 t.length ac1, .slice a2 q.length ac2])]) Tryz.func109 rfl Tryz.ntmps109 rfl rfl ?_
 intro Q hret hnorm hP a A
 refine wsk fun K1 hK1 => wrl (ja A V rfl rfl rfl pg (qt rfl rfl) rfl ?_)
 intro g2 w3 V a A
 refine ja (vs := [.bool false, .slice none 0 0, .slice none 0 0, .bool false, .slice none 0 0, .slice none 0 0]) (t := 27) A V rfl rfl rfl pg (qp (z := .agg #[.bool false, .slice none 0 0, .slice none 0 0, .bool false, .slice none 0 0, .slice none 0 0]) (by kernel_rfl) rfl) rfl ?_
 intro g4 w5 V a A
 refine qa (hK1 _ _ (wsk fun K6 hK6 => jf (S := fun w1 => St w w1 [(g2, [.bool b, .slice a1 t.length ac1, .slice a2 q.length ac2])] [(a2, q), (a1, t)] []) (by kernel_rfl) ?_))
 replace V := V.drew
 refine qf A 0 rfl rfl rfl rfl hP (V.partD (cn (cc .slnil)) 0 rfl (.refl _)) (fun w1 V => zu V EqN_isS_25 rfl 0 rfl (cs := [.bool b, .slice a1 t.length ac1, .slice a2 q.length ac2]) rfl rfl) λa A↦?_
 refine qn (by kernel_rfl) (zd A 1 rfl rfl rfl rfl (qj  rfl rfl (fun w => by kernel_rfl)) ((show Calls Tryz.prog 126 #[.int .i64 (0)] _ (AnsV _ (Q6.whole false 0)) from ztg (k := 0) (by decide))) ?_)
 rintro _ w10 ⟨p7_1, p7_c1, p7_2, p7_c2, p7_3, p7_c3, p7_4, p7_c4, rfl, hn8, hb9⟩
 replace V := V.call hb9
 replace V := V.addR hn8.s1.rd
 replace V := V.addR hn8.s2.rd
 replace V := V.addR hn8.s3.rd
 replace V := V.addR hn8.s4.rd
 refine ⟨_, rfl, (V.partD (cn (cc .slnil)) 4 rfl (.refl _)), ?_⟩
 intro a A
 refine qf (v := .agg #[.bool false, .slice p7_3 0 p7_c3, .slice p7_4 1 p7_c4]) A 2 rfl rfl rfl rfl hP (V.partD (cn (cc .slnil)) 4 rfl (.refl _)) (fun w1 V => qye rfl (fun w => by kernel_rfl)) λa A↦?_
 refine qf (v := .agg #[.bool b, .slice a1 t.length ac1, .slice a2 q.length ac2, .bool false, .slice p7_3 0 p7_c3, .slice p7_4 1 p7_c4]) A 3 rfl rfl rfl rfl hP (V.partD (cn (cc .slnil)) 4 rfl (.refl _)) (fun w1 V => zg rfl (fun w => by kernel_rfl)) λa A↦?_
 refine qn (by kernel_rfl) (jc (us := [.bool b, .slice a1 t.length ac1, .slice a2 q.length ac2, .bool false, .slice p7_3 0 p7_c3, .slice p7_4 1 p7_c4]) A V 4 rfl rfl rfl (zf rfl rfl rfl (by kernel_rfl) V 0 rfl rfl rfl) 0 rfl rfl rfl rfl ?_)
 intro w11 V
 refine ⟨(V.partD (cn (cc .slnil)) 4 rfl (.refl _)), ?_⟩
 refine zp (by kernel_rfl) ?_
 refine hK6 _ _ (wp_ret (hret _ _ (en1 A rfl (xx V EqN_isS_27 rfl 0 rfl (cs := [.bool b, .slice a1 t.length ac1, .slice a2 q.length ac2, .bool false, .slice p7_3 0 p7_c3, .slice p7_4 1 p7_c4]) rfl rfl) ?_)))
 exact ⟨a1, ac1, a2, ac2, p7_3, p7_c3, p7_4, p7_c4, rfl, ⟨⟨(V.rd 5 rfl), ha1.nil, ha1.cap⟩, ⟨(V.rd 4 rfl), ha2.nil, ha2.cap⟩, ⟨(V.rd 1 rfl), hn8.s3.nil, hn8.s3.cap⟩, ⟨(V.rd 0 rfl), hn8.s4.nil, hn8.s4.cap⟩⟩, V.bel⟩
theorem qud {w : World} {u x : Rat} (hu : xq u) (hx : xq x) {a1 a2 : Option Addr} {ac1 ac2 : Nat} (ha1 : Sc w a1 ac1 (words u.num.natAbs)) (ha2 : Sc w a2 ac2 (words u.den)) {e1 e2 : Option Addr} {ec1 ec2 : Nat} (he1 : Sc w e1 ec1 (words x.num.natAbs)) (he2 : Sc w e2 ec2 (words x.den)) : Calls Tryz.prog 92 #[.agg #[.bool ((rb u.num)), .slice a1 (words u.num.natAbs).length ac1, .slice a2 (words u.den).length ac2], .agg #[.bool ((rb x.num)), .slice e1 (words x.num.natAbs).length ec1, .slice e2 (words x.den).length ec2]] w fun e w' => e = .returned (.int .i64 (ye u x)) ∧ Below w.heap.size w w' := by
 have V : St w w [] [(e2, words x.den), (e1, words x.num.natAbs), (a2, words u.den), (a1, words u.num.natAbs)] [] := ((((St.start w).addR ha1.rd).addR ha2.rd).addR he1.rd).addR he2.rd
 refine qx (l := [(0, .agg #[.bool ((rb u.num)), .slice a1 ((words u.num.natAbs).length) ac1, .slice a2 ((words u.den).length) ac2]), (1, .agg #[.bool ((rb x.num)), .slice e1 ((words x.num.natAbs).length) ec1, .slice e2 ((words x.den).length) ec2])]) Tryz.func92 rfl Tryz.ntmps92 rfl rfl ?_
 intro Q hret hnorm hP a A
 refine wsk fun K1 hK1 => wrl (ja A V rfl rfl rfl pg (qt rfl rfl) rfl ?_)
 intro g2 w3 V a A
 refine ja A V rfl rfl rfl pg (qt rfl rfl) rfl ?_
 intro g4 w5 V a A
 refine sda A λa A↦?_
 refine qa (hK1 _ _ (wsk fun K6 hK6 => wsk fun K7 hK7 => wrl (sdo A (zu V EqN_isS_25 rfl 1 rfl (cs := [.bool ((rb u.num)), .slice a1 ((words u.num.natAbs).length) ac1, .slice a2 ((words u.den).length) ac2]) rfl rfl) λa A↦?_)))
 refine sdo A (zu V EqN_isS_25 rfl 0 rfl (cs := [.bool ((rb x.num)), .slice e1 ((words x.num.natAbs).length) ec1, .slice e2 ((words x.den).length) ec2]) rfl rfl) λa A↦?_
 rcases tf (xp (rb u.num) (words u.num.natAbs) (words u.den) (rb x.num) (words x.num.natAbs) (words x.den)) with hb8 | hb8
 ·
  refine sct A (ef rfl rfl) (qla ⟨(V.rd 3 rfl), ha1.nil, ha1.cap⟩ ⟨(V.rd 2 rfl), ha2.nil, ha2.cap⟩ ⟨(V.rd 1 rfl), he1.nil, he1.cap⟩ ⟨(V.rd 0 rfl), he2.nil, he2.cap⟩ (Nat.le_trans hu.1 (by decide)) (Nat.le_trans hu.2 (by decide)) (Nat.le_trans hx.1 (by decide)) (Nat.le_trans hx.2 (by decide)) hb8) ?_
  rintro _ w10 ⟨rfl, hb9⟩
  replace V := V.call hb9
  refine ⟨_, rfl, ?_⟩
  intro a A
  refine qa (hK7 _ _ (wp_cond_true (A.ev rfl) ?_))
  refine wsk fun K11 hK11 => wrl (sda A λa A↦?_)
  refine qa (hK11 _ _ (wp_ret (hret _ _ (en1 A rfl (qe rfl) ?_))))
  exact ⟨by rw [zpf hb8], V.bel⟩
 ·
  refine sct A (ef rfl rfl) (qla ⟨(V.rd 3 rfl), ha1.nil, ha1.cap⟩ ⟨(V.rd 2 rfl), ha2.nil, ha2.cap⟩ ⟨(V.rd 1 rfl), he1.nil, he1.cap⟩ ⟨(V.rd 0 rfl), he2.nil, he2.cap⟩ (Nat.le_trans hu.1 (by decide)) (Nat.le_trans hu.2 (by decide)) (Nat.le_trans hx.1 (by decide)) (Nat.le_trans hx.2 (by decide)) hb8) ?_
  rintro _ w13 ⟨rfl, hb12⟩
  replace V := V.call hb12
  refine ⟨_, rfl, ?_⟩
  intro a A
  refine qa (hK7 _ _ (wp_cond_false (A.ev rfl) ?_))
  refine wp_skip (hK6 _ _ (wsk fun K14 hK14 => jf (S := fun w1 => St w w1 [(g4, [.bool ((rb x.num)), .slice e1 ((words x.num.natAbs).length) ec1, .slice e2 ((words x.den).length) ec2]), (g2, [.bool ((rb u.num)), .slice a1 ((words u.num.natAbs).length) ac1, .slice a2 ((words u.den).length) ac2])] [(e2, words x.den), (e1, words x.num.natAbs), (a2, words u.den), (a1, words u.num.natAbs)] []) (by kernel_rfl) ?_))
  replace V := V.drew
  refine qf A 0 rfl rfl rfl rfl hP V (fun w1 V => zu V EqN_isS_25 rfl 1 rfl (cs := [.bool ((rb u.num)), .slice a1 ((words u.num.natAbs).length) ac1, .slice a2 ((words u.den).length) ac2]) rfl rfl) λa A↦?_
  refine qf A 2 rfl rfl rfl rfl hP V (fun w1 V => zu V EqN_isS_25 rfl 0 rfl (cs := [.bool ((rb x.num)), .slice e1 ((words x.num.natAbs).length) ec1, .slice e2 ((words x.den).length) ec2]) rfl rfl) λa A↦?_
  refine qn (by kernel_rfl) (zd A 1 rfl rfl rfl rfl (qj  rfl rfl (fun w => by kernel_rfl)) (quc ⟨(V.rd 3 rfl), ha1.nil, ha1.cap⟩ ⟨(V.rd 2 rfl), ha2.nil, ha2.cap⟩) ?_)
  rintro _ w18 ⟨p15_1, p15_c1, p15_2, p15_c2, p15_3, p15_c3, p15_4, p15_c4, rfl, hn16, hb17⟩
  replace V := V.call hb17
  replace V := V.addR hn16.s1.rd
  replace V := V.addR hn16.s2.rd
  replace V := V.addR hn16.s3.rd
  replace V := V.addR hn16.s4.rd
  refine ⟨_, rfl, (V.partD (.refl _) 4 rfl (.refl _)), ?_⟩
  intro a A
  refine qn (by kernel_rfl) (zd A 3 rfl rfl rfl rfl (qj  rfl rfl (fun w => by kernel_rfl)) (quc ⟨(V.rd 5 rfl), he1.nil, he1.cap⟩ ⟨(V.rd 4 rfl), he2.nil, he2.cap⟩) ?_)
  rintro _ w22 ⟨p19_1, p19_c1, p19_2, p19_c2, p19_3, p19_c3, p19_4, p19_c4, rfl, hn20, hb21⟩
  replace V := V.call hb21
  replace V := V.addR hn20.s1.rd
  replace V := V.addR hn20.s2.rd
  replace V := V.addR hn20.s3.rd
  replace V := V.addR hn20.s4.rd
  refine ⟨_, rfl, (V.partD (.refl _) 8 rfl (.refl _)), ?_⟩
  intro a A
  refine qn (by kernel_rfl) (zd A 4 rfl rfl rfl rfl (qj  rfl rfl (fun w => by kernel_rfl)) (((zvb hu hx) ▸ zva (show Nm _ ⟨rb u.num, words u.num.natAbs, words u.den, false, [], [1]⟩ p15_1 p15_c1 p15_2 p15_c2 p15_3 p15_c3 p15_4 p15_c4 from ⟨⟨(V.rd 7 rfl), hn16.s1.nil, hn16.s1.cap⟩, ⟨(V.rd 6 rfl), hn16.s2.nil, hn16.s2.cap⟩, ⟨(V.rd 5 rfl), hn16.s3.nil, hn16.s3.cap⟩, ⟨(V.rd 4 rfl), hn16.s4.nil, hn16.s4.cap⟩⟩) (zce hu) (show Nm _ ⟨rb x.num, words x.num.natAbs, words x.den, false, [], [1]⟩ p19_1 p19_c1 p19_2 p19_c2 p19_3 p19_c3 p19_4 p19_c4 from ⟨⟨(V.rd 3 rfl), hn20.s1.nil, hn20.s1.cap⟩, ⟨(V.rd 2 rfl), hn20.s2.nil, hn20.s2.cap⟩, ⟨(V.rd 1 rfl), hn20.s3.nil, hn20.s3.cap⟩, ⟨(V.rd 0 rfl), hn20.s4.nil, hn20.s4.cap⟩⟩) (zce hx))) ?_)
  rintro _ w24 ⟨rfl, hb23⟩
  replace V := V.call hb23
  refine ⟨_, rfl, (V.partD (.refl _) 8 rfl (.refl _)), ?_⟩
  intro a A
  refine qf A 5 rfl rfl rfl rfl hP (V.partD (.refl _) 8 rfl (.refl _)) (fun w1 V => ze rfl) λa A↦?_
  refine qf (v := .int .i64 (ye u x)) A 6 rfl rfl rfl rfl hP (V.partD (.refl _) 8 rfl (.refl _)) (fun w1 V => qz (vs := [.int .i64 (ye u x), .int .i64 0]) rfl rfl) λa A↦?_
  refine qf (v := .int .i64 0) A 7 rfl rfl rfl rfl hP (V.partD (.refl _) 8 rfl (.refl _)) (fun w1 V => qz (vs := [.int .i64 (ye u x), .int .i64 0]) rfl rfl) λa A↦?_
  refine qf A 8 rfl rfl rfl rfl hP (V.partD (.refl _) 8 rfl (.refl _)) (fun w1 V => je rfl) λa A↦?_
  refine qf A 9 rfl rfl rfl rfl hP (V.partD (.refl _) 8 rfl (.refl _)) (fun w1 V => je rfl) λa A↦?_
  refine zp (by kernel_rfl) ?_
  refine hK14 _ _ (wsk fun K25 hK25 => wrl (sdm A λa A↦?_))
  refine sda A λa A↦?_
  refine qa (hK25 _ _ (wp_ret (hret _ _ (en1 A rfl (qe rfl) ?_))))
  exact ⟨rfl, V.bel⟩
theorem zhe {w : World} {u v x y : Rat} {a1 a2 a3 a4 : Option Addr} {ac1 ac2 ac3 ac4 : Nat} (ha : Nm w (Q6.rat u v) a1 ac1 a2 ac2 a3 ac3 a4 ac4) {u1 u2 u3 u4 : Option Addr} {uc1 uc2 uc3 uc4 : Nat} (hb : Nm w (Q6.rat x y) u1 uc1 u2 uc2 u3 uc3 u4 uc4) (hu : xq u) (hv : xq v) (hx : xq x) (hy : xq y) : Calls Tryz.prog 75 #[qed (Q6.rat u v) a1 ac1 a2 ac2 a3 ac3 a4 ac4, qed (Q6.rat x y) u1 uc1 u2 uc2 u3 uc3 u4 uc4] w fun e w' => e = .returned (.int .i64 (if ye u x = 0 then ye v y else ye u x)) ∧ Below w.heap.size w w' := by
 have V : St w w [] [(u4, words y.den), (u3, words y.num.natAbs), (u2, words x.den), (u1, words x.num.natAbs), (a4, words v.den), (a3, words v.num.natAbs), (a2, words u.den), (a1, words u.num.natAbs)] [] := ((((((((St.start w).addR ha.s1.rd).addR ha.s2.rd).addR ha.s3.rd).addR ha.s4.rd).addR hb.s1.rd).addR hb.s2.rd).addR hb.s3.rd).addR hb.s4.rd
 refine qx (l := [(0, .agg #[.bool (rb u.num), .slice a1 ((words u.num.natAbs).length) ac1, .slice a2 ((words u.den).length) ac2, .bool (rb v.num), .slice a3 ((words v.num.natAbs).length) ac3, .slice a4 ((words v.den).length) ac4]), (1, .agg #[.bool (rb x.num), .slice u1 ((words x.num.natAbs).length) uc1, .slice u2 ((words x.den).length) uc2, .bool (rb y.num), .slice u3 ((words y.num.natAbs).length) uc3, .slice u4 ((words y.den).length) uc4])]) Tryz.func75 rfl Tryz.ntmps75 rfl rfl ?_
 intro Q hret hnorm hP a A
 refine wsk fun K1 hK1 => wrl (ja A V rfl rfl rfl pg (qt rfl rfl) rfl ?_)
 intro g2 w3 V a A
 refine ja A V rfl rfl rfl pg (qt rfl rfl) rfl ?_
 intro g4 w5 V a A
 refine sda A λa A↦?_
 refine qa (hK1 _ _ (wsk fun K6 hK6 => wsk fun K7 hK7 => wrl (sdo (v := .pointer (some ⟨g2, 0, none⟩)) A (qb EqN_fld_27_0 rfl rfl) λa A↦?_)))
 refine sdo A (zu V EqN_isS_25 rfl 1 rfl (cs := [.bool (rb u.num), .slice a1 ((words u.num.natAbs).length) ac1, .slice a2 ((words u.den).length) ac2]) rfl rfl) λa A↦?_
 refine sdo (v := .pointer (some ⟨g4, 0, none⟩)) A (qb EqN_fld_27_0 rfl rfl) λa A↦?_
 refine sdo A (zu V EqN_isS_25 rfl 0 rfl (cs := [.bool (rb x.num), .slice u1 ((words x.num.natAbs).length) uc1, .slice u2 ((words x.den).length) uc2]) rfl rfl) λa A↦?_
 refine sct A (ef rfl rfl) (qud hu hx ⟨(V.rd 7 rfl), ha.s1.nil, ha.s1.cap⟩ ⟨(V.rd 6 rfl), ha.s2.nil, ha.s2.cap⟩ ⟨(V.rd 3 rfl), hb.s1.nil, hb.s1.cap⟩ ⟨(V.rd 2 rfl), hb.s2.nil, hb.s2.cap⟩) ?_
 rintro _ w9 ⟨rfl, hb8⟩
 replace V := V.call hb8
 refine ⟨_, rfl, ?_⟩
 intro a A
 refine sda A λa A↦?_
 refine qa (hK7 _ _ (wsk fun K10 hK10 => wrl (sdm A λa A↦?_)))
 rcases tf ((ye u x != 0)) with hb11 | hb11
 ·
  have hb11' := bne_iff_ne.1 hb11
  refine sdc A zr hb11 λa A↦?_
  refine qa (hK10 _ _ (wp_cond_true (A.ev rfl) ?_))
  refine wsk fun K12 hK12 => wrl (sdm A λa A↦?_)
  refine sda A λa A↦?_
  refine qa (hK12 _ _ (wp_ret (hret _ _ (en1 A rfl (qe rfl) ?_))))
  exact ⟨by rw [if_neg hb11'], V.bel⟩
 ·
  have hb11' := bne_eq_false_iff_eq.1 hb11
  refine sdc A zr hb11 λa A↦?_
  refine qa (hK10 _ _ (wp_cond_false (A.ev rfl) ?_))
  refine wp_skip (hK6 _ _ (wsk fun K13 hK13 => wrl (sdo (v := .pointer (some ⟨g2, 3, none⟩)) A (qb EqN_fld_27_1 rfl rfl) λa A↦?_)))
  refine sdo A (zu V EqN_isS_25 rfl 1 rfl (cs := [.bool (rb v.num), .slice a3 ((words v.num.natAbs).length) ac3, .slice a4 ((words v.den).length) ac4]) rfl rfl) λa A↦?_
  refine sdo (v := .pointer (some ⟨g4, 3, none⟩)) A (qb EqN_fld_27_1 rfl rfl) λa A↦?_
  refine sdo A (zu V EqN_isS_25 rfl 0 rfl (cs := [.bool (rb y.num), .slice u3 ((words y.num.natAbs).length) uc3, .slice u4 ((words y.den).length) uc4]) rfl rfl) λa A↦?_
  refine sct A (ef rfl rfl) (qud hv hy ⟨(V.rd 5 rfl), ha.s3.nil, ha.s3.cap⟩ ⟨(V.rd 4 rfl), ha.s4.nil, ha.s4.cap⟩ ⟨(V.rd 1 rfl), hb.s3.nil, hb.s3.cap⟩ ⟨(V.rd 0 rfl), hb.s4.nil, hb.s4.cap⟩) ?_
  rintro _ w15 ⟨rfl, hb14⟩
  replace V := V.call hb14
  refine ⟨_, rfl, ?_⟩
  intro a A
  refine sda A λa A↦?_
  refine qa (hK13 _ _ (wp_ret (hret _ _ (en1 A rfl (qe rfl) ?_))))
  exact ⟨by rw [if_pos hb11'], V.bel⟩
end Go.Proofs.YtipikhcmieboaaaGreatDoor
namespace Go.Proofs.YtipikhcmieboaaaGreatDoor.G
open Go.RowKit
set_option linter.unusedVariables false
set_option linter.unusedSimpArgs false
set_option maxRecDepth 100000
theorem EqA_is1_23 : Is1 Tryz.prog 23 := ⟨⟨_, Tryz.underlying23, rfl⟩, by kernel_rfl⟩
theorem EqA_is1_4 : Is1 Tryz.prog 4 := ⟨⟨_, Tryz.underlying4, rfl⟩, by kernel_rfl⟩
theorem EqA_is1_5 : Is1 Tryz.prog 5 := ⟨⟨_, Tryz.underlying5, rfl⟩, by kernel_rfl⟩
theorem EqA_is1_87 : Is1 Tryz.prog 87 := ⟨⟨_, Tryz.underlying87, rfl⟩, by kernel_rfl⟩
theorem EqA_fld_25_0 : FieldAt Tryz.prog 25 0 0 := ⟨_, _, Tryz.underlying25, rfl, rfl, by kernel_rfl⟩
theorem EqA_fld_25_1 : FieldAt Tryz.prog 25 1 1 := ⟨_, _, Tryz.underlying25, rfl, rfl, by kernel_rfl⟩
theorem EqA_fld_25_2 : FieldAt Tryz.prog 25 2 2 := ⟨_, _, Tryz.underlying25, rfl, rfl, by kernel_rfl⟩
theorem zki {w : World} {n : Int} : Calls Tryz.prog 91 #[.int .i64 n] w fun e w' => e = .returned (.bool false) ∧ Below w.heap.size w w' := by
 have M : Mg w w ([]) := Mg.start w
 refine qx (l := [(0, .int .i64 n)]) Tryz.func91 rfl Tryz.ntmps91 rfl rfl ?_
 intro Q hret hnorm hP a A
 refine wsk fun K1 hK1 => wrl (sda A λa A↦?_)
 refine qa (hK1 _ _ (wsk fun K2 hK2 => wrl ?_))
 iterate 2 refine sdm A λa A↦?_
 refine sdo (v := .bool false) A (qh rfl rfl (fun w => (zr w).trans (by rw [show ((n != n)) = false from (bne_self_eq_false n)]))) λa A↦?_
 refine sda A λa A↦?_
 refine qa (hK2 _ _ (wp_ret (hret _ _ (en1 A rfl (qe rfl) ?_))))
 exact ⟨rfl, M.bel⟩
theorem qda {w : World} {m n : Int} : Calls Tryz.prog 74 #[.int .i64 m, .int .i64 n] w fun e w' => e = .returned (.int .i64 (yf m n)) ∧ Below w.heap.size w w' := by
 have M : Mg w w ([]) := Mg.start w
 refine qx (l := [(0, .int .i64 m), (1, .int .i64 n)]) Tryz.func74 rfl Tryz.ntmps74 rfl rfl ?_
 intro Q hret hnorm hP a A
 refine wsk fun K1 hK1 => wrl (sda A λa A↦?_)
 refine qa (hK1 _ _ (wsk fun K2 hK2 => wrl (sdm A λa A↦?_)))
 refine gcl A M (ef rfl rfl) (zki) fun w4 hb3 M a A => ?_
 refine sda A λa A↦?_
 refine qa (hK2 _ _ (wsk fun K5 hK5 => wrl (sdm A λa A↦?_)))
 refine gcl A M (ef rfl rfl) (zki) fun w7 hb6 M a A => ?_
 refine sda A λa A↦?_
 refine qa (hK5 _ _ (wsk fun K8 hK8 => wsk fun K9 hK9 => wrl (sdm A λa A↦?_)))
 refine qa (hK9 _ _ (wp_cond_false (A.ev rfl) ?_))
 refine wp_skip (hK8 _ _ (wsk fun K10 hK10 => wsk fun K11 hK11 => wrl (sdm A λa A↦?_)))
 refine qa (hK11 _ _ (wp_cond_false (A.ev rfl) ?_))
 refine wp_skip (hK10 _ _ (wsk fun K12 hK12 => wsk fun K13 hK13 => wrl ?_))
 iterate 2 refine sdm A λa A↦?_
 rcases tf (decide (m < n)) with hb14 | hb14
 ·
  have hb14' := of_decide_eq_true hb14
  refine sdc A zj hb14 λa A↦?_
  refine qa (hK13 _ _ (wp_cond_true (A.ev rfl) ?_))
  refine wsk fun K15 hK15 => wrl (sda A λa A↦?_)
  refine qa (hK15 _ _ (wp_ret (hret _ _ (en1 A rfl (qe rfl) ?_))))
  exact ⟨by rw [show yf m n = -1 from by unfold yf; (repeat' split) <;> omega], M.bel⟩
 ·
  have hb14' := of_decide_eq_false hb14
  refine sdc A zj hb14 λa A↦?_
  refine qa (hK13 _ _ (wp_cond_false (A.ev rfl) ?_))
  refine wp_skip (hK12 _ _ (wsk fun K16 hK16 => wsk fun K17 hK17 => wrl ?_))
  iterate 2 refine sdm A λa A↦?_
  rcases tf (decide (n < m)) with hb18 | hb18
  ·
   have hb18' := of_decide_eq_true hb18
   refine sdc A jq hb18 λa A↦?_
   refine qa (hK17 _ _ (wp_cond_true (A.ev rfl) ?_))
   refine wsk fun K19 hK19 => wrl (sda A λa A↦?_)
   refine qa (hK19 _ _ (wp_ret (hret _ _ (en1 A rfl (qe rfl) ?_))))
   exact ⟨by rw [show yf m n = 1 from by unfold yf; (repeat' split) <;> omega], M.bel⟩
  ·
   have hb18' := of_decide_eq_false hb18
   refine sdc A jq hb18 λa A↦?_
   refine qa (hK17 _ _ (wp_cond_false (A.ev rfl) ?_))
   refine wp_skip (hK16 _ _ (wsk fun K20 hK20 => wrl (sda A λa A↦?_)))
   refine qa (hK20 _ _ (wp_ret (hret _ _ (en1 A rfl (qe rfl) ?_))))
   exact ⟨by rw [show yf m n = 0 from by unfold yf; (repeat' split) <;> omega], M.bel⟩
theorem vn {w : World} {h n : Int} : Calls Tryz.prog 99 #[.int .u64 h, .int .u64 n] w fun e w' => e = .returned (.int .u64 (hw h n)) ∧ Below w.heap.size w w' := by
 have M : Mg w w ([]) := Mg.start w
 refine qx (l := [(0, .int .u64 h), (1, .int .u64 n)]) Tryz.func99 rfl Tryz.ntmps99 rfl rfl ?_
 intro Q hret hnorm hP a A
 refine wsk fun K1 hK1 => wrl (sda A λa A↦?_)
 refine qa (hK1 _ _ (wsk fun K2 hK2 => wrl ?_))
 iterate 2 refine sdm A λa A↦?_
 refine sdo (v := .int .u64 (bits .xor .u64 h n)) A (qh rfl rfl (ar_xor rfl)) λa A↦?_
 refine sdo (v := .int .u64 (IntKind.u64.wrap (bits .xor .u64 h n * 1099511628211))) A (qh rfl rfl (ar_mul rfl)) λa A↦?_
 refine sda A λa A↦?_
 refine qa (hK2 _ _ (wsk fun K3 hK3 => wrl ?_))
 iterate 2 refine sdm A λa A↦?_
 refine sdo (v := .int .u64 ((IntKind.u64.wrap (bits .xor .u64 h n * 1099511628211)) / 2 ^ 32)) A (qh rfl rfl (ar_shr (n := 32) rfl rfl rfl)) λa A↦?_
 refine sdo (v := .int .u64 (bits .xor .u64 (IntKind.u64.wrap (bits .xor .u64 h n * 1099511628211)) ((IntKind.u64.wrap (bits .xor .u64 h n * 1099511628211)) / 2 ^ 32))) A (qh rfl rfl (ar_xor rfl)) λa A↦?_
 refine sda A λa A↦?_
 refine qa (hK3 _ _ (wp_ret (hret _ _ (en1 A rfl (qe rfl) ?_))))
 exact ⟨rfl, M.bel⟩
theorem zzd {w : World} {so : Option Addr} {l : List Nat} {i : Nat} (h : Rd w so l) (hi : i < l.length) : ∃ b off, so = some ⟨b, off, none⟩ ∧ b < w.heap.size ∧ ∀ j, j < l.length → w.cell? ⟨b, off + j, none⟩ = some (.int .u32 ((l.getD j 0 : Nat) : Int)) :=
 h.pos (fun k => by rw [k] at hi; exact absurd hi (Nat.not_lt_zero _))
theorem qmc {w : World} {h : Int} {so : Option Addr} {ca : Nat} {l : List UInt8} (hb : Rb w so l) (hl : l.length ≤ 9223372036854775807) : Calls Tryz.prog 101 #[.int .u64 h, .slice so l.length ca] w fun e w' => e = .returned (.int .u64 (hwS h l)) ∧ Below w.heap.size w w' := by
 have M : Mg w w ([]) := Mg.start w
 refine qx (l := [(0, .int .u64 h), (1, .slice so l.length ca)]) Tryz.func101 rfl Tryz.ntmps101 rfl rfl ?_
 intro Q hret hnorm hP a A
 refine wsk fun K1 hK1 => wrl (sda A λa A↦?_)
 refine qa (hK1 _ _ (wsk fun K2 hK2 => wrl ?_))
 iterate 2 refine sdm A λa A↦?_
 refine sdo A (zb Tryz.underlying28 rfl) λa A↦?_
 refine sdo (v := .int .u64 (((l.length : Nat) : Int))) A (jg rfl (ar_conv Tryz.underlying3 Tryz.underlying70 (in_u64 (by omega) (by omega)))) λa A↦?_
 refine gcl A M (ef rfl rfl) (vn) fun w4 hb3 M a A => ?_
 refine sda A λa A↦?_
 refine qa (hK2 _ _ (wsk fun K5 hK5 => wsk fun K6 hK6 => wrl (sdm A λa A↦?_)))
 refine sdo A (zb Tryz.underlying28 rfl) λa A↦?_
 refine sdm A λa A↦?_
 refine qa (hK6 _ _ (wp_block (jd (fun m_ a w1 => ∃ (i : Nat) (m : Int), m_ = 1 + (l.length - i) ∧ (i ≤ l.length ∧ hwS h l = hwB m (l.drop i)) ∧ Sl a 24 [(0, .int .u64 m), (1, .slice so l.length ca), (4, .int .u64 0), (7, .int .u64 h), (8, .slice so l.length ca), (9, .int .i64 (((l.length : Nat) : Int))), (10, .int .u64 (((l.length : Nat) : Int))), (11, .int .u64 (hw h (((l.length : Nat) : Int)))), (12, .slice so l.length ca), (13, .int .i64 (((l.length : Nat) : Int))), (14, .int .i64 (((i : Nat) : Int)))] ∧ Mg w w1 ([])) _ ⟨0, hw h ((l.length : Nat) : Int), rfl, ⟨Nat.zero_le _, rfl⟩, A.keep _ (by repeat' constructor), M⟩ ?_)))
 clear M A
 rintro m_ a w7 ⟨i, m, rfl, hinv9, A, M⟩ K8 hK8
 obtain ⟨hi0, hin9⟩ := hinv9
 refine wsk fun K10 hK10 => wrl ?_
 rcases tf (decide (((i : Nat) : Int) < ((l.length : Nat) : Int))) with hb11 | hb11
 ·
  have hb11' := of_decide_eq_true hb11
  refine sdc A zj hb11 λa A↦?_
  refine qa (hK10 _ _ (wsk fun K12 hK12 => wp_cond_true (A.ev rfl) ?_))
  refine wp_skip (hK12 _ _ (wsk fun K13 hK13 => wp_block (wsk fun K14 hK14 => wrl ?_)))
  obtain ⟨bx, ox, hx1, hx2, hx3⟩ := qhi (i := i) hb (by omega)
  have hX8 : (l.getD i 0).toNat < 256 := UInt8.toNat_lt _
  refine sdo (v := .pointer (some ⟨bx, ox + i, none⟩)) A (jn (k := i) Tryz.underlying28 (by kernel_rfl) rfl rfl rfl hx1 (by omega)) λa A↦?_
  refine sdo A (qde M hx2 (hx3 i (by omega)) EqA_is1_5 rfl) λa A↦?_
  refine sda A λa A↦?_
  refine qa (hK14 _ _ (wrl ?_))
  iterate 2 refine sdm A λa A↦?_
  refine sdo (v := .int .u64 ((((l.getD i 0).toNat : Nat) : Int))) A (jg rfl (ar_conv Tryz.underlying5 Tryz.underlying70 (in_u64 (by omega) (by omega)))) λa A↦?_
  refine gcl A M (ef rfl rfl) (vn) fun w16 hb15 M a A => ?_
  refine sda A λa A↦?_
  refine qa (hK13 _ _ (wrl (sdo (v := .int .i64 (((i + 1 : Nat) : Int))) A (qh rfl rfl (fun w => (ji (xb (by omega) (by omega)) w).trans (by rw [show (((i : Nat) : Int) + 1 : Int) = ((i + 1 : Nat) : Int) from by omega]))) λa A↦?_)))
  refine sdm A λa A↦?_
  refine qa ?_
  refine hK8 _ _ _ (by omega) ⟨i + 1, hw m ((((l.getD i 0).toNat : Nat) : Int)), rfl, ⟨by omega, by rw [hin9, jbc (by omega)]⟩, A.keep _ (by repeat' constructor), M⟩
 ·
  have hb11' := of_decide_eq_false hb11
  refine sdc A zj hb11 λa A↦?_
  refine qa (hK10 _ _ (wsk fun K17 hK17 => wp_cond_false (A.ev rfl) ?_))
  refine wp_exit (hK5 _ _ (wsk fun K18 hK18 => wrl (sdm A λa A↦?_)))
  refine sda A λa A↦?_
  refine qa (hK18 _ _ (wp_ret (hret _ _ (en1 A rfl (qe rfl) ?_))))
  exact ⟨by rw [show hwS h l = m from by rw [hin9, zxd (by omega)]], M.bel⟩
theorem qmd {w : World} {h : Int} {so : Option Addr} {ca : Nat} {l : List Nat} (hb : Rd w so l) (hl : l.length ≤ 9223372036854775807) : Calls Tryz.prog 115 #[.int .u64 h, .slice so l.length ca] w fun e w' => e = .returned (.int .u64 (hwN h l)) ∧ Below w.heap.size w w' := by
 have M : Mg w w ([]) := Mg.start w
 refine qx (l := [(0, .int .u64 h), (1, .slice so l.length ca)]) Tryz.func115 rfl Tryz.ntmps115 rfl rfl ?_
 intro Q hret hnorm hP a A
 refine wsk fun K1 hK1 => wrl (sda A λa A↦?_)
 refine qa (hK1 _ _ (wsk fun K2 hK2 => wrl ?_))
 iterate 2 refine sdm A λa A↦?_
 refine sdo A (zb Tryz.underlying23 rfl) λa A↦?_
 refine sdo (v := .int .u64 (((l.length : Nat) : Int))) A (jg rfl (ar_conv Tryz.underlying3 Tryz.underlying70 (in_u64 (by omega) (by omega)))) λa A↦?_
 refine gcl A M (ef rfl rfl) (vn) fun w4 hb3 M a A => ?_
 refine sda A λa A↦?_
 refine qa (hK2 _ _ (wsk fun K5 hK5 => wsk fun K6 hK6 => wrl (sdm A λa A↦?_)))
 refine sdo A (zb Tryz.underlying23 rfl) λa A↦?_
 refine sdm A λa A↦?_
 refine qa (hK6 _ _ (wp_block (jd (fun m_ a w1 => ∃ (i : Nat) (m : Int), m_ = 1 + (l.length - i) ∧ (i ≤ l.length ∧ hwN h l = hwL m (l.drop i)) ∧ Sl a 24 [(0, .int .u64 m), (1, .slice so l.length ca), (4, .int .u64 0), (7, .int .u64 h), (8, .slice so l.length ca), (9, .int .i64 (((l.length : Nat) : Int))), (10, .int .u64 (((l.length : Nat) : Int))), (11, .int .u64 (hw h (((l.length : Nat) : Int)))), (12, .slice so l.length ca), (13, .int .i64 (((l.length : Nat) : Int))), (14, .int .i64 (((i : Nat) : Int)))] ∧ Mg w w1 ([])) _ ⟨0, hw h ((l.length : Nat) : Int), rfl, ⟨Nat.zero_le _, rfl⟩, A.keep _ (by repeat' constructor), M⟩ ?_)))
 clear M A
 rintro m_ a w7 ⟨i, m, rfl, hinv9, A, M⟩ K8 hK8
 obtain ⟨hi0, hin9⟩ := hinv9
 refine wsk fun K10 hK10 => wrl ?_
 rcases tf (decide (((i : Nat) : Int) < ((l.length : Nat) : Int))) with hb11 | hb11
 ·
  have hb11' := of_decide_eq_true hb11
  refine sdc A zj hb11 λa A↦?_
  refine qa (hK10 _ _ (wsk fun K12 hK12 => wp_cond_true (A.ev rfl) ?_))
  refine wp_skip (hK12 _ _ (wsk fun K13 hK13 => wp_block (wsk fun K14 hK14 => wrl ?_)))
  obtain ⟨bx, ox, hx1, hx2, hx3⟩ := zzd (i := i) hb (by omega)
  have hX8 : l.getD i 0 < 4294967296 := Dig.getD hb.dig i
  refine sdo (v := .pointer (some ⟨bx, ox + i, none⟩)) A (jn (k := i) Tryz.underlying23 (by kernel_rfl) rfl rfl rfl hx1 (by omega)) λa A↦?_
  refine sdo A (qde M hx2 (hx3 i (by omega)) EqA_is1_87 rfl) λa A↦?_
  refine sda A λa A↦?_
  refine qa (hK14 _ _ (wrl ?_))
  iterate 2 refine sdm A λa A↦?_
  refine sdo (v := .int .u64 (((l.getD i 0 : Nat) : Int))) A (jg rfl (ar_conv Tryz.underlying87 Tryz.underlying70 (in_u64 (by omega) (by omega)))) λa A↦?_
  refine gcl A M (ef rfl rfl) (vn) fun w16 hb15 M a A => ?_
  refine sda A λa A↦?_
  refine qa (hK13 _ _ (wrl (sdo (v := .int .i64 (((i + 1 : Nat) : Int))) A (qh rfl rfl (fun w => (ji (xb (by omega) (by omega)) w).trans (by rw [show (((i : Nat) : Int) + 1 : Int) = ((i + 1 : Nat) : Int) from by omega]))) λa A↦?_)))
  refine sdm A λa A↦?_
  refine qa ?_
  refine hK8 _ _ _ (by omega) ⟨i + 1, hw m (((l.getD i 0 : Nat) : Int)), rfl, ⟨by omega, by rw [hin9, jbb (by omega)]⟩, A.keep _ (by repeat' constructor), M⟩
 ·
  have hb11' := of_decide_eq_false hb11
  refine sdc A zj hb11 λa A↦?_
  refine qa (hK10 _ _ (wsk fun K17 hK17 => wp_cond_false (A.ev rfl) ?_))
  refine wp_exit (hK5 _ _ (wsk fun K18 hK18 => wrl (sdm A λa A↦?_)))
  refine sda A λa A↦?_
  refine qa (hK18 _ _ (wp_ret (hret _ _ (en1 A rfl (qe rfl) ?_))))
  exact ⟨by rw [show hwN h l = m from by rw [hin9, zxc (by omega)]], M.bel⟩
theorem zkj {w : World} {h : Int} {b : Bool} {o1 o2 : Option Addr} {c1 c2 : Nat} {t q : List Nat} (h1 : Rd w o1 t) (h2 : Rd w o2 q) (l1 : t.length ≤ 9223372036854775807) (l2 : q.length ≤ 9223372036854775807) : Calls Tryz.prog 100 #[.int .u64 h, .agg #[.bool b, .slice o1 t.length c1, .slice o2 q.length c2]] w fun e w' => e = .returned (.int .u64 (hwF h b t q)) ∧ Below w.heap.size w w' := by
 have M : Mg w w ([]) := Mg.start w
 refine qx (l := [(0, .int .u64 h), (1, .agg #[.bool b, .slice o1 t.length c1, .slice o2 q.length c2])]) Tryz.func100 rfl Tryz.ntmps100 rfl rfl ?_
 intro Q hret hnorm hP a A
 refine wsk fun K1 hK1 => wrl (zv (vs := [.bool b, .slice o1 t.length c1, .slice o2 q.length c2]) (t := 25) A M rfl rfl rfl pg (qt rfl rfl) (by decide) ?_)
 intro g2 w3 M a A
 refine sda A λa A↦?_
 refine qa (hK1 _ _ (wsk fun K4 hK4 => wrl (sda A λa A↦?_)))
 refine qa (hK4 _ _ (wsk fun K5 hK5 => wsk fun K6 hK6 => wrl (sdo (v := .pointer (some ⟨g2, 0, none⟩)) A (qb EqA_fld_25_0 rfl rfl) λa A↦?_)))
 refine sdo A (ql M EqA_is1_4 rfl 0 rfl rfl) λa A↦?_
 refine qa (hK6 _ _ ?_)
 refine wp_cond_split (t := b) (A.ev rfl) (fun hc7 => ?_) (fun hc7 => ?_)
 ·
  refine wrl (sda A λa A↦?_)
  refine qa (hK5 _ _ (wsk fun K8 hK8 => jf (S := fun w1 => Mg w w1 (.obj g2 (.cells #[.bool b, .slice o1 t.length c1, .slice o2 q.length c2] 25) :: [])) (by kernel_rfl) ?_))
  replace M := M.drew
  refine qf A 0 rfl rfl rfl rfl hP (M.sub (cc (List.nil_sublist _))) (fun w1 M => ze rfl) λa A↦?_
  refine qf A 1 rfl rfl rfl rfl hP (M.sub (cc (List.nil_sublist _))) (fun w1 M => ze rfl) λa A↦?_
  refine qf (v := .pointer (some ⟨g2, 1, none⟩)) A 3 rfl rfl rfl rfl hP (M.sub (cc (List.nil_sublist _))) (fun w1 M => qb EqA_fld_25_1 rfl rfl) λa A↦?_
  refine qf A 4 rfl rfl rfl rfl hP (M.sub (cc (List.nil_sublist _))) (fun w1 M => ql M EqA_is1_23 rfl 0 rfl rfl) λa A↦?_
  refine qf (v := .pointer (some ⟨g2, 2, none⟩)) A 6 rfl rfl rfl rfl hP (M.sub (cc (List.nil_sublist _))) (fun w1 M => qb EqA_fld_25_2 rfl rfl) λa A↦?_
  refine qf A 7 rfl rfl rfl rfl hP (M.sub (cc (List.nil_sublist _))) (fun w1 M => ql M EqA_is1_23 rfl 0 rfl rfl) λa A↦?_
  refine qn (by kernel_rfl) (zd A 2 rfl rfl rfl rfl (qj rfl rfl (fun w => by kernel_rfl)) (vn) ?_)
  rintro _ w10 ⟨rfl, hb9⟩
  replace M := M.call hb9
  refine ⟨_, rfl, (M.sub (cc (List.nil_sublist _))), ?_⟩
  intro a A
  refine qn (by kernel_rfl) (zd A 5 rfl rfl rfl rfl (qj rfl rfl (fun w => by kernel_rfl)) (qmd (h1.below M.bel) l1) ?_)
  rintro _ w11 ⟨rfl, hbl1⟩
  replace M := M.call hbl1
  refine ⟨_, rfl, (M.sub (cc (List.nil_sublist _))), ?_⟩
  intro a A
  refine qn (by kernel_rfl) (zd A 8 rfl rfl rfl rfl (qj rfl rfl (fun w => by kernel_rfl)) (qmd (h2.below M.bel) l2) ?_)
  rintro _ w12 ⟨rfl, hbl2⟩
  replace M := M.call hbl2
  refine ⟨_, rfl, (M.sub (cc (List.nil_sublist _))), ?_⟩
  intro a A
  refine qf A 9 rfl rfl rfl rfl hP (M.sub (cc (List.nil_sublist _))) (fun w1 M => je rfl) λa A↦?_
  refine zp (by kernel_rfl) ?_
  refine hK8 _ _ (wp_ret (hret _ _ (en1 A rfl (qe rfl) ?_)))
  exact ⟨by rw [show hwF h b t q = hwN (hwN (hw h 1) t) q from by unfold hwF; rw [hc7]; rfl], M.bel⟩
 ·
  refine wp_skip (hK5 _ _ (wsk fun K13 hK13 => jf (S := fun w1 => Mg w w1 (.obj g2 (.cells #[.bool b, .slice o1 t.length c1, .slice o2 q.length c2] 25) :: [])) (by kernel_rfl) ?_))
  replace M := M.drew
  refine qf A 0 rfl rfl rfl rfl hP (M.sub (cc (List.nil_sublist _))) (fun w1 M => ze rfl) λa A↦?_
  refine qf A 1 rfl rfl rfl rfl hP (M.sub (cc (List.nil_sublist _))) (fun w1 M => ze rfl) λa A↦?_
  refine qf (v := .pointer (some ⟨g2, 1, none⟩)) A 3 rfl rfl rfl rfl hP (M.sub (cc (List.nil_sublist _))) (fun w1 M => qb EqA_fld_25_1 rfl rfl) λa A↦?_
  refine qf A 4 rfl rfl rfl rfl hP (M.sub (cc (List.nil_sublist _))) (fun w1 M => ql M EqA_is1_23 rfl 0 rfl rfl) λa A↦?_
  refine qf (v := .pointer (some ⟨g2, 2, none⟩)) A 6 rfl rfl rfl rfl hP (M.sub (cc (List.nil_sublist _))) (fun w1 M => qb EqA_fld_25_2 rfl rfl) λa A↦?_
  refine qf A 7 rfl rfl rfl rfl hP (M.sub (cc (List.nil_sublist _))) (fun w1 M => ql M EqA_is1_23 rfl 0 rfl rfl) λa A↦?_
  refine qn (by kernel_rfl) (zd A 2 rfl rfl rfl rfl (qj rfl rfl (fun w => by kernel_rfl)) (vn) ?_)
  rintro _ w15 ⟨rfl, hb14⟩
  replace M := M.call hb14
  refine ⟨_, rfl, (M.sub (cc (List.nil_sublist _))), ?_⟩
  intro a A
  refine qn (by kernel_rfl) (zd A 5 rfl rfl rfl rfl (qj rfl rfl (fun w => by kernel_rfl)) (qmd (h1.below M.bel) l1) ?_)
  rintro _ w16 ⟨rfl, hbl1⟩
  replace M := M.call hbl1
  refine ⟨_, rfl, (M.sub (cc (List.nil_sublist _))), ?_⟩
  intro a A
  refine qn (by kernel_rfl) (zd A 8 rfl rfl rfl rfl (qj rfl rfl (fun w => by kernel_rfl)) (qmd (h2.below M.bel) l2) ?_)
  rintro _ w17 ⟨rfl, hbl2⟩
  replace M := M.call hbl2
  refine ⟨_, rfl, (M.sub (cc (List.nil_sublist _))), ?_⟩
  intro a A
  refine qf A 9 rfl rfl rfl rfl hP (M.sub (cc (List.nil_sublist _))) (fun w1 M => je rfl) λa A↦?_
  refine zp (by kernel_rfl) ?_
  refine hK13 _ _ (wp_ret (hret _ _ (en1 A rfl (qe rfl) ?_)))
  exact ⟨by rw [show hwF h b t q = hwN (hwN (hw h 0) t) q from by unfold hwF; rw [hc7]; rfl], M.bel⟩
theorem zvd {w : World} {y z : Nu} (hy : y.nm w) (hz : z.nm w) (h1 : zei y.q) (h2 : zei z.q) : Calls Tryz.prog 75 #[y.val, z.val] w fun e w' => e = .returned (.int .i64 (zre y.q z.q)) ∧ Below w.heap.size w w' := by
 obtain ⟨q, o1, c1, o2, c2, o3, c3, o4, c4⟩ := y
 obtain ⟨q', p1, d1, p2, d2, p3, d3, p4, d4⟩ := z
 obtain ⟨u, v, rfl, hu, hv⟩ := h1
 obtain ⟨x, y, rfl, hx, hy'⟩ := h2
 refine (zhe hy hz hu hv hx hy').mono fun e w' ⟨h, b⟩ => ⟨h.trans ?_, b⟩
 unfold zre lex
 rw [uh, uh, qlg, qlg]
theorem EqB_is1_22 : Is1 Tryz.prog 22 := ⟨⟨_, Tryz.underlying22, rfl⟩, by kernel_rfl⟩
theorem EqB_is1_28 : Is1 Tryz.prog 28 := ⟨⟨_, Tryz.underlying28, rfl⟩, by kernel_rfl⟩
theorem EqB_is1_3 : Is1 Tryz.prog 3 := ⟨⟨_, Tryz.underlying3, rfl⟩, by kernel_rfl⟩
theorem EqB_is1_9 : Is1 Tryz.prog 9 := ⟨⟨_, Tryz.underlying9, rfl⟩, by kernel_rfl⟩
theorem EqB_fld_30_0 : FieldAt Tryz.prog 30 0 0 := ⟨_, _, Tryz.underlying30, rfl, rfl, by kernel_rfl⟩
theorem EqB_fld_30_1 : FieldAt Tryz.prog 30 1 1 := ⟨_, _, Tryz.underlying30, rfl, rfl, by kernel_rfl⟩
theorem EqB_fld_30_2 : FieldAt Tryz.prog 30 2 2 := ⟨_, _, Tryz.underlying30, rfl, rfl, by kernel_rfl⟩
theorem EqB_fld_30_3 : FieldAt Tryz.prog 30 3 8 := ⟨_, _, Tryz.underlying30, rfl, rfl, by kernel_rfl⟩
theorem EqB_fld_30_4 : FieldAt Tryz.prog 30 4 9 := ⟨_, _, Tryz.underlying30, rfl, rfl, by kernel_rfl⟩
theorem EqB_fld_30_5 : FieldAt Tryz.prog 30 5 10 := ⟨_, _, Tryz.underlying30, rfl, rfl, by kernel_rfl⟩
theorem EqB_isS_27 : IsS Tryz.prog 27 6 := ⟨⟨_, Tryz.underlying27⟩, by kernel_rfl⟩
theorem EqB_isS_30 : IsS Tryz.prog 30 11 := ⟨⟨_, Tryz.underlying30⟩, by kernel_rfl⟩
def Orders (n : Nat) : Prop := ∀ {w : World} {t u : Dt}, t.tr.bulk < n → t.rd w → u.rd w → t.tr.good → u.tr.good → Calls Tryz.prog 57 #[.agg (t.d.cells t.ts.length).toArray, .agg (u.d.cells u.ts.length).toArray] w fun e w' => e = .returned (.int .i64 (kl t.tr u.tr)) ∧ Below w.heap.size w w'
theorem zve {n : Nat} (ih : Orders n) {w : World} {t u : Dt} (ht : t.rd w) (hu : u.rd w) (gt : t.tr.good) (gu : u.tr.good) (hb : t.tr.bulk ≤ n) (hlen : t.ts.length = u.ts.length) : Calls Tryz.prog 95 #[.slice t.d.lo t.ts.length t.d.lc, .slice u.d.lo u.ts.length u.d.lc, .func (.func 57) #[] #[]] w fun e w' => e = .returned (.int .i64 (yx (t.ts.map Dt.tr) (u.ts.map Dt.tr))) ∧ Below w.heap.size w w' := by
 have hlt := (Dt.okT ht).2
 have M : Mg w w ([]) := Mg.start w
 refine qx (l := [(0, .slice t.d.lo t.ts.length t.d.lc), (1, .slice u.d.lo u.ts.length u.d.lc), (2, .func (.func 57) #[] #[])]) Tryz.func95 rfl Tryz.ntmps95 rfl rfl ?_
 intro Q hret hnorm hP a A
 refine wsk fun K1 hK1 => wrl (sda A λa A↦?_)
 refine qa (hK1 _ _ (wsk fun K2 hK2 => wsk fun K3 hK3 => wrl (sdm A λa A↦?_)))
 refine sdo A (zb Tryz.underlying22 rfl) λa A↦?_
 refine sdm A λa A↦?_
 refine qa (hK3 _ _ (wp_block (jd (fun m_ a w1 => ∃ (i : Nat), m_ = 1 + (t.ts.length - i) ∧ (i ≤ t.ts.length ∧ yx (t.ts.map Dt.tr) (u.ts.map Dt.tr) = yx ((t.ts.map Dt.tr).drop i) ((u.ts.map Dt.tr).drop i)) ∧ Sl a 39 [(0, .slice t.d.lo t.ts.length t.d.lc), (1, .slice u.d.lo u.ts.length u.d.lc), (2, .func (.func 57) #[] #[]), (11, .slice t.d.lo t.ts.length t.d.lc), (12, .int .i64 (((t.ts.length : Nat) : Int))), (13, .int .i64 (((i : Nat) : Int)))] ∧ Mg w w1 ([])) _ ⟨0, rfl, ⟨Nat.zero_le _, rfl⟩, A.keep _ (by repeat' constructor), M⟩ ?_)))
 clear M A
 rintro m_ a w4 ⟨i, rfl, hinv6, A, M⟩ K5 hK5
 obtain ⟨hi0, hin9⟩ := hinv6
 refine wsk fun K7 hK7 => wrl ?_
 rcases tf (decide (((i : Nat) : Int) < ((t.ts.length : Nat) : Int))) with hb8 | hb8
 ·
  have hb8' := of_decide_eq_true hb8
  refine sdc A zj hb8 λa A↦?_
  refine qa (hK7 _ _ (wsk fun K9 hK9 => wp_cond_true (A.ev rfl) ?_))
  refine wp_skip (hK9 _ _ (wsk fun K10 hK10 => wp_block (wsk fun K11 hK11 => ?_)))
  obtain ⟨t1, bt1, ot1, it1, mt1, rt1_, lt1, Ht1⟩ := uy ht (i := i) (by omega)
  obtain ⟨u1, bu1, ou1, iu1, mu1, ru1_, lu1, Hu1⟩ := uy hu (i := i) (by omega)
  refine wrl (sdm A λa A↦?_)
  refine sdo (v := .pointer (some ⟨bt1, ot1 + i * 11, none⟩)) A (zi (k := i) Tryz.underlying22 (by kernel_rfl) rfl rfl rfl lt1 (by omega)) λa A↦?_
  refine sdo A (zx M Ht1 EqB_isS_30 rfl rfl) λa A↦?_
  refine zv (vs := [.int .i64 0, .int .i64 0, .bool false, .slice none 0 0, .slice none 0 0, .bool false, .slice none 0 0, .slice none 0 0, .string (⟨#[]⟩), .slice none 0 0, .slice none 0 0]) (t := 30) A M rfl rfl rfl pg (qp (z := .agg #[.int .i64 0, .int .i64 0, .bool false, .slice none 0 0, .slice none 0 0, .bool false, .slice none 0 0, .slice none 0 0, .string (⟨#[]⟩), .slice none 0 0, .slice none 0 0]) (by kernel_rfl) rfl) (by decide) ?_
  intro g12 w13 M a A
  refine sda A λa A↦?_
  refine zl (us := (t1.d.cells t1.ts.length)) (L' := (.obj g12 (.cells (t1.d.cells t1.ts.length).toArray 30) :: [])) A M rfl rfl (qy rfl rfl rfl (by kernel_rfl) M 0 rfl rfl rfl) 0 rfl rfl rfl ?_
  intro w14 M
  refine qa (hK11 _ _ (wsk fun K15 hK15 => wsk fun K16 hK16 => wrl ?_))
  iterate 2 refine sdm A λa A↦?_
  refine sdo A (zb Tryz.underlying22 rfl) λa A↦?_
  refine sdo (v := .bool false) A (qh rfl rfl (fun w => (xl w).trans (by rw [show (decide (((u.ts.length : Nat) : Int) ≤ ((i : Nat) : Int))) = false from (decide_eq_false (by omega))]))) λa A↦?_
  refine qa (hK16 _ _ (wp_cond_false (A.ev rfl) ?_))
  refine wp_skip (hK15 _ _ (wsk fun K17 hK17 => wrl ?_))
  iterate 2 refine sdm A λa A↦?_
  refine sdo (v := .pointer (some ⟨bu1, ou1 + i * 11, none⟩)) A (zi (k := i) Tryz.underlying22 (by kernel_rfl) rfl rfl rfl lu1 (by omega)) λa A↦?_
  refine sdo A (zx M Hu1 EqB_isS_30 rfl rfl) λa A↦?_
  refine zv (vs := [.int .i64 0, .int .i64 0, .bool false, .slice none 0 0, .slice none 0 0, .bool false, .slice none 0 0, .slice none 0 0, .string (⟨#[]⟩), .slice none 0 0, .slice none 0 0]) (t := 30) A M rfl rfl rfl pg (qp (z := .agg #[.int .i64 0, .int .i64 0, .bool false, .slice none 0 0, .slice none 0 0, .bool false, .slice none 0 0, .slice none 0 0, .string (⟨#[]⟩), .slice none 0 0, .slice none 0 0]) (by kernel_rfl) rfl) (by decide) ?_
  intro g18 w19 M a A
  refine zl (us := (u1.d.cells u1.ts.length)) (L' := (.obj g18 (.cells (u1.d.cells u1.ts.length).toArray 30) :: .obj g12 (.cells (t1.d.cells t1.ts.length).toArray 30) :: [])) A M rfl rfl (qy rfl rfl rfl (by kernel_rfl) M 0 rfl rfl rfl) 0 rfl rfl rfl ?_
  intro w20 M
  refine qa (hK17 _ _ (wsk fun K21 hK21 => wrl (sdm A λa A↦?_)))
  refine sdo A (za M EqB_isS_30 rfl 1 rfl (cs := (t1.d.cells t1.ts.length)) rfl rfl) λa A↦?_
  refine sdo A (za M EqB_isS_30 rfl 0 rfl (cs := (u1.d.cells u1.ts.length)) rfl rfl) λa A↦?_
  refine gcl A M (ef rfl rfl) (ih (by have := ui mt1; omega) (Dt.keep M.bel _ rt1_) (Dt.keep M.bel _ ru1_) ((jz gt).2.2 _ mt1) ((jz gu).2.2 _ mu1)) fun w23 hb22 M a A => ?_
  refine sda A λa A↦?_
  refine qa (hK21 _ _ (wsk fun K24 hK24 => wrl (sdm A λa A↦?_)))
  rcases tf ((kl t1.tr u1.tr != 0)) with hb25 | hb25
  ·
   have hb25' := bne_iff_ne.1 hb25
   refine sdc A zr hb25 λa A↦?_
   refine qa (hK24 _ _ (wp_cond_true (A.ev rfl) ?_))
   refine wsk fun K26 hK26 => wrl (sdm A λa A↦?_)
   refine sda A λa A↦?_
   refine qa (hK26 _ _ (wp_ret (hret _ _ (en1 A rfl (qe rfl) ?_))))
   exact ⟨by rw [hin9, zjf it1 iu1, zrh hb25'], M.bel⟩
  ·
   have hb25' := bne_eq_false_iff_eq.1 hb25
   refine sdc A zr hb25 λa A↦?_
   refine qa (hK24 _ _ (wp_cond_false (A.ev rfl) ?_))
   refine wp_skip (hK10 _ _ (wrl (sdo (v := .int .i64 (((i + 1 : Nat) : Int))) A (qh rfl rfl (fun w => (ji (xb (by omega) (by omega)) w).trans (by rw [show (((i : Nat) : Int) + 1 : Int) = ((i + 1 : Nat) : Int) from by omega]))) λa A↦?_)))
   refine sdm A λa A↦?_
   refine qa ?_
   replace M : Mg w w23 ([]) := by
    have h9 := M.sub (cn (cn (.refl _)))
    exact h9
   refine hK5 _ _ _ (by omega) ⟨i + 1, rfl, ⟨by omega, by rw [hin9, zjf it1 iu1, hb25', zrg]⟩, A.keep _ (by repeat' constructor), M⟩
 ·
  have hb8' := of_decide_eq_false hb8
  refine sdc A zj hb8 λa A↦?_
  refine qa (hK7 _ _ (wsk fun K27 hK27 => wp_cond_false (A.ev rfl) ?_))
  refine wp_exit (hK2 _ _ (wsk fun K28 hK28 => wsk fun K29 hK29 => wrl (sdm A λa A↦?_)))
  refine sdo A (zb Tryz.underlying22 rfl) λa A↦?_
  refine sdm A λa A↦?_
  refine sdo A (zb Tryz.underlying22 rfl) λa A↦?_
  refine sdo (v := .bool false) A (qh rfl rfl (fun w => (zj w).trans (by rw [show (decide (((t.ts.length : Nat) : Int) < ((u.ts.length : Nat) : Int))) = false from (decide_eq_false (by omega))]))) λa A↦?_
  refine qa (hK29 _ _ (wp_cond_false (A.ev rfl) ?_))
  refine wp_skip (hK28 _ _ (wsk fun K30 hK30 => wrl (sda A λa A↦?_)))
  refine qa (hK30 _ _ (wp_ret (hret _ _ (en1 A rfl (qe rfl) ?_))))
  exact ⟨by rw [hin9, zri (by omega)], M.bel⟩
theorem zze {n : Nat} (ih : Orders n) {w : World} {t u : Dt} (ht : t.rd w) (hu : u.rd w) (gt : t.tr.good) (gu : u.tr.good) (hb : t.tr.bulk ≤ n) : Calls Tryz.prog 78 #[.slice t.d.lo t.ts.length t.d.lc, .slice u.d.lo u.ts.length u.d.lc] w fun e w' => e = .returned (.int .i64 (lex (yf (t.ts.length : Int) (u.ts.length : Int)) (yx (t.ts.map Dt.tr) (u.ts.map Dt.tr)))) ∧ Below w.heap.size w w' := by
 have M : Mg w w ([]) := Mg.start w
 refine qx (l := [(0, .slice t.d.lo t.ts.length t.d.lc), (1, .slice u.d.lo u.ts.length u.d.lc)]) Tryz.func78 rfl Tryz.ntmps78 rfl rfl ?_
 intro Q hret hnorm hP a A
 refine wsk fun K1 hK1 => wrl (sda A λa A↦?_)
 refine qa (hK1 _ _ (wsk fun K2 hK2 => wsk fun K3 hK3 => wrl (sdm A λa A↦?_)))
 refine sdo A (zb Tryz.underlying22 rfl) λa A↦?_
 refine sdm A λa A↦?_
 refine sdo A (zb Tryz.underlying22 rfl) λa A↦?_
 rcases tf ((((t.ts.length : Nat) : Int) != ((u.ts.length : Nat) : Int))) with hb4 | hb4
 ·
  have hb4' := bne_iff_ne.1 hb4
  refine sdc A zr hb4 λa A↦?_
  refine qa (hK3 _ _ (wp_cond_true (A.ev rfl) ?_))
  refine wsk fun K5 hK5 => wrl (sdm A λa A↦?_)
  refine sdo A (zb Tryz.underlying22 rfl) λa A↦?_
  refine sdm A λa A↦?_
  refine sdo A (zb Tryz.underlying22 rfl) λa A↦?_
  refine gcl A M (ef rfl rfl) (qda) fun w7 hb6 M a A => ?_
  refine sda A λa A↦?_
  refine qa (hK5 _ _ (wp_ret (hret _ _ (en1 A rfl (qe rfl) ?_))))
  exact ⟨by rw [zrh (fun e => hb4' (yt e))], M.bel⟩
 ·
  have hb4' := bne_eq_false_iff_eq.1 hb4
  refine sdc A zr hb4 λa A↦?_
  refine qa (hK3 _ _ (wp_cond_false (A.ev rfl) ?_))
  refine wp_skip (hK2 _ _ (wsk fun K8 hK8 => wrl ?_))
  iterate 2 refine sdm A λa A↦?_
  refine gcl A M (ef rfl rfl) (zve ih (Dt.keep M.bel _ ht) (Dt.keep M.bel _ hu) gt gu hb (by omega)) fun w9 hbv M a A => ?_
  refine sda A λa A↦?_
  refine qa (hK8 _ _ (wp_ret (hret _ _ (en1 A rfl (qe rfl) ?_))))
  exact ⟨by rw [hb4', qii, zrg], M.bel⟩
theorem zcf {n : Nat} (ih : Orders n) : Orders (n + 1) := by
 intro w t u hn ht hu gt gu
 have M : Mg w w ([]) := Mg.start w
 refine qx (l := [(0, .agg (t.d.cells t.ts.length).toArray), (1, .agg (u.d.cells u.ts.length).toArray)]) Tryz.func57 rfl Tryz.ntmps57 rfl rfl ?_
 intro Q hret hnorm hP a A
 refine wsk fun K1 hK1 => wrl (zv (vs := (t.d.cells t.ts.length)) (t := 30) A M rfl rfl rfl pg (qt rfl rfl) (by decide) ?_)
 intro g2 w3 M a A
 refine zv (vs := (u.d.cells u.ts.length)) (t := 30) A M rfl rfl rfl pg (qt rfl rfl) (by decide) ?_
 intro g4 w5 M a A
 refine sda A λa A↦?_
 refine qa (hK1 _ _ (wsk fun K6 hK6 => wp_block (jd (fun m_ a w1 => ∃ (p : Dt) (r : Dt), m_ = 1 + p.tr.bulk ∧ (p.rd w ∧ r.rd w ∧ p.tr.good ∧ r.tr.good ∧ p.tr.bulk ≤ t.tr.bulk ∧ kl t.tr u.tr = kl p.tr r.tr) ∧ Sl a 84 [(0, .agg (t.d.cells t.ts.length).toArray), (1, .agg (u.d.cells u.ts.length).toArray), (2, .pointer (some ⟨g2, 0, none⟩)), (3, .pointer (some ⟨g4, 0, none⟩))] ∧ Mg w w1 (.obj g4 (.cells (r.d.cells r.ts.length).toArray 30) :: .obj g2 (.cells (p.d.cells p.ts.length).toArray 30) :: [])) _ ⟨t, u, rfl, ⟨ht, hu, gt, gu, Nat.le_refl _, rfl⟩, A.keep _ ⟨rfl, rfl, rfl, rfl, trivial⟩, M⟩ ?_)))
 clear M A
 rintro m_ a w7 ⟨p, r, rfl, hinv9, A, M⟩ K8 hK8
 obtain ⟨hp, hr, gp, gr, hbk, hin9⟩ := hinv9
 refine wsk fun K10 hK10 => wsk fun K11 hK11 => wrl (sdo (v := .pointer (some ⟨g2, 0, none⟩)) A (qb EqB_fld_30_0 rfl rfl) λa A↦?_)
 refine sdo A (ql M EqB_is1_3 rfl 1 rfl rfl) λa A↦?_
 rcases tf ((p.d.k == 8)) with hb12 | hb12
 ·
  have hb12' := eq_of_beq hb12
  refine sdc A qk hb12 λa A↦?_
  refine sdm A λa A↦?_
  refine sdo (v := .pointer (some ⟨g4, 0, none⟩)) A (qb EqB_fld_30_0 rfl rfl) λa A↦?_
  refine sdo A (ql M EqB_is1_3 rfl 0 rfl rfl) λa A↦?_
  rcases tf ((r.d.k == 8)) with hb13 | hb13
  ·
   have hb13' := eq_of_beq hb13
   refine sdc A qk hb13 λa A↦?_
   refine sdk (v := .bool true) A λa A↦?_
   refine qa (hK11 _ _ (wp_cond_true (A.ev rfl) ?_))
   refine wp_skip (hK10 _ _ (wp_block (wsk fun K14 hK14 => wsk fun K15 hK15 => ?_)))
   have l2p := (jz gp).1.h8 hb12'
   have l2r := (jz gr).1.h8 hb13'
   obtain ⟨p0, bp0, op0, ip0, mp0, rp0_, lp0, Hp0⟩ := uy hp (i := 0) (by omega)
   obtain ⟨p1, bp1, op1, ip1, mp1, rp1_, lp1, Hp1⟩ := uy hp (i := 1) (by omega)
   obtain ⟨r0, br0, or0, ir0, mr0, rr0_, lr0, Hr0⟩ := uy hr (i := 0) (by omega)
   obtain ⟨r1, br1, or1, ir1, mr1, rr1_, lr1, Hr1⟩ := uy hr (i := 1) (by omega)
   have hpq := zrf hb12' hb13' l2p l2r ip0 ip1 ir0 ir1
   refine jf (S := fun w1 => Mg w w1 (.obj g4 (.cells (r.d.cells r.ts.length).toArray 30) :: .obj g2 (.cells (p.d.cells p.ts.length).toArray 30) :: [])) (by kernel_rfl) ?_
   replace M := M.drew
   refine qf (v := .pointer (some ⟨g2, 10, none⟩)) A 0 rfl rfl rfl rfl hP (M.sub (cc (cc (List.nil_sublist _)))) (fun w1 M => qb EqB_fld_30_5 rfl rfl) λa A↦?_
   refine qf A 1 rfl rfl rfl rfl hP (M.sub (cc (cc (List.nil_sublist _)))) (fun w1 M => ql M EqB_is1_22 rfl 1 rfl rfl) λa A↦?_
   refine qf (v := .pointer (some ⟨bp0, op0 + 0 * 11, none⟩)) A 2 rfl rfl rfl rfl hP (M.sub (cc (cc (List.nil_sublist _)))) (fun w1 M => zi (k := 0) Tryz.underlying22 (by kernel_rfl) rfl rfl rfl lp0 (by omega)) λa A↦?_
   refine qf A 3 rfl rfl rfl rfl hP (M.sub (cc (cc (List.nil_sublist _)))) (fun w1 M => zx M Hp0 EqB_isS_30 rfl rfl) λa A↦?_
   refine qf (v := .pointer (some ⟨g4, 10, none⟩)) A 4 rfl rfl rfl rfl hP (M.sub (cc (cc (List.nil_sublist _)))) (fun w1 M => qb EqB_fld_30_5 rfl rfl) λa A↦?_
   refine qf A 5 rfl rfl rfl rfl hP (M.sub (cc (cc (List.nil_sublist _)))) (fun w1 M => ql M EqB_is1_22 rfl 0 rfl rfl) λa A↦?_
   refine qf (v := .pointer (some ⟨br0, or0 + 0 * 11, none⟩)) A 6 rfl rfl rfl rfl hP (M.sub (cc (cc (List.nil_sublist _)))) (fun w1 M => zi (k := 0) Tryz.underlying22 (by kernel_rfl) rfl rfl rfl lr0 (by omega)) λa A↦?_
   refine qf A 7 rfl rfl rfl rfl hP (M.sub (cc (cc (List.nil_sublist _)))) (fun w1 M => zx M Hr0 EqB_isS_30 rfl rfl) λa A↦?_
   refine qn (by kernel_rfl) (zd A 8 rfl rfl rfl rfl (qj rfl rfl (fun w => by kernel_rfl)) (ih (by have := ui mp0; omega) (Dt.keep M.bel _ rp0_) (Dt.keep M.bel _ rr0_) ((jz gp).2.2 _ mp0) ((jz gr).2.2 _ mr0)) ?_)
   rintro _ w17 ⟨rfl, hb16⟩
   replace M := M.call hb16
   refine ⟨_, rfl, (M.sub (cc (cc (List.nil_sublist _)))), ?_⟩
   intro a A
   refine qf A 9 rfl rfl rfl rfl hP (M.sub (cc (cc (List.nil_sublist _)))) (fun w1 M => je rfl) λa A↦?_
   refine zp (by kernel_rfl) ?_
   refine hK15 _ _ (wsk fun K18 hK18 => wrl (sdm A λa A↦?_))
   rcases tf ((kl p0.tr r0.tr != 0)) with hb19 | hb19
   ·
    have hb19' := bne_iff_ne.1 hb19
    refine sdc A zr hb19 λa A↦?_
    refine qa (hK18 _ _ (wp_cond_true (A.ev rfl) ?_))
    refine wsk fun K20 hK20 => wrl (sdm A λa A↦?_)
    refine sda A λa A↦?_
    refine qa (hK20 _ _ (wp_ret (hret _ _ (en1 A rfl (qe rfl) ?_))))
    exact ⟨by rw [hin9, hpq, zrh hb19'], M.bel⟩
   ·
    have hb19' := bne_eq_false_iff_eq.1 hb19
    refine sdc A zr hb19 λa A↦?_
    refine qa (hK18 _ _ (wp_cond_false (A.ev rfl) ?_))
    refine wp_skip (hK14 _ _ ?_)
    have hJ21 : ∀ a w1, (∃ (z_ : Unit), Sl a 84 [(0, .agg (t.d.cells t.ts.length).toArray), (1, .agg (u.d.cells u.ts.length).toArray), (2, .pointer (some ⟨g2, 0, none⟩)), (3, .pointer (some ⟨g4, 0, none⟩)), (5, .int .i64 (kl p0.tr r0.tr)), (6, .pointer (some ⟨g2, 0, none⟩)), (7, .int .i64 p.d.k), (8, .bool true), (9, .bool true), (10, .pointer (some ⟨g4, 0, none⟩)), (11, .int .i64 r.d.k), (12, .bool true), (13, .bool true), (14, .pointer (some ⟨g2, 10, none⟩)), (15, .slice p.d.lo p.ts.length p.d.lc), (16, .pointer (some ⟨bp0, op0 + 0 * 11, none⟩)), (17, .agg (p0.d.cells p0.ts.length).toArray), (18, .pointer (some ⟨g4, 10, none⟩)), (19, .slice r.d.lo r.ts.length r.d.lc), (20, .pointer (some ⟨br0, or0 + 0 * 11, none⟩)), (21, .agg (r0.d.cells r0.ts.length).toArray), (22, .int .i64 (kl p0.tr r0.tr)), (23, .int .i64 (kl p0.tr r0.tr)), (24, .bool false)] ∧ Mg w w1 (.obj g4 (.cells (r1.d.cells r1.ts.length).toArray 30) :: .obj g2 (.cells (p1.d.cells p1.ts.length).toArray 30) :: [])) → K8 a w1 := by
     clear A M
     rintro a w22 ⟨z_, A, M⟩
     refine hK8 _ _ _ (by have := ui mp1; omega) ⟨p1, r1, rfl, ⟨rp1_, rr1_, (jz gp).2.2 _ mp1, (jz gr).2.2 _ mr1, by have := ui mp1; omega, by rw [hin9, hpq, hb19', zrg]⟩, A.keep _ ⟨rfl, rfl, rfl, rfl, trivial⟩, M⟩
    refine jf (S := fun w1 => Mg w w1 ([])) (by kernel_rfl) ?_
    replace M := M.drew
    refine qf (v := .pointer (some ⟨g2, 10, none⟩)) A 0 rfl rfl rfl rfl hP (M.sub (cn (cn (List.nil_sublist _)))) (fun w1 M => qb EqB_fld_30_5 rfl rfl) λa A↦?_
    refine qf (v := .pointer (some ⟨g4, 10, none⟩)) A 4 rfl rfl rfl rfl hP (M.sub (cn (cn (List.nil_sublist _)))) (fun w1 M => qb EqB_fld_30_5 rfl rfl) λa A↦?_
    refine xa (rs := [1, 5]) (by kernel_rfl) (by simp) ⟨?_, ?_, trivial⟩
    ·
     refine uq A 1 rfl rfl rfl rfl (ql M EqB_is1_22 rfl 1 rfl rfl) (M.sub (cn (cn (List.nil_sublist _)))) λa A↦?_
     refine qf (v := .pointer (some ⟨bp1, op1 + 1 * 11, none⟩)) A 2 rfl rfl rfl rfl hP (M.sub (cn (cn (List.nil_sublist _)))) (fun w1 M => zi (k := 1) Tryz.underlying22 (by kernel_rfl) rfl rfl rfl lp1 (by omega)) λa A↦?_
     refine qf A 3 rfl rfl rfl rfl hP (M.sub (cn (cn (List.nil_sublist _)))) (fun w1 M => zx M Hp1 EqB_isS_30 rfl rfl) λa A↦?_
     refine xa (rs := [5, 8]) (by kernel_rfl) (by simp) ⟨?_, ?_, trivial⟩
     ·
      refine uq A 5 rfl rfl rfl rfl (ql M EqB_is1_22 rfl 0 rfl rfl) (M.sub (cn (cn (List.nil_sublist _)))) λa A↦?_
      refine qf (v := .pointer (some ⟨br1, or1 + 1 * 11, none⟩)) A 6 rfl rfl rfl rfl hP (M.sub (cn (cn (List.nil_sublist _)))) (fun w1 M => zi (k := 1) Tryz.underlying22 (by kernel_rfl) rfl rfl rfl lr1 (by omega)) λa A↦?_
      refine qf A 7 rfl rfl rfl rfl hP (M.sub (cn (cn (List.nil_sublist _)))) (fun w1 M => zx M Hr1 EqB_isS_30 rfl rfl) λa A↦?_
      refine qn (by kernel_rfl) (qaf (us := (p1.d.cells p1.ts.length)) (L' := (.obj g4 (.cells (r.d.cells r.ts.length).toArray 30) :: .obj g2 (.cells (p1.d.cells p1.ts.length).toArray 30) :: [])) A M 8 rfl rfl rfl (qy rfl rfl rfl (by kernel_rfl) M 1 rfl rfl rfl) 1 rfl rfl rfl ?_)
      intro w23 M
      refine ⟨(M.sub (cn (cn (List.nil_sublist _)))), ?_⟩
      refine qn (by kernel_rfl) (qaf (us := (r1.d.cells r1.ts.length)) (L' := (.obj g4 (.cells (r1.d.cells r1.ts.length).toArray 30) :: .obj g2 (.cells (p1.d.cells p1.ts.length).toArray 30) :: [])) A M 9 rfl rfl rfl (qy rfl rfl rfl (by kernel_rfl) M 0 rfl rfl rfl) 0 rfl rfl rfl ?_)
      intro w24 M
      refine ⟨(M.sub (cn (cn (List.nil_sublist _)))), ?_⟩
      refine zp (by kernel_rfl) ?_
      exact hJ21 _ _ ⟨(), A.keep _ (by repeat' constructor), M⟩
     ·
      refine qaf (us := (p1.d.cells p1.ts.length)) (L' := (.obj g4 (.cells (r.d.cells r.ts.length).toArray 30) :: .obj g2 (.cells (p1.d.cells p1.ts.length).toArray 30) :: [])) A M 8 rfl rfl rfl (qy rfl rfl rfl (by kernel_rfl) M 1 rfl rfl rfl) 1 rfl rfl rfl ?_
      intro w25 M
      refine ⟨(M.sub (cn (cn (List.nil_sublist _)))), ?_⟩
      refine qn (by kernel_rfl) (uq A 5 rfl rfl rfl rfl (ql M EqB_is1_22 rfl 0 rfl rfl) (M.sub (cn (cn (List.nil_sublist _)))) ?_)
      intro a A
      refine qf (v := .pointer (some ⟨br1, or1 + 1 * 11, none⟩)) A 6 rfl rfl rfl rfl hP (M.sub (cn (cn (List.nil_sublist _)))) (fun w1 M => zi (k := 1) Tryz.underlying22 (by kernel_rfl) rfl rfl rfl lr1 (by omega)) λa A↦?_
      refine qf A 7 rfl rfl rfl rfl hP (M.sub (cn (cn (List.nil_sublist _)))) (fun w1 M => zx M Hr1 EqB_isS_30 rfl rfl) λa A↦?_
      refine qn (by kernel_rfl) (qaf (us := (r1.d.cells r1.ts.length)) (L' := (.obj g4 (.cells (r1.d.cells r1.ts.length).toArray 30) :: .obj g2 (.cells (p1.d.cells p1.ts.length).toArray 30) :: [])) A M 9 rfl rfl rfl (qy rfl rfl rfl (by kernel_rfl) M 0 rfl rfl rfl) 0 rfl rfl rfl ?_)
      intro w26 M
      refine ⟨(M.sub (cn (cn (List.nil_sublist _)))), ?_⟩
      refine zp (by kernel_rfl) ?_
      exact hJ21 _ _ ⟨(), A.keep _ (by repeat' constructor), M⟩
    ·
     refine uq A 5 rfl rfl rfl rfl (ql M EqB_is1_22 rfl 0 rfl rfl) (M.sub (cn (cn (List.nil_sublist _)))) λa A↦?_
     refine qf (v := .pointer (some ⟨br1, or1 + 1 * 11, none⟩)) A 6 rfl rfl rfl rfl hP (M.sub (cn (cn (List.nil_sublist _)))) (fun w1 M => zi (k := 1) Tryz.underlying22 (by kernel_rfl) rfl rfl rfl lr1 (by omega)) λa A↦?_
     refine qf A 7 rfl rfl rfl rfl hP (M.sub (cn (cn (List.nil_sublist _)))) (fun w1 M => zx M Hr1 EqB_isS_30 rfl rfl) λa A↦?_
     refine qn (by kernel_rfl) (uq A 1 rfl rfl rfl rfl (ql M EqB_is1_22 rfl 1 rfl rfl) (M.sub (cn (cn (List.nil_sublist _)))) ?_)
     intro a A
     refine qf (v := .pointer (some ⟨bp1, op1 + 1 * 11, none⟩)) A 2 rfl rfl rfl rfl hP (M.sub (cn (cn (List.nil_sublist _)))) (fun w1 M => zi (k := 1) Tryz.underlying22 (by kernel_rfl) rfl rfl rfl lp1 (by omega)) λa A↦?_
     refine qf A 3 rfl rfl rfl rfl hP (M.sub (cn (cn (List.nil_sublist _)))) (fun w1 M => zx M Hp1 EqB_isS_30 rfl rfl) λa A↦?_
     refine qn (by kernel_rfl) (qaf (us := (p1.d.cells p1.ts.length)) (L' := (.obj g4 (.cells (r.d.cells r.ts.length).toArray 30) :: .obj g2 (.cells (p1.d.cells p1.ts.length).toArray 30) :: [])) A M 8 rfl rfl rfl (qy rfl rfl rfl (by kernel_rfl) M 1 rfl rfl rfl) 1 rfl rfl rfl ?_)
     intro w27 M
     refine ⟨(M.sub (cn (cn (List.nil_sublist _)))), ?_⟩
     refine qn (by kernel_rfl) (qaf (us := (r1.d.cells r1.ts.length)) (L' := (.obj g4 (.cells (r1.d.cells r1.ts.length).toArray 30) :: .obj g2 (.cells (p1.d.cells p1.ts.length).toArray 30) :: [])) A M 9 rfl rfl rfl (qy rfl rfl rfl (by kernel_rfl) M 0 rfl rfl rfl) 0 rfl rfl rfl ?_)
     intro w28 M
     refine ⟨(M.sub (cn (cn (List.nil_sublist _)))), ?_⟩
     refine zp (by kernel_rfl) ?_
     exact hJ21 _ _ ⟨(), A.keep _ (by repeat' constructor), M⟩
  ·
   have hb13' := ne_of_beq_false hb13
   refine sdc A qk hb13 λa A↦?_
   refine sdk (v := .bool false) A λa A↦?_
   refine qa (hK11 _ _ (wp_cond_false (A.ev rfl) ?_))
   refine wp_exit (hK6 _ _ (wsk fun K29 hK29 => wsk fun K30 hK30 => wrl (sdo (v := .pointer (some ⟨g2, 0, none⟩)) A (qb EqB_fld_30_0 rfl rfl) λa A↦?_)))
   refine sdo A (ql M EqB_is1_3 rfl 1 rfl rfl) λa A↦?_
   refine sdo (v := .pointer (some ⟨g4, 0, none⟩)) A (qb EqB_fld_30_0 rfl rfl) λa A↦?_
   refine sdo A (ql M EqB_is1_3 rfl 0 rfl rfl) λa A↦?_
   refine sdo (v := .bool true) A (qh rfl rfl (fun w => (zr w).trans (by rw [show ((p.d.k != r.d.k)) = true from (bne_iff_ne.2 (by omega))]))) λa A↦?_
   refine qa (hK30 _ _ (wp_cond_true (A.ev rfl) ?_))
   refine wsk fun K31 hK31 => wrl (sdo (v := .pointer (some ⟨g2, 0, none⟩)) A (qb EqB_fld_30_0 rfl rfl) λa A↦?_)
   refine sdo A (ql M EqB_is1_3 rfl 1 rfl rfl) λa A↦?_
   refine sdo (v := .pointer (some ⟨g4, 0, none⟩)) A (qb EqB_fld_30_0 rfl rfl) λa A↦?_
   refine sdo A (ql M EqB_is1_3 rfl 0 rfl rfl) λa A↦?_
   refine gcl A M (ef rfl rfl) (qda) fun w33 hb32 M a A => ?_
   refine sda A λa A↦?_
   refine qa (hK31 _ _ (wp_ret (hret _ _ (en1 A rfl (qe rfl) ?_))))
   exact ⟨by rw [hin9, qzf (by omega)], M.bel⟩
 ·
  have hb12' := ne_of_beq_false hb12
  refine sdc A qk hb12 λa A↦?_
  refine sdm A λa A↦?_
  iterate 3 refine qr A rfl rfl rfl λa A↦?_
  refine sdk (v := .bool false) A λa A↦?_
  refine qa (hK11 _ _ (wp_cond_false (A.ev rfl) ?_))
  refine wp_exit (hK6 _ _ (wsk fun K34 hK34 => wsk fun K35 hK35 => wrl (sdo (v := .pointer (some ⟨g2, 0, none⟩)) A (qb EqB_fld_30_0 rfl rfl) λa A↦?_)))
  refine sdo A (ql M EqB_is1_3 rfl 1 rfl rfl) λa A↦?_
  refine sdo (v := .pointer (some ⟨g4, 0, none⟩)) A (qb EqB_fld_30_0 rfl rfl) λa A↦?_
  refine sdo A (ql M EqB_is1_3 rfl 0 rfl rfl) λa A↦?_
  rcases tf ((p.d.k != r.d.k)) with hb36 | hb36
  ·
   have hb36' := bne_iff_ne.1 hb36
   refine sdc A zr hb36 λa A↦?_
   refine qa (hK35 _ _ (wp_cond_true (A.ev rfl) ?_))
   refine wsk fun K37 hK37 => wrl (sdo (v := .pointer (some ⟨g2, 0, none⟩)) A (qb EqB_fld_30_0 rfl rfl) λa A↦?_)
   refine sdo A (ql M EqB_is1_3 rfl 1 rfl rfl) λa A↦?_
   refine sdo (v := .pointer (some ⟨g4, 0, none⟩)) A (qb EqB_fld_30_0 rfl rfl) λa A↦?_
   refine sdo A (ql M EqB_is1_3 rfl 0 rfl rfl) λa A↦?_
   refine gcl A M (ef rfl rfl) (qda) fun w39 hb38 M a A => ?_
   refine sda A λa A↦?_
   refine qa (hK37 _ _ (wp_ret (hret _ _ (en1 A rfl (qe rfl) ?_))))
   exact ⟨by rw [hin9, qzf (by omega)], M.bel⟩
  ·
   have hb36' := bne_eq_false_iff_eq.1 hb36
   refine sdc A zr hb36 λa A↦?_
   refine qa (hK35 _ _ (wp_cond_false (A.ev rfl) ?_))
   refine wp_skip (hK34 _ _ (wsk fun K40 hK40 => wsk fun K41 hK41 => wrl (sdo (v := .pointer (some ⟨g2, 0, none⟩)) A (qb EqB_fld_30_0 rfl rfl) λa A↦?_)))
   refine sdo A (ql M EqB_is1_3 rfl 1 rfl rfl) λa A↦?_
   refine qa (hK41 _ _ (wp_block (wsk fun K42 hK42 => wsk fun K43 hK43 => wrl ?_)))
   rcases tf ((p.d.k == 2)) with hb44 | hb44
   ·
    have hb44' := eq_of_beq hb44
    refine sdc A qk hb44 λa A↦?_
    refine sda A λa A↦?_
    refine qa (hK43 _ _ (wp_cond_true (A.ev rfl) ?_))
    refine wp_skip (hK42 _ _ (wp_cond_true (A.ev rfl) ?_))
    refine wsk fun K45 hK45 => wrl (sdo (v := .pointer (some ⟨g2, 1, none⟩)) A (qb EqB_fld_30_1 rfl rfl) λa A↦?_)
    refine sdo A (ql M EqB_is1_3 rfl 1 rfl rfl) λa A↦?_
    refine sdo (v := .pointer (some ⟨g4, 1, none⟩)) A (qb EqB_fld_30_1 rfl rfl) λa A↦?_
    refine sdo A (ql M EqB_is1_3 rfl 0 rfl rfl) λa A↦?_
    refine gcl A M (ef rfl rfl) (qda) fun w47 hb46 M a A => ?_
    refine sda A λa A↦?_
    refine qa (hK45 _ _ (wp_ret (hret _ _ (en1 A rfl (qe rfl) ?_))))
    exact ⟨by
     rw [hin9, yi gp gr (by omega) (by omega)]
     repeat (first | rw [if_pos (by omega)] | rw [if_neg (by omega)]), M.bel⟩
   ·
    have hb44' := ne_of_beq_false hb44
    refine sdc A qk hb44 λa A↦?_
    refine sda A λa A↦?_
    refine qa (hK43 _ _ (wp_cond_false (A.ev rfl) ?_))
    refine wrl ?_
    rcases tf ((p.d.k == 4)) with hb48 | hb48
    ·
     have hb48' := eq_of_beq hb48
     refine sdc A qk hb48 λa A↦?_
     refine sda A λa A↦?_
     refine qa (hK42 _ _ (wp_cond_true (A.ev rfl) ?_))
     refine wsk fun K49 hK49 => wrl (sdo (v := .pointer (some ⟨g2, 1, none⟩)) A (qb EqB_fld_30_1 rfl rfl) λa A↦?_)
     refine sdo A (ql M EqB_is1_3 rfl 1 rfl rfl) λa A↦?_
     refine sdo (v := .pointer (some ⟨g4, 1, none⟩)) A (qb EqB_fld_30_1 rfl rfl) λa A↦?_
     refine sdo A (ql M EqB_is1_3 rfl 0 rfl rfl) λa A↦?_
     refine gcl A M (ef rfl rfl) (qda) fun w51 hb50 M a A => ?_
     refine sda A λa A↦?_
     refine qa (hK49 _ _ (wp_ret (hret _ _ (en1 A rfl (qe rfl) ?_))))
     exact ⟨by
      rw [hin9, yi gp gr (by omega) (by omega)]
      repeat (first | rw [if_pos (by omega)] | rw [if_neg (by omega)]), M.bel⟩
    ·
     have hb48' := ne_of_beq_false hb48
     refine sdc A qk hb48 λa A↦?_
     refine sda A λa A↦?_
     refine qa (hK42 _ _ (wp_cond_false (A.ev rfl) ?_))
     refine wsk fun K52 hK52 => wrl ?_
     rcases tf ((p.d.k == 3)) with hb53 | hb53
     ·
      have hb53' := eq_of_beq hb53
      refine sdc A qk hb53 λa A↦?_
      refine sda A λa A↦?_
      refine qa (hK52 _ _ (wp_cond_true (A.ev rfl) ?_))
      refine wsk fun K54 hK54 => wrl (sdo (v := .pointer (some ⟨g2, 2, none⟩)) A (qb EqB_fld_30_2 rfl rfl) λa A↦?_)
      refine sdo A (za M EqB_isS_27 rfl 1 rfl (cs := [.bool p.d.y.q.b1, .slice p.d.y.o1 p.d.y.q.t1.length p.d.y.c1, .slice p.d.y.o2 p.d.y.q.q1.length p.d.y.c2, .bool p.d.y.q.b2, .slice p.d.y.o3 p.d.y.q.t2.length p.d.y.c3, .slice p.d.y.o4 p.d.y.q.q2.length p.d.y.c4]) rfl rfl) λa A↦?_
      refine sdo (v := .pointer (some ⟨g4, 2, none⟩)) A (qb EqB_fld_30_2 rfl rfl) λa A↦?_
      refine sdo A (za M EqB_isS_27 rfl 0 rfl (cs := [.bool r.d.y.q.b1, .slice r.d.y.o1 r.d.y.q.t1.length r.d.y.c1, .slice r.d.y.o2 r.d.y.q.q1.length r.d.y.c2, .bool r.d.y.q.b2, .slice r.d.y.o3 r.d.y.q.t2.length r.d.y.c3, .slice r.d.y.o4 r.d.y.q.q2.length r.d.y.c4]) rfl rfl) λa A↦?_
      refine gcl A M (ef rfl rfl) (zvd (y := p.d.y) (z := r.d.y) (Nu.below (Dt.okT hp).1.num M.bel) (Nu.below (Dt.okT hr).1.num M.bel) ((jz gp).2.1 (by omega)) ((jz gr).2.1 (by omega))) fun w55 hbn M a A => ?_
      refine sda A λa A↦?_
      refine qa (hK54 _ _ (wp_ret (hret _ _ (en1 A rfl (qe rfl) ?_))))
      exact ⟨by
       rw [hin9, yi gp gr (by omega) (by omega)]
       repeat (first | rw [if_pos (by omega)] | rw [if_neg (by omega)]), M.bel⟩
     ·
      have hb53' := ne_of_beq_false hb53
      refine sdc A qk hb53 λa A↦?_
      refine sda A λa A↦?_
      refine qa (hK52 _ _ (wp_cond_false (A.ev rfl) ?_))
      refine wsk fun K56 hK56 => wsk fun K57 hK57 => wrl ?_
      rcases tf ((p.d.k == 5)) with hb58 | hb58
      ·
       have hb58' := eq_of_beq hb58
       refine sdc A qk hb58 λa A↦?_
       refine sda A λa A↦?_
       refine qa (hK57 _ _ (wp_cond_true (A.ev rfl) ?_))
       refine wp_skip (hK56 _ _ (wp_cond_true (A.ev rfl) ?_))
       refine wsk fun K59 hK59 => wrl (sdo (v := .pointer (some ⟨g2, 8, none⟩)) A (qb EqB_fld_30_3 rfl rfl) λa A↦?_)
       refine sdo A (ql M EqB_is1_9 rfl 1 rfl rfl) λa A↦?_
       refine sdo (v := .pointer (some ⟨g4, 8, none⟩)) A (qb EqB_fld_30_3 rfl rfl) λa A↦?_
       refine sdo A (ql M EqB_is1_9 rfl 0 rfl rfl) λa A↦?_
       refine gcl A M (ef rfl rfl) (qpg) fun w61 hb60 M a A => ?_
       refine sda A λa A↦?_
       refine qa (hK59 _ _ (wp_ret (hret _ _ (en1 A rfl (qe rfl) ?_))))
       exact ⟨by
        rw [hin9, yi gp gr (by omega) (by omega)]
        repeat (first | rw [if_pos (by omega)] | rw [if_neg (by omega)]), M.bel⟩
      ·
       have hb58' := ne_of_beq_false hb58
       refine sdc A qk hb58 λa A↦?_
       refine sda A λa A↦?_
       refine qa (hK57 _ _ (wp_cond_false (A.ev rfl) ?_))
       refine wsk fun K62 hK62 => wrl ?_
       rcases tf ((p.d.k == 6)) with hb63 | hb63
       ·
        have hb63' := eq_of_beq hb63
        refine sdc A qk hb63 λa A↦?_
        refine sda A λa A↦?_
        refine qa (hK62 _ _ (wp_cond_true (A.ev rfl) ?_))
        refine wp_skip (hK56 _ _ (wp_cond_true (A.ev rfl) ?_))
        refine wsk fun K64 hK64 => wrl (sdo (v := .pointer (some ⟨g2, 8, none⟩)) A (qb EqB_fld_30_3 rfl rfl) λa A↦?_)
        refine sdo A (ql M EqB_is1_9 rfl 1 rfl rfl) λa A↦?_
        refine sdo (v := .pointer (some ⟨g4, 8, none⟩)) A (qb EqB_fld_30_3 rfl rfl) λa A↦?_
        refine sdo A (ql M EqB_is1_9 rfl 0 rfl rfl) λa A↦?_
        refine gcl A M (ef rfl rfl) (qpg) fun w66 hb65 M a A => ?_
        refine sda A λa A↦?_
        refine qa (hK64 _ _ (wp_ret (hret _ _ (en1 A rfl (qe rfl) ?_))))
        exact ⟨by
         rw [hin9, yi gp gr (by omega) (by omega)]
         repeat (first | rw [if_pos (by omega)] | rw [if_neg (by omega)]), M.bel⟩
       ·
        have hb63' := ne_of_beq_false hb63
        refine sdc A qk hb63 λa A↦?_
        refine sda A λa A↦?_
        refine qa (hK62 _ _ (wp_cond_false (A.ev rfl) ?_))
        refine wrl ?_
        rcases tf ((p.d.k == 11)) with hb67 | hb67
        ·
         have hb67' := eq_of_beq hb67
         refine sdc A qk hb67 λa A↦?_
         refine sda A λa A↦?_
         refine qa (hK56 _ _ (wp_cond_true (A.ev rfl) ?_))
         refine wsk fun K68 hK68 => wrl (sdo (v := .pointer (some ⟨g2, 8, none⟩)) A (qb EqB_fld_30_3 rfl rfl) λa A↦?_)
         refine sdo A (ql M EqB_is1_9 rfl 1 rfl rfl) λa A↦?_
         refine sdo (v := .pointer (some ⟨g4, 8, none⟩)) A (qb EqB_fld_30_3 rfl rfl) λa A↦?_
         refine sdo A (ql M EqB_is1_9 rfl 0 rfl rfl) λa A↦?_
         refine gcl A M (ef rfl rfl) (qpg) fun w70 hb69 M a A => ?_
         refine sda A λa A↦?_
         refine qa (hK68 _ _ (wp_ret (hret _ _ (en1 A rfl (qe rfl) ?_))))
         exact ⟨by
          rw [hin9, yi gp gr (by omega) (by omega)]
          repeat (first | rw [if_pos (by omega)] | rw [if_neg (by omega)]), M.bel⟩
        ·
         have hb67' := ne_of_beq_false hb67
         refine sdc A qk hb67 λa A↦?_
         refine sda A λa A↦?_
         refine qa (hK56 _ _ (wp_cond_false (A.ev rfl) ?_))
         refine wsk fun K71 hK71 => wrl ?_
         rcases tf ((p.d.k == 7)) with hb72 | hb72
         ·
          have hb72' := eq_of_beq hb72
          refine sdc A qk hb72 λa A↦?_
          refine sda A λa A↦?_
          refine qa (hK71 _ _ (wp_cond_true (A.ev rfl) ?_))
          refine wsk fun K73 hK73 => wrl (sdo (v := .pointer (some ⟨g2, 9, none⟩)) A (qb EqB_fld_30_4 rfl rfl) λa A↦?_)
          refine sdo A (ql M EqB_is1_28 rfl 1 rfl rfl) λa A↦?_
          refine sdo (v := .pointer (some ⟨g4, 9, none⟩)) A (qb EqB_fld_30_4 rfl rfl) λa A↦?_
          refine sdo A (ql M EqB_is1_28 rfl 0 rfl rfl) λa A↦?_
          refine gcl A M (ef rfl rfl) (zuh ((Dt.okT hp).1.raw.below M.bel) ((Dt.okT hr).1.raw.below M.bel)) fun w75 hb74 M a A => ?_
          refine sda A λa A↦?_
          refine qa (hK73 _ _ (wp_ret (hret _ _ (en1 A rfl (qe rfl) ?_))))
          exact ⟨by
           rw [hin9, yi gp gr (by omega) (by omega)]
           repeat (first | rw [if_pos (by omega)] | rw [if_neg (by omega)]), M.bel⟩
         ·
          have hb72' := ne_of_beq_false hb72
          refine sdc A qk hb72 λa A↦?_
          refine sda A λa A↦?_
          refine qa (hK71 _ _ (wp_cond_false (A.ev rfl) ?_))
          refine wsk fun K76 hK76 => wrl ?_
          rcases tf ((p.d.k == 9)) with hb77 | hb77
          ·
           have hb77' := eq_of_beq hb77
           refine sdc A qk hb77 λa A↦?_
           refine sda A λa A↦?_
           refine qa (hK76 _ _ (wp_cond_true (A.ev rfl) ?_))
           refine wsk fun K78 hK78 => wrl (sdo (v := .pointer (some ⟨g2, 10, none⟩)) A (qb EqB_fld_30_5 rfl rfl) λa A↦?_)
           refine sdo A (ql M EqB_is1_22 rfl 1 rfl rfl) λa A↦?_
           refine sdo (v := .pointer (some ⟨g4, 10, none⟩)) A (qb EqB_fld_30_5 rfl rfl) λa A↦?_
           refine sdo A (ql M EqB_is1_22 rfl 0 rfl rfl) λa A↦?_
           refine gcl A M (ef rfl rfl) (zze ih (Dt.keep M.bel _ hp) (Dt.keep M.bel _ hr) gp gr (by omega)) fun w80 hb79 M a A => ?_
           refine sda A λa A↦?_
           refine qa (hK78 _ _ (wp_ret (hret _ _ (en1 A rfl (qe rfl) ?_))))
           exact ⟨by
            rw [hin9, yi gp gr (by omega) (by omega)]
            repeat (first | rw [if_pos (by omega)] | rw [if_neg (by omega)]), M.bel⟩
          ·
           have hb77' := ne_of_beq_false hb77
           refine sdc A qk hb77 λa A↦?_
           refine sda A λa A↦?_
           refine qa (hK76 _ _ (wp_cond_false (A.ev rfl) ?_))
           refine wp_skip (hK40 _ _ (wsk fun K81 hK81 => wrl (sda A λa A↦?_)))
           refine qa (hK81 _ _ (wp_ret (hret _ _ (en1 A rfl (qe rfl) ?_))))
           exact ⟨by
            rw [hin9, yi gp gr (by omega) (by omega)]
            repeat (first | rw [if_pos (by omega)] | rw [if_neg (by omega)]), M.bel⟩
theorem qpj : ∀ n, Orders n
 | 0 => fun h => absurd h (Nat.not_lt_zero _)
 | n + 1 => zcf (qpj n)
end Go.Proofs.YtipikhcmieboaaaGreatDoor.G
