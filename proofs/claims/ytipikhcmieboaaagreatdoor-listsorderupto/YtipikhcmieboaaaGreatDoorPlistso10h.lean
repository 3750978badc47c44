/- The walk of the document's sameness of data. The walk of the law of joined lists. Walks of the document's lists. Walks of the document's Of, Reverse, Tail and Append. The walk of the law of lists that are made. The walk of ListsOrder. What a bound on the bulk of what is read gives. Transcoders that come in as arguments. Rows of bytes that come in as arguments; the first part of a row, and of a text. Data that come in as arguments. -/
import Derived.Test.YtipikhcmieboaaaGreatDoorPlistso10g
import Derived.Test.YtipikhcmieboaaaGreatDoorRows
import Derived.Test.YtipikhcmieboaaaGreatDoorPlistso10d
import Derived.Test.YtipikhcmieboaaaGreatDoorProg
import Derived.WalkKit
import Derived.ProofKit
import Derived.OpenShut
import Derived.ChangeOld
import Derived.Lib.SmallJoins
import Derived.Deep.Strs
import Derived.Test.YtipikhcmieboaaaGreatDoorPlistso10c
import Derived.Test.YtipikhcmieboaaaGreatDoorPlistso10f
import Derived.Deep.Slices
namespace Go.Proofs.YtipikhcmieboaaaGreatDoor.G
open Go.RowKit
set_option linter.unusedVariables false
set_option linter.unusedSimpArgs false
set_option maxRecDepth 100000
theorem LiS_is1_22 : Is1 Tryz.prog 22 := ⟨⟨_, Tryz.underlying22, rfl⟩, by kernel_rfl⟩
theorem LiS_is1_28 : Is1 Tryz.prog 28 := ⟨⟨_, Tryz.underlying28, rfl⟩, by kernel_rfl⟩
theorem LiS_is1_3 : Is1 Tryz.prog 3 := ⟨⟨_, Tryz.underlying3, rfl⟩, by kernel_rfl⟩
theorem LiS_is1_5 : Is1 Tryz.prog 5 := ⟨⟨_, Tryz.underlying5, rfl⟩, by kernel_rfl⟩
theorem LiS_is1_9 : Is1 Tryz.prog 9 := ⟨⟨_, Tryz.underlying9, rfl⟩, by kernel_rfl⟩
theorem LiS_fld_30_0 : FieldAt Tryz.prog 30 0 0 := ⟨_, _, Tryz.underlying30, rfl, rfl, by kernel_rfl⟩
theorem LiS_fld_30_1 : FieldAt Tryz.prog 30 1 1 := ⟨_, _, Tryz.underlying30, rfl, rfl, by kernel_rfl⟩
theorem LiS_fld_30_2 : FieldAt Tryz.prog 30 2 2 := ⟨_, _, Tryz.underlying30, rfl, rfl, by kernel_rfl⟩
theorem LiS_fld_30_3 : FieldAt Tryz.prog 30 3 8 := ⟨_, _, Tryz.underlying30, rfl, rfl, by kernel_rfl⟩
theorem LiS_fld_30_4 : FieldAt Tryz.prog 30 4 9 := ⟨_, _, Tryz.underlying30, rfl, rfl, by kernel_rfl⟩
theorem LiS_fld_30_5 : FieldAt Tryz.prog 30 5 10 := ⟨_, _, Tryz.underlying30, rfl, rfl, by kernel_rfl⟩
theorem LiS_isS_27 : IsS Tryz.prog 27 6 := ⟨⟨_, Tryz.underlying27⟩, by kernel_rfl⟩
theorem LiS_isS_30 : IsS Tryz.prog 30 11 := ⟨⟨_, Tryz.underlying30⟩, by kernel_rfl⟩
theorem qli {w : World} {t u : Dt} (ht : t.rd w) (hu : u.rd w) {b : Bool} (h : SQ2 t u = b) : Calls Tryz.prog 43 #[t.d.y.val, u.d.y.val] w fun e w' => e = .returned (.bool b) ∧ Below w.heap.size w w' := zad (Dt.okT ht).1.num (Dt.okT ht).1.len (Dt.okT hu).1.num (Dt.okT hu).1.len h
def RSames (n : Nat) : Prop := ∀ {w : World} {t u : Dt}, t.tr.bulk < n → t.rd w → u.rd w → Calls Tryz.prog 16 #[.agg (t.d.cells t.ts.length).toArray, .agg (u.d.cells u.ts.length).toArray] w fun e w' => e = .returned (.bool (uq t.tr u.tr)) ∧ Below w.heap.size w w'
set_option maxHeartbeats 1000000 in
theorem qwg {n : Nat} (ih : RSames n) : RSames (n + 1) := by
 intro w t u hn ht hu
 have hlt := (Dt.okT ht).2
 have hrt : t.d.rl.length ≤ 9223372036854775807 := Nat.le_trans (Dt.okT ht).1.rcap (Dt.okT ht).1.rmax
 have M : Mg w w ([]) := Mg.start w
 refine qm (l := [(0, .agg (t.d.cells t.ts.length).toArray), (1, .agg (u.d.cells u.ts.length).toArray)]) Tryz.func16 rfl Tryz.ntmps16 rfl rfl ?_
 intro Q hret hnorm hP a A
 refine wsk fun K1 hK1 => wrl (ja (vs := (t.d.cells t.ts.length)) (t := 30) A M rfl rfl rfl pg (qs rfl rfl) (by decide) ?_)
 intro g2 w3 M a A
 refine ja (vs := (u.d.cells u.ts.length)) (t := 30) A M rfl rfl rfl pg (qs rfl rfl) (by decide) ?_
 intro g4 w5 M a A
 refine sda A λa A↦?_
 refine qa (hK1 _ _ (wsk fun K6 hK6 => wsk fun K7 hK7 => wrl (sdo (v := .pointer (some ⟨g2, 0, none⟩)) A (qb LiS_fld_30_0 rfl rfl) λa A↦?_)))
 refine sdo A (ql M LiS_is1_3 rfl 1 rfl rfl) λa A↦?_
 refine sdo (v := .pointer (some ⟨g4, 0, none⟩)) A (qb LiS_fld_30_0 rfl rfl) λa A↦?_
 refine sdo A (ql M LiS_is1_3 rfl 0 rfl rfl) λa A↦?_
 rcases tf ((t.d.k != u.d.k)) with hb8 | hb8
 ·
  have hb8' := bne_iff_ne.1 hb8
  refine sdc A zm hb8 λa A↦?_
  refine sdm A λa A↦?_
  iterate 5 refine qx A rfl rfl rfl λa A↦?_
  refine sdk (v := .bool true) A λa A↦?_
  refine sdm A λa A↦?_
  iterate 5 refine qx A rfl rfl rfl λa A↦?_
  refine sdk (v := .bool true) A λa A↦?_
  refine sdm A λa A↦?_
  iterate 7 refine qx A rfl rfl rfl λa A↦?_
  refine sdk (v := .bool true) A λa A↦?_
  refine sdm A λa A↦?_
  iterate 7 refine qx A rfl rfl rfl λa A↦?_
  refine sdk (v := .bool true) A λa A↦?_
  refine sdm A λa A↦?_
  iterate 6 refine qx A rfl rfl rfl λa A↦?_
  refine sdk (v := .bool true) A λa A↦?_
  refine qa (hK7 _ _ (wp_cond_true (A.ev rfl) ?_))
  refine wsk fun K9 hK9 => wrl (sda A λa A↦?_)
  refine qa (hK9 _ _ (wp_ret (hret _ _ (en1 A rfl (qh rfl) ?_))))
  exact ⟨by rw [un (.inl hb8')], M.bel⟩
 ·
  have hb8' := bne_eq_false_iff_eq.1 hb8
  refine sdc A zm hb8 λa A↦?_
  refine sdm A λa A↦?_
  refine sdo (v := .pointer (some ⟨g2, 1, none⟩)) A (qb LiS_fld_30_1 rfl rfl) λa A↦?_
  refine sdo A (ql M LiS_is1_3 rfl 1 rfl rfl) λa A↦?_
  refine sdo (v := .pointer (some ⟨g4, 1, none⟩)) A (qb LiS_fld_30_1 rfl rfl) λa A↦?_
  refine sdo A (ql M LiS_is1_3 rfl 0 rfl rfl) λa A↦?_
  rcases tf ((t.d.n != u.d.n)) with hb10 | hb10
  ·
   have hb10' := bne_iff_ne.1 hb10
   refine sdc A zm hb10 λa A↦?_
   refine sdk (v := .bool true) A λa A↦?_
   refine sdm A λa A↦?_
   iterate 5 refine qx A rfl rfl rfl λa A↦?_
   refine sdk (v := .bool true) A λa A↦?_
   refine sdm A λa A↦?_
   iterate 7 refine qx A rfl rfl rfl λa A↦?_
   refine sdk (v := .bool true) A λa A↦?_
   refine sdm A λa A↦?_
   iterate 7 refine qx A rfl rfl rfl λa A↦?_
   refine sdk (v := .bool true) A λa A↦?_
   refine sdm A λa A↦?_
   iterate 6 refine qx A rfl rfl rfl λa A↦?_
   refine sdk (v := .bool true) A λa A↦?_
   refine qa (hK7 _ _ (wp_cond_true (A.ev rfl) ?_))
   refine wsk fun K11 hK11 => wrl (sda A λa A↦?_)
   refine qa (hK11 _ _ (wp_ret (hret _ _ (en1 A rfl (qh rfl) ?_))))
   exact ⟨by rw [un (.inr (.inl hb10'))], M.bel⟩
  ·
   have hb10' := bne_eq_false_iff_eq.1 hb10
   refine sdc A zm hb10 λa A↦?_
   refine sdk (v := .bool false) A λa A↦?_
   refine sdm A λa A↦?_
   refine sdo (v := .pointer (some ⟨g2, 8, none⟩)) A (qb LiS_fld_30_3 rfl rfl) λa A↦?_
   refine sdo A (ql M LiS_is1_9 rfl 1 rfl rfl) λa A↦?_
   refine sdo (v := .pointer (some ⟨g4, 8, none⟩)) A (qb LiS_fld_30_3 rfl rfl) λa A↦?_
   refine sdo A (ql M LiS_is1_9 rfl 0 rfl rfl) λa A↦?_
   rcases tf (decide (t.d.s = u.d.s)) with hb12 | hb12
   ·
    have hb12' := of_decide_eq_true hb12
    refine sdo (v := .bool false) A (qf rfl rfl (fun w => (qse Tryz.underlying9 w).trans (by rw [hb12] <;> rfl))) λa A↦?_
    refine sdk (v := .bool false) A λa A↦?_
    refine sdm A λa A↦?_
    refine sdo (v := .pointer (some ⟨g2, 9, none⟩)) A (qb LiS_fld_30_4 rfl rfl) λa A↦?_
    refine sdo A (ql M LiS_is1_28 rfl 1 rfl rfl) λa A↦?_
    refine sdo A (zf Tryz.underlying28 rfl) λa A↦?_
    refine sdo (v := .pointer (some ⟨g4, 9, none⟩)) A (qb LiS_fld_30_4 rfl rfl) λa A↦?_
    refine sdo A (ql M LiS_is1_28 rfl 0 rfl rfl) λa A↦?_
    refine sdo A (zf Tryz.underlying28 rfl) λa A↦?_
    rcases tf ((((t.d.rl.length : Nat) : Int) != ((u.d.rl.length : Nat) : Int))) with hb13 | hb13
    ·
     have hb13' := bne_iff_ne.1 hb13
     refine sdc A zm hb13 λa A↦?_
     refine sdk (v := .bool true) A λa A↦?_
     refine sdm A λa A↦?_
     iterate 7 refine qx A rfl rfl rfl λa A↦?_
     refine sdk (v := .bool true) A λa A↦?_
     refine sdm A λa A↦?_
     iterate 6 refine qx A rfl rfl rfl λa A↦?_
     refine sdk (v := .bool true) A λa A↦?_
     refine qa (hK7 _ _ (wp_cond_true (A.ev rfl) ?_))
     refine wsk fun K14 hK14 => wrl (sda A λa A↦?_)
     refine qa (hK14 _ _ (wp_ret (hret _ _ (en1 A rfl (qh rfl) ?_))))
     exact ⟨by rw [un (.inr (.inr (.inr (.inl (fun e => hb13' (by rw [e]))))))], M.bel⟩
    ·
     have hb13' := bne_eq_false_iff_eq.1 hb13
     refine sdc A zm hb13 λa A↦?_
     refine sdk (v := .bool false) A λa A↦?_
     refine sdm A λa A↦?_
     refine sdo (v := .pointer (some ⟨g2, 10, none⟩)) A (qb LiS_fld_30_5 rfl rfl) λa A↦?_
     refine sdo A (ql M LiS_is1_22 rfl 1 rfl rfl) λa A↦?_
     refine sdo A (zf Tryz.underlying22 rfl) λa A↦?_
     refine sdo (v := .pointer (some ⟨g4, 10, none⟩)) A (qb LiS_fld_30_5 rfl rfl) λa A↦?_
     refine sdo A (ql M LiS_is1_22 rfl 0 rfl rfl) λa A↦?_
     refine sdo A (zf Tryz.underlying22 rfl) λa A↦?_
     rcases tf ((((t.ts.length : Nat) : Int) != ((u.ts.length : Nat) : Int))) with hb15 | hb15
     ·
      have hb15' := bne_iff_ne.1 hb15
      refine sdc A zm hb15 λa A↦?_
      refine sdk (v := .bool true) A λa A↦?_
      refine sdm A λa A↦?_
      iterate 6 refine qx A rfl rfl rfl λa A↦?_
      refine sdk (v := .bool true) A λa A↦?_
      refine qa (hK7 _ _ (wp_cond_true (A.ev rfl) ?_))
      refine wsk fun K16 hK16 => wrl (sda A λa A↦?_)
      refine qa (hK16 _ _ (wp_ret (hret _ _ (en1 A rfl (qh rfl) ?_))))
      exact ⟨by rw [un (.inr (.inr (.inr (.inr (.inl (fun e => hb15' (by rw [e])))))))], M.bel⟩
     ·
      have hb15' := bne_eq_false_iff_eq.1 hb15
      refine sdc A zm hb15 λa A↦?_
      refine sdk (v := .bool false) A λa A↦?_
      refine sdm A λa A↦?_
      refine sdo (v := .pointer (some ⟨g2, 2, none⟩)) A (qb LiS_fld_30_2 rfl rfl) λa A↦?_
      refine sdo A (zg M LiS_isS_27 rfl 1 rfl (cs := [.bool t.d.y.q.b1, .slice t.d.y.o1 t.d.y.q.t1.length t.d.y.c1, .slice t.d.y.o2 t.d.y.q.q1.length t.d.y.c2, .bool t.d.y.q.b2, .slice t.d.y.o3 t.d.y.q.t2.length t.d.y.c3, .slice t.d.y.o4 t.d.y.q.q2.length t.d.y.c4]) rfl rfl) λa A↦?_
      refine sdo (v := .pointer (some ⟨g4, 2, none⟩)) A (qb LiS_fld_30_2 rfl rfl) λa A↦?_
      refine sdo A (zg M LiS_isS_27 rfl 0 rfl (cs := [.bool u.d.y.q.b1, .slice u.d.y.o1 u.d.y.q.t1.length u.d.y.c1, .slice u.d.y.o2 u.d.y.q.q1.length u.d.y.c2, .bool u.d.y.q.b2, .slice u.d.y.o3 u.d.y.q.t2.length u.d.y.c3, .slice u.d.y.o4 u.d.y.q.q2.length u.d.y.c4]) rfl rfl) λa A↦?_
      rcases tf (SQ2 t u) with hb17 | hb17
      ·
       refine gcl A M (ef rfl rfl) (qli (Dt.keep M.bel _ ht) (Dt.keep M.bel _ hu) hb17) fun w19 hb18 M a A => ?_
       refine sdo (v := .bool false) A (zk rfl zx) λa A↦?_
       refine sdk (v := .bool false) A λa A↦?_
       refine qa (hK7 _ _ (wp_cond_false (A.ev rfl) ?_))
       refine wp_skip (hK6 _ _ (wsk fun K20 hK20 => wsk fun K21 hK21 => wrl (sda A λa A↦?_)))
       refine qa (hK21 _ _ (wp_block (zw (fun m_ a w1 => ∃ (i : Nat), m_ = 1 + (t.d.rl.length - i) ∧ (i ≤ t.d.rl.length ∧ ∀ j, j < i → t.d.rl.getD j 0 = u.d.rl.getD j 0) ∧ Sl a 89 [(0, .agg (t.d.cells t.ts.length).toArray), (1, .agg (u.d.cells u.ts.length).toArray), (2, .pointer (some ⟨g2, 0, none⟩)), (3, .pointer (some ⟨g4, 0, none⟩)), (5, .int .i64 (((i : Nat) : Int))), (7, .pointer (some ⟨g2, 0, none⟩)), (8, .int .i64 t.d.k), (9, .pointer (some ⟨g4, 0, none⟩)), (10, .int .i64 u.d.k), (11, .bool false), (12, .bool false), (13, .pointer (some ⟨g2, 1, none⟩)), (14, .int .i64 t.d.n), (15, .pointer (some ⟨g4, 1, none⟩)), (16, .int .i64 u.d.n), (17, .bool false), (18, .bool false), (19, .bool false), (20, .pointer (some ⟨g2, 8, none⟩)), (21, .string t.d.s), (22, .pointer (some ⟨g4, 8, none⟩)), (23, .string u.d.s), (24, .bool false), (25, .bool false), (26, .bool false), (27, .pointer (some ⟨g2, 9, none⟩)), (28, .slice t.d.ro t.d.rl.length t.d.rc), (29, .int .i64 (((t.d.rl.length : Nat) : Int))), (30, .pointer (some ⟨g4, 9, none⟩)), (31, .slice u.d.ro u.d.rl.length u.d.rc), (32, .int .i64 (((u.d.rl.length : Nat) : Int))), (33, .bool false), (34, .bool false), (35, .bool false), (36, .pointer (some ⟨g2, 10, none⟩)), (37, .slice t.d.lo t.ts.length t.d.lc), (38, .int .i64 (((t.ts.length : Nat) : Int))), (39, .pointer (some ⟨g4, 10, none⟩)), (40, .slice u.d.lo u.ts.length u.d.lc), (41, .int .i64 (((u.ts.length : Nat) : Int))), (42, .bool false), (43, .bool false), (44, .bool false), (45, .pointer (some ⟨g2, 2, none⟩)), (46, .agg #[.bool t.d.y.q.b1, .slice t.d.y.o1 t.d.y.q.t1.length t.d.y.c1, .slice t.d.y.o2 t.d.y.q.q1.length t.d.y.c2, .bool t.d.y.q.b2, .slice t.d.y.o3 t.d.y.q.t2.length t.d.y.c3, .slice t.d.y.o4 t.d.y.q.q2.length t.d.y.c4]), (47, .pointer (some ⟨g4, 2, none⟩)), (48, .agg #[.bool u.d.y.q.b1, .slice u.d.y.o1 u.d.y.q.t1.length u.d.y.c1, .slice u.d.y.o2 u.d.y.q.q1.length u.d.y.c2, .bool u.d.y.q.b2, .slice u.d.y.o3 u.d.y.q.t2.length u.d.y.c3, .slice u.d.y.o4 u.d.y.q.q2.length u.d.y.c4]), (49, .bool true), (50, .bool false), (51, .bool false)] ∧ Mg w w1 (.obj g4 (.cells (u.d.cells u.ts.length).toArray 30) :: .obj g2 (.cells (t.d.cells t.ts.length).toArray 30) :: [])) _ ⟨0, rfl, ⟨Nat.zero_le _, fun j hj => absurd hj (Nat.not_lt_zero _)⟩, A.keep _ (by repeat' constructor), M⟩ ?_)))
       clear M A
       rintro m_ a w22 ⟨i, rfl, hinv24, A, M⟩ K23 hK23
       obtain ⟨hi0, hin8⟩ := hinv24
       refine wsk fun K25 hK25 => wsk fun K26 hK26 => wrl (sdm A λa A↦?_)
       refine sdo (v := .pointer (some ⟨g2, 9, none⟩)) A (qb LiS_fld_30_4 rfl rfl) λa A↦?_
       refine sdo A (ql M LiS_is1_28 rfl 1 rfl rfl) λa A↦?_
       refine sdo A (zf Tryz.underlying28 rfl) λa A↦?_
       rcases tf (decide (((i : Nat) : Int) < ((t.d.rl.length : Nat) : Int))) with hb27 | hb27
       ·
        have hb27' := of_decide_eq_true hb27
        refine sdc A qz hb27 λa A↦?_
        refine qa (hK26 _ _ (wp_cond_true (A.ev rfl) ?_))
        refine wp_skip (hK25 _ _ (wsk fun K28 hK28 => wp_block (wsk fun K29 hK29 => jc (S := fun w1 => Mg w w1 (.obj g4 (.cells (u.d.cells u.ts.length).toArray 30) :: .obj g2 (.cells (t.d.cells t.ts.length).toArray 30) :: [])) (by kernel_rfl) ?_)))
        replace M := M.drew
        refine qe (v := .pointer (some ⟨g2, 9, none⟩)) A 0 rfl rfl rfl rfl hP (M.sub (cc (cc (List.nil_sublist _)))) (fun w1 M => qb LiS_fld_30_4 rfl rfl) λa A↦?_
        refine qe A 1 rfl rfl rfl rfl hP (M.sub (cc (cc (List.nil_sublist _)))) (fun w1 M => ql M LiS_is1_28 rfl 1 rfl rfl) λa A↦?_
        refine qe A 2 rfl rfl rfl rfl hP (M.sub (cc (cc (List.nil_sublist _)))) (fun w1 M => qg rfl) λa A↦?_
        obtain ⟨bt, ot, ht1, ht2, ht3⟩ := zde (i := i) (Dt.okT ht).1.raw (by omega)
        refine qe (v := .pointer (some ⟨bt, ot + i, none⟩)) A 3 rfl rfl rfl rfl hP (M.sub (cc (cc (List.nil_sublist _)))) (fun w1 M => xa (k := i) Tryz.underlying28 (by kernel_rfl) rfl rfl rfl ht1 (by omega)) λa A↦?_
        refine qe A 4 rfl rfl rfl rfl hP (M.sub (cc (cc (List.nil_sublist _)))) (fun w1 M => zag M ht2 (ht3 i (by omega)) LiS_is1_5 rfl) λa A↦?_
        refine qe (v := .pointer (some ⟨g4, 9, none⟩)) A 5 rfl rfl rfl rfl hP (M.sub (cc (cc (List.nil_sublist _)))) (fun w1 M => qb LiS_fld_30_4 rfl rfl) λa A↦?_
        refine qe A 6 rfl rfl rfl rfl hP (M.sub (cc (cc (List.nil_sublist _)))) (fun w1 M => ql M LiS_is1_28 rfl 0 rfl rfl) λa A↦?_
        refine qe A 7 rfl rfl rfl rfl hP (M.sub (cc (cc (List.nil_sublist _)))) (fun w1 M => qg rfl) λa A↦?_
        obtain ⟨bu, ou, hu1, hu2, hu3⟩ := zde (i := i) (Dt.okT hu).1.raw (by omega)
        refine qe (v := .pointer (some ⟨bu, ou + i, none⟩)) A 8 rfl rfl rfl rfl hP (M.sub (cc (cc (List.nil_sublist _)))) (fun w1 M => xa (k := i) Tryz.underlying28 (by kernel_rfl) rfl rfl rfl hu1 (by omega)) λa A↦?_
        refine qe A 9 rfl rfl rfl rfl hP (M.sub (cc (cc (List.nil_sublist _)))) (fun w1 M => zag M hu2 (hu3 i (by omega)) LiS_is1_5 rfl) λa A↦?_
        rcases tf (((((t.d.rl.getD i 0).toNat : Nat) : Int) != (((u.d.rl.getD i 0).toNat : Nat) : Int))) with hb30 | hb30
        ·
         have hb30' := bne_iff_ne.1 hb30
         refine qe (v := .bool true) A 10 rfl rfl rfl rfl hP (M.sub (cc (cc (List.nil_sublist _)))) (fun w1 M => qf rfl rfl (fun w => (zm w).trans (by rw [hb30]))) λa A↦?_
         refine zb (by kernel_rfl) ?_
         refine hK29 _ _ (wp_cond_true (A.ev rfl) ?_)
         refine wsk fun K31 hK31 => wrl (sda A λa A↦?_)
         refine qa (hK31 _ _ (wp_ret (hret _ _ (en1 A rfl (qh rfl) ?_))))
         exact ⟨by rw [un (.inr (.inr (.inr (.inl (zuj hb30')))))], M.bel⟩
        ·
         have hb30' := bne_eq_false_iff_eq.1 hb30
         refine qe (v := .bool false) A 10 rfl rfl rfl rfl hP (M.sub (cc (cc (List.nil_sublist _)))) (fun w1 M => qf rfl rfl (fun w => (zm w).trans (by rw [hb30]))) λa A↦?_
         refine zb (by kernel_rfl) ?_
         refine hK29 _ _ (wp_cond_false (A.ev rfl) ?_)
         refine wp_skip (hK28 _ _ (wrl (sdm A λa A↦?_)))
         refine sdo (v := .int .i64 (((i + 1 : Nat) : Int))) A (qf rfl rfl (fun w => (xb (kd (by omega) (by omega)) w).trans (by rw [show (((i : Nat) : Int) + 1 : Int) = ((i + 1 : Nat) : Int) from by omega]))) λa A↦?_
         refine sda A λa A↦?_
         refine qa ?_
         refine hK23 _ _ _ (by omega) ⟨i + 1, rfl, ⟨by omega, fun j hj => if h9 : j < i then hin8 j h9 else by have h8 : j = i := (by omega); subst h8; exact zva hb30'⟩, A.keep _ (by repeat' constructor), M⟩
       ·
        have hb27' := of_decide_eq_false hb27
        refine sdc A qz hb27 λa A↦?_
        refine qa (hK26 _ _ (wp_cond_false (A.ev rfl) ?_))
        refine wp_exit (hK20 _ _ (wsk fun K32 hK32 => wsk fun K33 hK33 => wrl (sda A λa A↦?_)))
        refine qa (hK33 _ _ (wp_block ?_))
        have hrl : t.d.rl = u.d.rl := zhe (by omega) (fun j hj => hin8 j (by omega))
        have hsy := znj hb8' hb10' hb12' hrl (by omega) hb17
        refine zw (fun m_ a w1 => ∃ (j : Nat), m_ = 1 + (t.ts.length - j) ∧ (j ≤ t.ts.length ∧ kl (t.ts.map Dt.tr) (u.ts.map Dt.tr) = kl ((t.ts.map Dt.tr).drop j) ((u.ts.map Dt.tr).drop j)) ∧ Sl a 89 [(0, .agg (t.d.cells t.ts.length).toArray), (1, .agg (u.d.cells u.ts.length).toArray), (2, .pointer (some ⟨g2, 0, none⟩)), (3, .pointer (some ⟨g4, 0, none⟩)), (5, .int .i64 (((i : Nat) : Int))), (6, .int .i64 (((j : Nat) : Int))), (7, .pointer (some ⟨g2, 0, none⟩)), (8, .int .i64 t.d.k), (9, .pointer (some ⟨g4, 0, none⟩)), (10, .int .i64 u.d.k), (11, .bool false), (12, .bool false), (13, .pointer (some ⟨g2, 1, none⟩)), (14, .int .i64 t.d.n), (15, .pointer (some ⟨g4, 1, none⟩)), (16, .int .i64 u.d.n), (17, .bool false), (18, .bool false), (19, .bool false), (20, .pointer (some ⟨g2, 8, none⟩)), (21, .string t.d.s), (22, .pointer (some ⟨g4, 8, none⟩)), (23, .string u.d.s), (24, .bool false), (25, .bool false), (26, .bool false), (27, .pointer (some ⟨g2, 9, none⟩)), (28, .slice t.d.ro t.d.rl.length t.d.rc), (29, .int .i64 (((t.d.rl.length : Nat) : Int))), (30, .pointer (some ⟨g4, 9, none⟩)), (31, .slice u.d.ro u.d.rl.length u.d.rc), (32, .int .i64 (((u.d.rl.length : Nat) : Int))), (33, .bool false), (34, .bool false), (35, .bool false), (36, .pointer (some ⟨g2, 10, none⟩)), (37, .slice t.d.lo t.ts.length t.d.lc), (38, .int .i64 (((t.ts.length : Nat) : Int))), (39, .pointer (some ⟨g4, 10, none⟩)), (40, .slice u.d.lo u.ts.length u.d.lc), (41, .int .i64 (((u.ts.length : Nat) : Int))), (42, .bool false), (43, .bool false), (44, .bool false), (45, .pointer (some ⟨g2, 2, none⟩)), (46, .agg #[.bool t.d.y.q.b1, .slice t.d.y.o1 t.d.y.q.t1.length t.d.y.c1, .slice t.d.y.o2 t.d.y.q.q1.length t.d.y.c2, .bool t.d.y.q.b2, .slice t.d.y.o3 t.d.y.q.t2.length t.d.y.c3, .slice t.d.y.o4 t.d.y.q.q2.length t.d.y.c4]), (47, .pointer (some ⟨g4, 2, none⟩)), (48, .agg #[.bool u.d.y.q.b1, .slice u.d.y.o1 u.d.y.q.t1.length u.d.y.c1, .slice u.d.y.o2 u.d.y.q.q1.length u.d.y.c2, .bool u.d.y.q.b2, .slice u.d.y.o3 u.d.y.q.t2.length u.d.y.c3, .slice u.d.y.o4 u.d.y.q.q2.length u.d.y.c4]), (49, .bool true), (50, .bool false), (51, .bool false), (52, .int .i64 (((i : Nat) : Int))), (53, .pointer (some ⟨g2, 9, none⟩)), (54, .slice t.d.ro t.d.rl.length t.d.rc), (55, .int .i64 (((t.d.rl.length : Nat) : Int))), (56, .bool false)] ∧ Mg w w1 (.obj g4 (.cells (u.d.cells u.ts.length).toArray 30) :: .obj g2 (.cells (t.d.cells t.ts.length).toArray 30) :: [])) _ ⟨0, rfl, ⟨Nat.zero_le _, rfl⟩, A.keep _ (by repeat' constructor), M⟩ ?_
        clear M A
        rintro m_ a w34 ⟨j, rfl, hinv36, A, M⟩ K35 hK35
        obtain ⟨hi1, hin9⟩ := hinv36
        refine wsk fun K37 hK37 => wsk fun K38 hK38 => wrl (sdm A λa A↦?_)
        refine sdo (v := .pointer (some ⟨g2, 10, none⟩)) A (qb LiS_fld_30_5 rfl rfl) λa A↦?_
        refine sdo A (ql M LiS_is1_22 rfl 1 rfl rfl) λa A↦?_
        refine sdo A (zf Tryz.underlying22 rfl) λa A↦?_
        rcases tf (decide (((j : Nat) : Int) < ((t.ts.length : Nat) : Int))) with hb39 | hb39
        ·
         have hb39' := of_decide_eq_true hb39
         refine sdc A qz hb39 λa A↦?_
         refine qa (hK38 _ _ (wp_cond_true (A.ev rfl) ?_))
         refine wp_skip (hK37 _ _ (wsk fun K40 hK40 => wp_block (wsk fun K41 hK41 => ?_)))
         obtain ⟨t1, bt1, ot1, it1, mt1, rt1_, lt1, Ht1⟩ := qhd ht (i := j) (by omega)
         obtain ⟨u1, bu1, ou1, iu1, mu1, ru1_, lu1, Hu1⟩ := qhd hu (i := j) (by omega)
         refine jc (S := fun w1 => Mg w w1 (.obj g4 (.cells (u.d.cells u.ts.length).toArray 30) :: .obj g2 (.cells (t.d.cells t.ts.length).toArray 30) :: [])) (by kernel_rfl) ?_
         replace M := M.drew
         refine qe (v := .pointer (some ⟨g2, 10, none⟩)) A 0 rfl rfl rfl rfl hP (M.sub (cc (cc (List.nil_sublist _)))) (fun w1 M => qb LiS_fld_30_5 rfl rfl) λa A↦?_
         refine qe A 1 rfl rfl rfl rfl hP (M.sub (cc (cc (List.nil_sublist _)))) (fun w1 M => ql M LiS_is1_22 rfl 1 rfl rfl) λa A↦?_
         refine qe A 2 rfl rfl rfl rfl hP (M.sub (cc (cc (List.nil_sublist _)))) (fun w1 M => qg rfl) λa A↦?_
         refine qe (v := .pointer (some ⟨bt1, ot1 + j * 11, none⟩)) A 3 rfl rfl rfl rfl hP (M.sub (cc (cc (List.nil_sublist _)))) (fun w1 M => zl (k := j) Tryz.underlying22 (by kernel_rfl) rfl rfl rfl lt1 (by omega)) λa A↦?_
         refine qe A 4 rfl rfl rfl rfl hP (M.sub (cc (cc (List.nil_sublist _)))) (fun w1 M => jd M Ht1 LiS_isS_30 rfl rfl) λa A↦?_
         refine qe (v := .pointer (some ⟨g4, 10, none⟩)) A 5 rfl rfl rfl rfl hP (M.sub (cc (cc (List.nil_sublist _)))) (fun w1 M => qb LiS_fld_30_5 rfl rfl) λa A↦?_
         refine qe A 6 rfl rfl rfl rfl hP (M.sub (cc (cc (List.nil_sublist _)))) (fun w1 M => ql M LiS_is1_22 rfl 0 rfl rfl) λa A↦?_
         refine qe A 7 rfl rfl rfl rfl hP (M.sub (cc (cc (List.nil_sublist _)))) (fun w1 M => qg rfl) λa A↦?_
         refine qe (v := .pointer (some ⟨bu1, ou1 + j * 11, none⟩)) A 8 rfl rfl rfl rfl hP (M.sub (cc (cc (List.nil_sublist _)))) (fun w1 M => zl (k := j) Tryz.underlying22 (by kernel_rfl) rfl rfl rfl lu1 (by omega)) λa A↦?_
         refine qe A 9 rfl rfl rfl rfl hP (M.sub (cc (cc (List.nil_sublist _)))) (fun w1 M => jd M Hu1 LiS_isS_30 rfl rfl) λa A↦?_
         rcases tf (uq t1.tr u1.tr) with hb42 | hb42
         ·
          refine qi (by kernel_rfl) (za A 10 rfl rfl rfl rfl (qj rfl rfl (fun w => by kernel_rfl)) ((hb42 ▸ ih (by have := qgg mt1; omega) (Dt.keep M.bel _ rt1_) (Dt.keep M.bel _ ru1_))) ?_)
          rintro _ w44 ⟨rfl, hb43⟩
          replace M := M.call hb43
          refine ⟨_, rfl, (M.sub (cc (cc (List.nil_sublist _)))), ?_⟩
          intro a A
          refine qe (v := .bool false) A 11 rfl rfl rfl rfl hP (M.sub (cc (cc (List.nil_sublist _)))) (fun w1 M => zk rfl zx) λa A↦?_
          refine zb (by kernel_rfl) ?_
          refine hK41 _ _ (wp_cond_false (A.ev rfl) ?_)
          refine wp_skip (hK40 _ _ (wrl (sdm A λa A↦?_)))
          refine sdo (v := .int .i64 (((j + 1 : Nat) : Int))) A (qf rfl rfl (fun w => (xb (kd (by omega) (by omega)) w).trans (by rw [show (((j : Nat) : Int) + 1 : Int) = ((j + 1 : Nat) : Int) from by omega]))) λa A↦?_
          refine sda A λa A↦?_
          refine qa ?_
          refine hK35 _ _ _ (by omega) ⟨j + 1, rfl, ⟨by omega, by rw [hin9, qwe it1 iu1, hb42, Bool.true_and]⟩, A.keep _ (by repeat' constructor), M⟩
         ·
          refine qi (by kernel_rfl) (za A 10 rfl rfl rfl rfl (qj rfl rfl (fun w => by kernel_rfl)) ((hb42 ▸ ih (by have := qgg mt1; omega) (Dt.keep M.bel _ rt1_) (Dt.keep M.bel _ ru1_))) ?_)
          rintro _ w46 ⟨rfl, hb45⟩
          replace M := M.call hb45
          refine ⟨_, rfl, (M.sub (cc (cc (List.nil_sublist _)))), ?_⟩
          intro a A
          refine qe (v := .bool true) A 11 rfl rfl rfl rfl hP (M.sub (cc (cc (List.nil_sublist _)))) (fun w1 M => zk rfl zx) λa A↦?_
          refine zb (by kernel_rfl) ?_
          refine hK41 _ _ (wp_cond_true (A.ev rfl) ?_)
          refine wsk fun K47 hK47 => wrl (sda A λa A↦?_)
          refine qa (hK47 _ _ (wp_ret (hret _ _ (en1 A rfl (qh rfl) ?_))))
          exact ⟨by rw [hsy, hin9, qwe it1 iu1, hb42]; rfl, M.bel⟩
        ·
         have hb39' := of_decide_eq_false hb39
         refine sdc A qz hb39 λa A↦?_
         refine qa (hK38 _ _ (wp_cond_false (A.ev rfl) ?_))
         refine wp_exit (hK32 _ _ (wsk fun K48 hK48 => wrl (sda A λa A↦?_)))
         refine qa (hK48 _ _ (wp_ret (hret _ _ (en1 A rfl (qh rfl) ?_))))
         exact ⟨by rw [hsy, hin9, zhd (by omega)], M.bel⟩
      ·
       refine gcl A M (ef rfl rfl) (qli (Dt.keep M.bel _ ht) (Dt.keep M.bel _ hu) hb17) fun w50 hb49 M a A => ?_
       refine sdo (v := .bool true) A (zk rfl zx) λa A↦?_
       refine sdk (v := .bool true) A λa A↦?_
       refine qa (hK7 _ _ (wp_cond_true (A.ev rfl) ?_))
       refine wsk fun K51 hK51 => wrl (sda A λa A↦?_)
       refine qa (hK51 _ _ (wp_ret (hret _ _ (en1 A rfl (qh rfl) ?_))))
       exact ⟨by rw [un (.inr (.inr (.inr (.inr (.inr hb17)))))], M.bel⟩
   ·
    have hb12' := of_decide_eq_false hb12
    refine sdo (v := .bool true) A (qf rfl rfl (fun w => (qse Tryz.underlying9 w).trans (by rw [hb12] <;> rfl))) λa A↦?_
    refine sdk (v := .bool true) A λa A↦?_
    refine sdm A λa A↦?_
    iterate 7 refine qx A rfl rfl rfl λa A↦?_
    refine sdk (v := .bool true) A λa A↦?_
    refine sdm A λa A↦?_
    iterate 7 refine qx A rfl rfl rfl λa A↦?_
    refine sdk (v := .bool true) A λa A↦?_
    refine sdm A λa A↦?_
    iterate 6 refine qx A rfl rfl rfl λa A↦?_
    refine sdk (v := .bool true) A λa A↦?_
    refine qa (hK7 _ _ (wp_cond_true (A.ev rfl) ?_))
    refine wsk fun K52 hK52 => wrl (sda A λa A↦?_)
    refine qa (hK52 _ _ (wp_ret (hret _ _ (en1 A rfl (qh rfl) ?_))))
    exact ⟨by rw [un (.inr (.inr (.inl hb12')))], M.bel⟩
theorem qdf : ∀ n, RSames n
 | 0 => fun h => absurd h (Nat.not_lt_zero _)
 | n + 1 => qwg (qdf n)
theorem LiJ_is1_22 : Is1 Tryz.prog 22 := ⟨⟨_, Tryz.underlying22, rfl⟩, by kernel_rfl⟩
theorem LiJ_is1_3 : Is1 Tryz.prog 3 := ⟨⟨_, Tryz.underlying3, rfl⟩, by kernel_rfl⟩
theorem LiJ_fld_30_0 : FieldAt Tryz.prog 30 0 0 := ⟨_, _, Tryz.underlying30, rfl, rfl, by kernel_rfl⟩
theorem LiJ_fld_30_5 : FieldAt Tryz.prog 30 5 10 := ⟨_, _, Tryz.underlying30, rfl, rfl, by kernel_rfl⟩
theorem LiJ_isS_30 : IsS Tryz.prog 30 11 := ⟨⟨_, Tryz.underlying30⟩, by kernel_rfl⟩
theorem qge {w : World} (hT : Tabs8 w) : Calls Tryz.prog 15 #[] w fun e w' => e = .returned (.bool true) ∧ Below w.heap.size w w' := by
 have M : Mg w w ([]) := Mg.start w
 refine qm (l := []) Tryz.func15 rfl Tryz.ntmps15 rfl rfl ?_
 intro Q hret hnorm hP a A
 refine wsk fun K1 hK1 => wrl (sda A λa A↦?_)
 refine qa (hK1 _ _ (wsk fun K2 hK2 => wrl (sdo (v := .agg #[.int .i64 2, .int .i64 0, .bool false, .slice none 0 0, .slice none 0 0, .bool false, .slice none 0 0, .slice none 0 0, .string (⟨#[]⟩), .slice none 0 0, .slice none 0 0]) A (zv rfl (fun w => by kernel_rfl)) λa A↦?_)))
 refine sdo (v := .agg #[.int .i64 10, .int .i64 0, .bool false, .slice none 0 0, .slice none 0 0, .bool false, .slice none 0 0, .slice none 0 0, .string (⟨#[]⟩), .slice none 0 0, .slice none 0 0]) A (zv rfl (fun w => by kernel_rfl)) λa A↦?_
 refine qxf (e := 30) (sz := 11) (m := 2) (vs := cellsOf [ve 2, ve 10]) A M rfl rfl rfl (jv rfl (by kernel_rfl)) rfl rfl (.inl (by decide)) ?_
 intro g3 w4 M a A
 refine sct A (ef rfl rfl) (of_any (ts := [ve 2, ve 10]) (qab (M.has 0 rfl)).1 (zmg _) (by decide) (hT.below M.bel)) ?_
 rintro _ w6 ⟨x, rfl, ⟨hrx, -, htx⟩, hb5⟩
 have hbx := zdd [(ve 2).tr, (ve 10).tr]
 have hbx9 : Tr.bulks [(ve 2).tr, (ve 10).tr] = 2 := by rfl
 replace M := M.call hb5
 refine ⟨_, rfl, ?_⟩
 intro a A
 have hB1 := M.bel
 replace hT := hT.below M.bel
 replace M : Mg w6 w6 [] := Mg.start w6
 refine ja (vs := (qr.d.cells qr.ts.length)) (t := 30) A M rfl rfl rfl pg (qk (z := .agg (qr.d.cells qr.ts.length).toArray) (by kernel_rfl) rfl) (by decide) ?_
 intro g7 w8 M a A
 refine zu (us := (x.d.cells x.ts.length)) (L' := (.obj g7 (.cells (x.d.cells x.ts.length).toArray 30) :: [])) A M rfl rfl (ze rfl rfl rfl (by kernel_rfl) M 0 rfl rfl rfl) 0 rfl rfl rfl ?_
 intro w9 M
 refine qa (hK2 _ _ (wsk fun K10 hK10 => wrl (sdo A (zg M LiJ_isS_30 rfl 0 rfl (cs := (x.d.cells x.ts.length)) rfl rfl) λa A↦?_)))
 refine sct A (ef rfl rfl) (qah (t := x) (Dt.keep M.bel _ hrx) (by have h9 : x.tr.bulk ≤ 6 := (by rw [htx]; show (ofS [(ve 2).tr, (ve 10).tr]).bulk ≤ 6; omega); omega) (hT.below M.bel)) ?_
 rintro _ w12 ⟨r, kr, rfl, ⟨hrr, -, htr⟩, hb11⟩
 replace M := M.call hb11
 refine ⟨_, rfl, ?_⟩
 intro a A
 have hB2 := hB1.trans (M.bel.mono hB1.size)
 replace hT := hT.below M.bel
 replace hrx := Dt.keep M.bel _ hrx
 have hHg7 := M.here 0 (cs := (x.d.cells x.ts.length)) rfl
 replace M : Mg w12 w12 [] := Mg.start w12
 refine sdm A λa A↦?_
 iterate 2 refine sdo A (zj (vs := [.agg (r.d.cells r.ts.length).toArray, .int .i64 kr]) rfl rfl) λa A↦?_
 refine ja (vs := (qr.d.cells qr.ts.length)) (t := 30) A M rfl rfl rfl pg (qk (z := .agg (qr.d.cells qr.ts.length).toArray) (by kernel_rfl) rfl) (by decide) ?_
 intro g13 w14 M a A
 refine zu (us := (r.d.cells r.ts.length)) (L' := (.obj g13 (.cells (r.d.cells r.ts.length).toArray 30) :: [])) A M rfl rfl (ze rfl rfl rfl (by kernel_rfl) M 0 rfl rfl rfl) 0 rfl rfl rfl ?_
 intro w15 M
 refine sda A λa A↦?_
 refine qa (hK10 _ _ (wsk fun K16 hK16 => ?_))
 have e9 : (r.tr, kr) = (zn [(ve 10).tr, (ve 2).tr] nilT, 0) := htr.trans (by rw [htx]; exact zmf)
 obtain ⟨f1, f2, f3⟩ := zgj (congrArg Prod.fst e9)
 have f4 : kr = 0 := congrArg Prod.snd e9
 obtain ⟨r0, br0, or0, ir0, mr0, rr0_, lr0, Hr0⟩ := qhd hrr (i := 0) (by omega)
 have f5 : r0.d.k = 10 := by rw [← zqb, f3 _ ir0]; rfl
 refine wrl (sdm A λa A↦?_)
 refine sdo (v := .bool true) A (qf rfl rfl (fun w => (qp w).trans (by rw [show ((kr == 0)) = true from (beq_iff_eq.2 f4)]))) λa A↦?_
 refine sdm A λa A↦?_
 refine sdo (v := .pointer (some ⟨g13, 0, none⟩)) A (qb LiJ_fld_30_0 rfl rfl) λa A↦?_
 refine sdo A (ql M LiJ_is1_3 rfl 0 rfl rfl) λa A↦?_
 refine sdo (v := .bool true) A (qf rfl rfl (fun w => (qp w).trans (by rw [show ((r.d.k == 8)) = true from (beq_iff_eq.2 f1)]))) λa A↦?_
 refine sdk (v := .bool true) A λa A↦?_
 refine sdm A λa A↦?_
 refine sdo (v := .pointer (some ⟨g13, 10, none⟩)) A (qb LiJ_fld_30_5 rfl rfl) λa A↦?_
 refine sdo A (ql M LiJ_is1_22 rfl 0 rfl rfl) λa A↦?_
 refine sdo A (zf Tryz.underlying22 rfl) λa A↦?_
 refine sdo (v := .bool true) A (qf rfl rfl (fun w => (qp w).trans (by rw [show ((((r.ts.length : Nat) : Int) == 2)) = true from (beq_iff_eq.2 (by omega))]))) λa A↦?_
 refine sdk (v := .bool true) A λa A↦?_
 refine sdm A λa A↦?_
 refine sdo (v := .pointer (some ⟨g13, 10, none⟩)) A (qb LiJ_fld_30_5 rfl rfl) λa A↦?_
 refine sdo A (ql M LiJ_is1_22 rfl 0 rfl rfl) λa A↦?_
 refine sdo (v := .pointer (some ⟨br0, or0 + 0 * 11, none⟩)) A (zl (k := 0) Tryz.underlying22 (by kernel_rfl) rfl rfl rfl lr0 (by omega)) λa A↦?_
 refine sdo (v := .pointer (some ⟨br0, or0 + 0 * 11, none⟩)) A (qb LiJ_fld_30_0 rfl rfl) λa A↦?_
 refine sdo A (qbb (j := 0) M Hr0 LiJ_is1_3 rfl rfl rfl) λa A↦?_
 refine sdo (v := .bool true) A (qf rfl rfl (fun w => (qp w).trans (by rw [show ((r0.d.k == 10)) = true from (beq_iff_eq.2 f5)]))) λa A↦?_
 refine sdk (v := .bool true) A λa A↦?_
 refine sda A λa A↦?_
 refine qa (hK16 _ _ (wp_ret (hret _ _ (en1 A rfl (qh rfl) ?_))))
 exact ⟨rfl, hB2.trans (M.bel.mono hB2.size)⟩


theorem LiO_isS_30 : IsS Tryz.prog 30 11 := ⟨⟨_, Tryz.underlying30⟩, by kernel_rfl⟩
theorem zhf {w : World} {t : Dt} (ht : t.rd w) (hb : t.tr.bulk ≤ 300000000) (hT : Tabs8 w) : Calls Tryz.prog 7 #[.agg (t.d.cells t.ts.length).toArray] w fun e w' => ∃ so' ca' ys k, e = .returned (.tuple #[.slice so' (ys : List Dt).length ca', .int .i64 k]) ∧ ((ys.map Dt.tr, k) = qkj t.tr ∧ Rt w' so' ys ∧ (∀ x ∈ ys, x.rd w')) ∧ Below w.heap.size w w' := by
 have M : Mg w w ([]) := Mg.start w
 refine qm (l := [(0, .agg (t.d.cells t.ts.length).toArray)]) Tryz.func7 rfl Tryz.ntmps7 rfl rfl ?_
 intro Q hret hnorm hP a A
 refine wsk fun K1 hK1 => wrl (ja (vs := (t.d.cells t.ts.length)) (t := 30) A M rfl rfl rfl pg (qs rfl rfl) (by decide) ?_)
 intro g2 w3 M a A
 iterate 2 refine sda A λa A↦?_
 refine qa (hK1 _ _ (wsk fun K4 hK4 => wrl (sdo A (zg M LiO_isS_30 rfl 0 rfl (cs := (t.d.cells t.ts.length)) rfl rfl) λa A↦?_)))
 rcases tf (zd qn t.tr) with hb5 | hb5
 ·
  rcases tf ((jp t.tr).isSome) with hb7 | hb7
  ·
   refine sct A (ef rfl rfl) (qdd M.bel ht (by omega) (hT.below M.bel) hb5 hb7) ?_
   rintro _ w9 ⟨so7, ca7, ys, rfl, ⟨hy1, hy2, hy3⟩, hM7⟩
   have hyb := ym hy1
   replace M : Mg w w9 (.row 30 11 (.slice so7 ys.length ca7) ys.length (cellsOf ys) :: .obj g2 (.cells (t.d.cells t.ts.length).toArray 30) :: []) := (M.both hM7 (jj (by simp) (jg jn)) (jj (by simp) (jg jn)))
   refine ⟨_, rfl, ?_⟩
   intro a A
   refine sdm A λa A↦?_
   iterate 2 refine sdo A (zj (vs := [.slice so7 ys.length ca7, .int .i64 0]) rfl rfl) λa A↦?_
   iterate 2 refine sda A λa A↦?_
   refine qa (hK4 _ _ (wsk fun K10 hK10 => wsk fun K11 hK11 => wrl (sdm A λa A↦?_)))
   refine sdo (v := .bool false) A (qf rfl rfl (fun w => by kernel_rfl)) λa A↦?_
   refine qa (hK11 _ _ (wp_cond_false (A.ev rfl) ?_))
   refine wp_skip (hK10 _ _ (wsk fun K12 hK12 => wrl (sdm A λa A↦?_)))
   refine sct A (ef rfl rfl) (qnd (fun t _ => qch t) (qab (M.has 0 rfl)).1 (fun t ht => Dt.keep M.bel _ (hy2 t ht)) (by omega)) ?_
   rintro _ w13 ⟨v8, us, rfl, ⟨hu1, hu2⟩, hM8⟩
   obtain ⟨so8, ca8, rfl⟩ := qeh (hM8.has 0 rfl)
   have hR8 := (qab (hM8.has 0 rfl)).1
   replace M := M.call hM8.bel
   refine ⟨_, rfl, ?_⟩
   intro a A
   iterate 2 refine sda A λa A↦?_
   refine qa (hK12 _ _ (wp_ret (hret _ _ (en2 A rfl (qh rfl) (qh rfl) ?_))))
   exact ⟨so8, ca8, us, 0, rfl, ⟨by rw [qla hb5 hy1, hu1], hR8, fun x hx => (hu2 x hx).1⟩, M.bel⟩
  ·
   refine gcl A M (ef rfl rfl) (qkh M.bel ht (by omega) (hT.below M.bel) hb5 hb7) fun w15 hb14 M a A => ?_
   refine sdm A λa A↦?_
   iterate 2 refine sdo A (zj (vs := [.slice none 0 0, .int .i64 10]) rfl rfl) λa A↦?_
   iterate 2 refine sda A λa A↦?_
   refine qa (hK4 _ _ (wsk fun K16 hK16 => wsk fun K17 hK17 => wrl (sdm A λa A↦?_)))
   refine sdo (v := .bool true) A (qf rfl rfl (fun w => by kernel_rfl)) λa A↦?_
   refine qa (hK17 _ _ (wp_cond_true (A.ev rfl) ?_))
   refine wsk fun K18 hK18 => wrl (sdm A λa A↦?_)
   iterate 2 refine sda A λa A↦?_
   refine qa (hK18 _ _ (wp_ret (hret _ _ (en2 A rfl (qh rfl) (qh rfl) ?_))))
   exact ⟨none, 0, [], 10, rfl, ⟨(qzh hb5 (zdc hb7)).symm, (fun h => absurd rfl h), (fun x h => by cases h)⟩, M.bel⟩
 ·
  refine gcl A M (ef rfl rfl) (qgb M.bel ht (by omega) (hT.below M.bel) hb5) fun w20 hb19 M a A => ?_
  refine sdm A λa A↦?_
  iterate 2 refine sdo A (zj (vs := [.slice none 0 0, .int .i64 2]) rfl rfl) λa A↦?_
  iterate 2 refine sda A λa A↦?_
  refine qa (hK4 _ _ (wsk fun K21 hK21 => wsk fun K22 hK22 => wrl (sdm A λa A↦?_)))
  refine sdo (v := .bool true) A (qf rfl rfl (fun w => by kernel_rfl)) λa A↦?_
  refine qa (hK22 _ _ (wp_cond_true (A.ev rfl) ?_))
  refine wsk fun K23 hK23 => wrl (sdm A λa A↦?_)
  iterate 2 refine sda A λa A↦?_
  refine qa (hK23 _ _ (wp_ret (hret _ _ (en2 A rfl (qh rfl) (qh rfl) ?_))))
  exact ⟨none, 0, [], 2, rfl, ⟨(zgi hb5).symm, (fun h => absurd rfl h), (fun x h => by cases h)⟩, M.bel⟩
theorem LiQ_is1_3 : Is1 Tryz.prog 3 := ⟨⟨_, Tryz.underlying3, rfl⟩, by kernel_rfl⟩
theorem LiQ_fld_30_0 : FieldAt Tryz.prog 30 0 0 := ⟨_, _, Tryz.underlying30, rfl, rfl, by kernel_rfl⟩
theorem LiQ_isS_30 : IsS Tryz.prog 30 11 := ⟨⟨_, Tryz.underlying30⟩, by kernel_rfl⟩
theorem zoa {w : World} {t : Dt} (ht : t.rd w) (hb : t.tr.bulk ≤ 300000000) (hT : Tabs8 w) (hs : zd qn t.tr = false) : Calls Tryz.prog 26 #[.agg (t.d.cells t.ts.length).toArray] w fun e w' => ∃ (t2 : Dt) (k : Int), e = .returned (.tuple #[.agg (t2.d.cells t2.ts.length).toArray, .int .i64 k]) ∧ (t2.rd w' ∧ t2.at_ (w.heap.size ≤ ·) ∧ (t2.tr, k) = (kz, 2)) ∧ Below w.heap.size w w' := by
 have M : Mg w w ([]) := Mg.start w
 refine qm (l := [(0, .agg (t.d.cells t.ts.length).toArray)]) Tryz.func26 rfl Tryz.ntmps26 rfl rfl ?_
 intro Q hret hnorm hP a H
 refine wsk fun K1 hK1 => wrl (ja (vs := (t.d.cells t.ts.length)) (t := 30) H M rfl rfl rfl pg (qs rfl rfl) (by decide) ?_)
 intro g2 w3 M a H
 refine ja (vs := (qr.d.cells qr.ts.length)) (t := 30) H M rfl rfl rfl pg (qk (z := .agg (qr.d.cells qr.ts.length).toArray) (by kernel_rfl) rfl) (by decide) ?_
 intro g4 w5 M a H
 refine sda H λa H↦?_
 refine qa (hK1 _ _ (wsk fun K6 hK6 => wrl (sdo H (zg M LiQ_isS_30 rfl 1 rfl (cs := (t.d.cells t.ts.length)) rfl rfl) λa H↦?_)))
 refine gcl H M (ef rfl rfl) (qgb M.bel ht (by omega) (hT.below M.bel) hs) fun w8 hb7 M a H => ?_
 refine sdm H λa H↦?_
 iterate 2 refine sdo H (zj (vs := [.slice none 0 0, .int .i64 2]) rfl rfl) λa H↦?_
 iterate 2 refine sda H λa H↦?_
 refine qa (hK6 _ _ (wsk fun K9 hK9 => wsk fun K10 hK10 => wrl (sdm H λa H↦?_)))
 refine sdo (v := .bool true) H (qf rfl rfl (fun w => by kernel_rfl)) λa H↦?_
 refine qa (hK10 _ _ (wp_cond_true (H.ev rfl) ?_))
 refine wsk fun K11 hK11 => wrl (sdo (v := .agg (qr.d.cells qr.ts.length).toArray) H (zv rfl (fun w => by kernel_rfl)) λa H↦?_)
 refine sdm H λa H↦?_
 refine zu (us := (qr.d.cells qr.ts.length)) (L' := (.obj g4 (.cells (qr.d.cells qr.ts.length).toArray 30) :: .obj g2 (.cells (t.d.cells t.ts.length).toArray 30) :: [])) H M rfl rfl (ze rfl rfl rfl (by kernel_rfl) M 0 rfl rfl rfl) 0 rfl rfl rfl ?_
 intro w12 M
 refine sda H λa H↦?_
 refine qa (hK11 _ _ (wp_ret (hret _ _ (en2 H rfl (jr M LiQ_isS_30 rfl 0 rfl (cs := [.int .i64 0, .int .i64 0, .bool false, .slice none 0 0, .slice none 0 0, .bool false, .slice none 0 0, .slice none 0 0, .string (⟨#[]⟩), .slice none 0 0, .slice none 0 0]) rfl rfl) (qh rfl) ?_))))
 exact ⟨qr, 2, rfl, ⟨qad _, qae _, by rw [qac]⟩, M.bel⟩
theorem qwh {xs ys : List Tr} (h : xs.Perm ys) : ju xs = ju ys := by
 induction h with
 | nil => rfl
 | cons x _ ih => rw [ju, ju, ih]
 | swap x y l => rw [ju, ju, ju, ju]; omega
 | trans _ _ h1 h2 => rw [h1, h2]
theorem qwi {A B : List Tr} (h : A.Perm B) (H : OkL A) : OkL B := H.of (fun x hx => h.mem_iff.2 hx) (by rw [qwh h, h.length_eq]; exact Nat.le_refl _)
theorem zdh {l : List Dt} {y : Tr} {j c : Nat} {t : Dt} (h : l[j]? = some t) (hm : c = (l.take j).countP fun z => ur z.tr y) (e : ur t.tr y = true) : c + 1 = (l.take (j + 1)).countP fun z => ur z.tr y := by
 rw [List.take_add_one, h, List.countP_append, ← hm]
 show c + 1 = c + List.countP _ [t]
 rw [List.countP_cons_of_pos (by exact e)]
 rfl
theorem zob {l : List Dt} {y : Tr} {j c : Nat} {t : Dt} (h : l[j]? = some t) (hm : c = (l.take j).countP fun z => ur z.tr y) (e : ur t.tr y = false) : c = (l.take (j + 1)).countP fun z => ur z.tr y := by
 rw [List.take_add_one, h, List.countP_append, ← hm]
 show c = c + List.countP _ [t]
 rw [List.countP_cons_of_neg (by rw [e]; decide)]
 rfl
theorem qrh (l : List Dt) (p : Dt → Bool) (j : Nat) : (l.take j).countP p ≤ l.length := Nat.le_trans List.countP_le_length (by rw [List.length_take]; omega)
theorem zrh {l m : List Dt} {y : Tr} {j c e : Nat} (h : l.map Dt.tr = zp ltO (m.map Dt.tr)) (hl : l.length = m.length) (hj : l.length ≤ j) (h1 : c = (l.take j).countP fun z => ur z.tr y) (h2 : e = (m.take j).countP fun z => ur z.tr y) : c = e := by
 rw [List.take_of_length_le hj] at h1
 rw [List.take_of_length_le (by omega)] at h2
 have h3 := qvh (lt := ltO) (fun z => ur z y) (m.map Dt.tr)
 rw [← h, List.countP_map, List.countP_map] at h3
 rw [h1, h2]
 exact h3
theorem zae {l : List Dt} {X : List Tr} {i j : Nat} {t u : Dt} (h : l.map Dt.tr = zp ltO X) (hX : ∀ z ∈ X, zd qn z = true) (hi : l[i]? = some t) (hj : l[j]? = some u) (he : i + 1 = j) : ¬ 0 < qtc t.tr u.tr := by
 subst he
 have h1 : (zp ltO X)[i]? = some t.tr := by rw [← h, List.getElem?_map, hi]; rfl
 have h2 : (zp ltO X)[i + 1]? = some u.tr := by rw [← h, List.getElem?_map, hj]; rfl
 have h3 := of_decide_eq_false (zrf (kg qih X) h1 h2)
 have m1 := hX _ ((jw X).mem_iff.1 (List.mem_of_getElem? h1))
 have m2 := hX _ ((jw X).mem_iff.1 (List.mem_of_getElem? h2))
 rw [zbf m1 m2]
 have := yw t.tr u.tr
 omega
theorem zti {w : World} {t : Dt} (hk0 : t.d.k = 0) : Calls Tryz.prog 73 #[.agg (t.d.cells t.ts.length).toArray] w fun e w' => e = .returned (.bool false) ∧ Below w.heap.size w w' := by
 have M : Mg w w ([]) := Mg.start w
 refine qm (l := [(0, .agg (t.d.cells t.ts.length).toArray)]) Tryz.func73 rfl Tryz.ntmps73 rfl rfl ?_
 intro Q hret hnorm hP a H
 refine wsk fun K1 hK1 => wrl (ja (vs := (t.d.cells t.ts.length)) (t := 30) H M rfl rfl rfl pg (qs rfl rfl) (by decide) ?_)
 intro g2 w3 M a H
 refine sda H λa H↦?_
 refine qa (hK1 _ _ (wsk fun K4 hK4 => wsk fun K5 hK5 => wrl (sdo (v := .pointer (some ⟨g2, 0, none⟩)) H (qb LiQ_fld_30_0 rfl rfl) λa H↦?_)))
 refine sdo H (ql M LiQ_is1_3 rfl 0 rfl rfl) λa H↦?_
 refine sdo (v := .bool true) H (qf rfl rfl (fun w => (qz w).trans (by rw [show (decide (t.d.k < 1)) = true from (decide_eq_true (by omega))]))) λa H↦?_
 refine sdm H λa H↦?_
 iterate 3 refine qx H rfl rfl rfl λa H↦?_
 refine sdk (v := .bool true) H λa H↦?_
 refine sdm H λa H↦?_
 iterate 4 refine qx H rfl rfl rfl λa H↦?_
 refine sdk (v := .bool true) H λa H↦?_
 refine qa (hK5 _ _ (wp_cond_true (H.ev rfl) ?_))
 refine wsk fun K6 hK6 => wrl (sda H λa H↦?_)
 refine qa (hK6 _ _ (wp_ret (hret _ _ (en1 H rfl (qh rfl) ?_))))
 exact ⟨rfl, M.bel⟩
theorem ztj {w : World} {t : Dt} (hk0 : t.d.k = 0) : Calls Tryz.prog 55 #[.agg (t.d.cells t.ts.length).toArray, .int .i64 1, .int .i64 20000] w fun e w' => e = .returned (.int .i64 (-1)) ∧ Below w.heap.size w w' := by
 have M : Mg w w ([]) := Mg.start w
 refine qm (l := [(0, .agg (t.d.cells t.ts.length).toArray), (1, .int .i64 1), (2, .int .i64 20000)]) Tryz.func55 rfl Tryz.ntmps55 rfl rfl ?_
 intro Q hret hnorm hP a H
 refine wsk fun K1 hK1 => wrl (ja (vs := (t.d.cells t.ts.length)) (t := 30) H M rfl rfl rfl pg (qs rfl rfl) (by decide) ?_)
 intro g2 w3 M a H
 refine sda H λa H↦?_
 refine qa (hK1 _ _ (wsk fun K4 hK4 => wsk fun K5 hK5 => wrl (sdm H λa H↦?_)))
 refine sdo (v := .bool false) H (qf rfl rfl (fun w => by kernel_rfl)) λa H↦?_
 iterate 2 refine sdm H λa H↦?_
 refine sdo (v := .bool false) H (qf rfl rfl (fun w => by kernel_rfl)) λa H↦?_
 refine sdk (v := .bool false) H λa H↦?_
 refine sdm H λa H↦?_
 refine sdo H (zg M LiQ_isS_30 rfl 0 rfl (cs := (t.d.cells t.ts.length)) rfl rfl) λa H↦?_
 refine gcl H M (ef rfl rfl) (zti hk0) fun w7 hb6 M a H => ?_
 refine sdo (v := .bool true) H (zk rfl zx) λa H↦?_
 refine sdk (v := .bool true) H λa H↦?_
 refine qa (hK5 _ _ (wp_cond_true (H.ev rfl) ?_))
 refine wsk fun K8 hK8 => wrl (sda H λa H↦?_)
 refine qa (hK8 _ _ (wp_ret (hret _ _ (en1 H rfl (qh rfl) ?_))))
 exact ⟨rfl, M.bel⟩
theorem zua {w : World} {t : Dt} (hk0 : t.d.k = 0) : Calls Tryz.prog 27 #[.agg (t.d.cells t.ts.length).toArray] w fun e w' => e = .returned (.bool false) ∧ Below w.heap.size w w' := by
 have M : Mg w w ([]) := Mg.start w
 refine qm (l := [(0, .agg (t.d.cells t.ts.length).toArray)]) Tryz.func27 rfl Tryz.ntmps27 rfl rfl ?_
 intro Q hret hnorm hP a H
 refine wsk fun K1 hK1 => wrl (ja (vs := (t.d.cells t.ts.length)) (t := 30) H M rfl rfl rfl pg (qs rfl rfl) (by decide) ?_)
 intro g2 w3 M a H
 refine sda H λa H↦?_
 refine qa (hK1 _ _ (wsk fun K4 hK4 => wrl (sdo H (zg M LiQ_isS_30 rfl 0 rfl (cs := (t.d.cells t.ts.length)) rfl rfl) λa H↦?_)))
 refine gcl H M (ef rfl rfl) (ztj hk0) fun w6 hb5 M a H => ?_
 refine sdo (v := .bool false) H (qf rfl rfl (fun w => (yh w).trans (by rw [show (decide (0 ≤ (-1))) = false from (decide_eq_false (by omega))]))) λa H↦?_
 refine sda H λa H↦?_
 refine qa (hK4 _ _ (wp_ret (hret _ _ (en1 H rfl (qh rfl) ?_))))
 exact ⟨rfl, M.bel⟩
theorem zub {A : List Tr} {t : Dt} (ht : t.tr = ofS A) (h : zd qn t.tr = false) : t.d.k = 0 := by
 rw [← zqb]
 by_cases hc : zd qn (zn A nilT) = true
 ·
  rw [ht, qre ((ul A).1 hc), hc] at h; cases h
 ·
  rw [ht]; unfold ofS; rw [qrc (Bool.eq_false_iff.2 hc)]; rfl
set_option maxHeartbeats 2000000 in
theorem qlj {w : World} {si : Option Addr} {ca : Nat} {ts : List Dt} (hR : Rt w si ts) (hca : ts.length ≤ ca) (hD : ∀ t ∈ ts, t.rd w) {x : Dt} (hrx : x.rd w) (hT : Tabs8 w) (hb : Tr.bulks (ts.map Dt.tr) ≤ 1048576) : Calls Tryz.prog 5 #[.slice si ts.length ca, .agg (x.d.cells x.ts.length).toArray] w fun e w' => e = .returned (.bool true) ∧ Below w.heap.size w w' := by
 have hbl := vx ts
 have M : Mg w w ([]) := Mg.start w
 refine qm (l := [(0, .slice si ts.length ca), (1, .agg (x.d.cells x.ts.length).toArray)]) Tryz.func5 rfl Tryz.ntmps5 rfl rfl ?_
 intro Q hret hnorm hP a H
 refine wsk fun K1 hK1 => wrl (ja (vs := (x.d.cells x.ts.length)) (t := 30) H M rfl rfl rfl pg (qs rfl rfl) (by decide) ?_)
 intro g2 w3 M a H
 refine sda H λa H↦?_
 refine qa (hK1 _ _ (wsk fun K4 hK4 => ?_))
 have hJ5 : ∀ a w1, (∃ (xs : List Dt), (Rt w si xs ∧ (∀ t ∈ xs, t.rd w) ∧ Tr.bulks (xs.map Dt.tr) ≤ 1048576 ∧ xs.length ≤ 300) ∧ Sl a 136 [(0, .slice si xs.length ca), (1, .agg (x.d.cells x.ts.length).toArray), (3, .pointer (some ⟨g2, 0, none⟩)), (4, .bool false)] ∧ Mg w w1 (.obj g2 (.cells (x.d.cells x.ts.length).toArray 30) :: [])) → K4 a w1 := by
  clear H M
  rintro a w6 ⟨xs, hf7, H, M⟩
  obtain ⟨hRx, hDx, hxb, hlx⟩ := hf7
  refine hK4 _ _ (wsk fun K8 hK8 => ?_)
  have hnb : nilT.bulk = 1 := rfl
  have hlb := vx xs
  refine wrl (sdm H λa H↦?_)
  refine sct H (ef rfl rfl) (of_any (hRx.below M.bel) (fun t ht => Dt.keep M.bel _ (hDx t ht)) (by omega) (hT.below M.bel)) ?_
  rintro _ w10 ⟨d, rfl, ⟨hrd, -, htd⟩, hb9⟩
  have hdb := zdd (xs.map Dt.tr)
  rw [← htd] at hdb
  replace M := M.call hb9
  refine ⟨_, rfl, ?_⟩
  intro a H
  have hB1 := M.bel
  replace hT := hT.below M.bel
  replace hRx := hRx.below M.bel
  replace hDx := fun t ht => Dt.keep M.bel _ (hDx t ht)
  replace hrx := Dt.keep M.bel _ hrx
  have hHg2 := M.here 0 (cs := (x.d.cells x.ts.length)) rfl
  replace M : Mg w10 w10 [] := Mg.start w10
  refine ja (vs := (qr.d.cells qr.ts.length)) (t := 30) H M rfl rfl rfl pg (qk (z := .agg (qr.d.cells qr.ts.length).toArray) (by kernel_rfl) rfl) (by decide) ?_
  intro g11 w12 M a H
  refine zu (us := (d.d.cells d.ts.length)) (L' := (.obj g11 (.cells (d.d.cells d.ts.length).toArray 30) :: [])) H M rfl rfl (ze rfl rfl rfl (by kernel_rfl) M 0 rfl rfl rfl) 0 rfl rfl rfl ?_
  intro w13 M
  refine qa (hK8 _ _ (wsk fun K14 hK14 => wrl (sdo H (zg M LiQ_isS_30 rfl 0 rfl (cs := (d.d.cells d.ts.length)) rfl rfl) λa H↦?_)))
  rcases tf (zd qn d.tr) with hb15 | hb15
  ·
   have hOd := zgh (by rw [← htd]; exact hb15)
   have hO := hOd.1
   have hde : d.tr = zn (xs.map Dt.tr) nilT := htd.trans hOd.2
   have hXs : ∀ z ∈ (xs.map Dt.tr), zd qn z = true := qlh (by rw [hde]; exact vm _) hb15
   refine sct H (ef rfl rfl) (qwb (t := d) (Dt.keep M.bel _ hrd) (by omega) (hT.below M.bel) hb15 (by rw [hde]; exact vm _)) ?_
   rintro _ w17 ⟨s, ks, rfl, ⟨hrs, -, hts⟩, hb16⟩
   have hse : s.tr = zn (zp ltO (xs.map Dt.tr)) nilT := congrArg Prod.fst hts
   have hks : ks = 0 := congrArg Prod.snd hts
   have hSo : OkL (zp ltO (xs.map Dt.tr)) := qwi (jw _).symm hO
   have hsb : s.tr.bulk ≤ 3000000 := by rw [hse, vy, qlb (jw _), xp, List.length_map]; omega
   replace M := M.call hb16
   refine ⟨_, rfl, ?_⟩
   intro a H
   have hB2 := hB1.trans (M.bel.mono hB1.size)
   replace hT := hT.below M.bel
   replace hHg2 := hHg2.below M.bel
   replace hRx := hRx.below M.bel
   replace hDx := fun t ht => Dt.keep M.bel _ (hDx t ht)
   replace hrx := Dt.keep M.bel _ hrx
   replace hrd := Dt.keep M.bel _ hrd
   have hHg11 := M.here 0 (cs := (d.d.cells d.ts.length)) rfl
   replace M : Mg w17 w17 [] := Mg.start w17
   refine sdm H λa H↦?_
   iterate 2 refine sdo H (zj (vs := [.agg (s.d.cells s.ts.length).toArray, .int .i64 ks]) rfl rfl) λa H↦?_
   refine ja (vs := (qr.d.cells qr.ts.length)) (t := 30) H M rfl rfl rfl pg (qk (z := .agg (qr.d.cells qr.ts.length).toArray) (by kernel_rfl) rfl) (by decide) ?_
   intro g18 w19 M a H
   refine zu (us := (s.d.cells s.ts.length)) (L' := (.obj g18 (.cells (s.d.cells s.ts.length).toArray 30) :: [])) H M rfl rfl (ze rfl rfl rfl (by kernel_rfl) M 0 rfl rfl rfl) 0 rfl rfl rfl ?_
   intro w20 M
   refine sda H λa H↦?_
   refine qa (hK14 _ _ (wsk fun K21 hK21 => wsk fun K22 hK22 => wrl (sct H (ef rfl rfl) (qge (hT.below M.bel)) ?_)))
   rintro _ w24 ⟨rfl, hb23⟩
   replace M := M.call hb23
   refine ⟨_, rfl, ?_⟩
   intro a H
   refine sdo (v := .bool false) H (zk rfl zx) λa H↦?_
   iterate 2 refine sdm H λa H↦?_
   refine sdo (v := .bool false) H (qf rfl rfl (fun w => (zm w).trans (by rw [show ((ks != 0)) = false from (bne_eq_false_iff_eq.2 hks)]))) λa H↦?_
   refine sdk (v := .bool false) H λa H↦?_
   refine qa (hK22 _ _ (wp_cond_false (H.ev rfl) ?_))
   refine wp_skip (hK21 _ _ (wsk fun K25 hK25 => wrl (sdo H (zg M LiQ_isS_30 rfl 0 rfl (cs := (s.d.cells s.ts.length)) rfl rfl) λa H↦?_)))
   refine sct H (ef rfl rfl) (zhf (t := s) (Dt.keep M.bel _ hrs) (by omega) (hT.below M.bel)) ?_
   rintro _ w27 ⟨sv, cv, lv, kv, rfl, ⟨htv, hRv, hDv⟩, hb26⟩
   have hvp : (lv.map Dt.tr, kv) = (zp ltO (xs.map Dt.tr), 0) := by rw [htv, qla (by rw [hse]; exact (ul _).2 hSo) (by rw [hse]; exact vm _)]
   have hve : lv.map Dt.tr = zp ltO (xs.map Dt.tr) := congrArg Prod.fst hvp
   have hvk : kv = 0 := congrArg Prod.snd hvp
   have hvl : lv.length = xs.length := by have := congrArg List.length hve; rwa [List.length_map, xp, List.length_map] at this
   replace M := M.call hb26
   refine ⟨_, rfl, ?_⟩
   intro a H
   have hB3 := hB2.trans (M.bel.mono hB2.size)
   replace hT := hT.below M.bel
   replace hHg2 := hHg2.below M.bel
   replace hHg11 := hHg11.below M.bel
   replace hRx := hRx.below M.bel
   replace hDx := fun t ht => Dt.keep M.bel _ (hDx t ht)
   replace hrx := Dt.keep M.bel _ hrx
   replace hrd := Dt.keep M.bel _ hrd
   replace hrs := Dt.keep M.bel _ hrs
   have hHg18 := M.here 0 (cs := (s.d.cells s.ts.length)) rfl
   replace M : Mg w27 w27 [] := Mg.start w27
   refine sdm H λa H↦?_
   iterate 2 refine sdo H (zj (vs := [.slice sv lv.length cv, .int .i64 kv]) rfl rfl) λa H↦?_
   iterate 2 refine sda H λa H↦?_
   refine qa (hK25 _ _ (wsk fun K28 hK28 => wrl (sdo H (jd M hHg18 LiQ_isS_30 rfl rfl) λa H↦?_)))
   refine sct H (ef rfl rfl) (qwb (t := s) (Dt.keep M.bel _ hrs) (by omega) (hT.below M.bel) (by rw [hse]; exact (ul _).2 hSo) (by rw [hse]; exact vm _)) ?_
   rintro _ w30 ⟨ag, kag, rfl, ⟨hrag, -, htag⟩, hb29⟩
   have hae : ag.tr = s.tr := (congrArg Prod.fst htag).trans (by show zn (zp ltO (zp ltO (xs.map Dt.tr))) nilT = s.tr; rw [qvg qih, hse])
   have hka : kag = 0 := congrArg Prod.snd htag
   replace M := M.call hb29
   refine ⟨_, rfl, ?_⟩
   intro a H
   have hB4 := hB3.trans (M.bel.mono hB3.size)
   replace hT := hT.below M.bel
   replace hHg2 := hHg2.below M.bel
   replace hHg11 := hHg11.below M.bel
   replace hHg18 := hHg18.below M.bel
   replace hRx := hRx.below M.bel
   replace hDx := fun t ht => Dt.keep M.bel _ (hDx t ht)
   replace hRv := hRv.below M.bel
   replace hDv := fun t ht => Dt.keep M.bel _ (hDv t ht)
   replace hrx := Dt.keep M.bel _ hrx
   replace hrd := Dt.keep M.bel _ hrd
   replace hrs := Dt.keep M.bel _ hrs
   replace M : Mg w30 w30 [] := Mg.start w30
   refine sdm H λa H↦?_
   iterate 2 refine sdo H (zj (vs := [.agg (ag.d.cells ag.ts.length).toArray, .int .i64 kag]) rfl rfl) λa H↦?_
   refine ja (vs := (qr.d.cells qr.ts.length)) (t := 30) H M rfl rfl rfl pg (qk (z := .agg (qr.d.cells qr.ts.length).toArray) (by kernel_rfl) rfl) (by decide) ?_
   intro g31 w32 M a H
   refine zu (us := (ag.d.cells ag.ts.length)) (L' := (.obj g31 (.cells (ag.d.cells ag.ts.length).toArray 30) :: [])) H M rfl rfl (ze rfl rfl rfl (by kernel_rfl) M 0 rfl rfl rfl) 0 rfl rfl rfl ?_
   intro w33 M
   refine sda H λa H↦?_
   refine qa (hK28 _ _ (wsk fun K34 hK34 => wrl (sdo H (jd M hHg11 LiQ_isS_30 rfl rfl) λa H↦?_)))
   refine sct H (ef rfl rfl) (qah (t := d) (Dt.keep M.bel _ hrd) (by omega) (hT.below M.bel)) ?_
   rintro _ w36 ⟨r, kr, rfl, ⟨hrr, -, htr⟩, hb35⟩
   have hre : (r.tr, kr) = (zn (xs.map Dt.tr).reverse nilT, 0) := htr.trans (by rw [hde]; exact qzg hO)
   have hkr : kr = 0 := congrArg Prod.snd hre
   have hrt : r.tr = zn (xs.map Dt.tr).reverse nilT := congrArg Prod.fst hre
   have hrb := zme d.tr
   rw [← htr] at hrb
   simp only at hrb
   replace M := M.call hb35
   refine ⟨_, rfl, ?_⟩
   intro a H
   have hB5 := hB4.trans (M.bel.mono hB4.size)
   replace hT := hT.below M.bel
   replace hHg2 := hHg2.below M.bel
   replace hHg11 := hHg11.below M.bel
   replace hHg18 := hHg18.below M.bel
   replace hRx := hRx.below M.bel
   replace hDx := fun t ht => Dt.keep M.bel _ (hDx t ht)
   replace hRv := hRv.below M.bel
   replace hDv := fun t ht => Dt.keep M.bel _ (hDv t ht)
   replace hrx := Dt.keep M.bel _ hrx
   replace hrd := Dt.keep M.bel _ hrd
   replace hrs := Dt.keep M.bel _ hrs
   replace hrag := Dt.keep M.bel _ hrag
   have hHg31 := M.here 0 (cs := (ag.d.cells ag.ts.length)) rfl
   replace M : Mg w36 w36 [] := Mg.start w36
   refine sdm H λa H↦?_
   iterate 2 refine sdo H (zj (vs := [.agg (r.d.cells r.ts.length).toArray, .int .i64 kr]) rfl rfl) λa H↦?_
   refine ja (vs := (qr.d.cells qr.ts.length)) (t := 30) H M rfl rfl rfl pg (qk (z := .agg (qr.d.cells qr.ts.length).toArray) (by kernel_rfl) rfl) (by decide) ?_
   intro g37 w38 M a H
   refine zu (us := (r.d.cells r.ts.length)) (L' := (.obj g37 (.cells (r.d.cells r.ts.length).toArray 30) :: [])) H M rfl rfl (ze rfl rfl rfl (by kernel_rfl) M 0 rfl rfl rfl) 0 rfl rfl rfl ?_
   intro w39 M
   refine sda H λa H↦?_
   refine qa (hK34 _ _ (wsk fun K40 hK40 => wrl (sdo H (zg M LiQ_isS_30 rfl 0 rfl (cs := (r.d.cells r.ts.length)) rfl rfl) λa H↦?_)))
   refine sct H (ef rfl rfl) (qah (t := r) (Dt.keep M.bel _ hrr) (by omega) (hT.below M.bel)) ?_
   rintro _ w42 ⟨bk, kbk, rfl, ⟨hrbk, -, htbk⟩, hb41⟩
   have hbe : (bk.tr, kbk) = (d.tr, 0) := htbk.trans (by rw [hrt, qzg (qwi (List.reverse_perm _).symm hO), List.reverse_reverse, hde])
   have hkb : kbk = 0 := congrArg Prod.snd hbe
   have hbt : bk.tr = d.tr := congrArg Prod.fst hbe
   replace M := M.call hb41
   refine ⟨_, rfl, ?_⟩
   intro a H
   have hB6 := hB5.trans (M.bel.mono hB5.size)
   replace hT := hT.below M.bel
   replace hHg2 := hHg2.below M.bel
   replace hHg11 := hHg11.below M.bel
   replace hHg18 := hHg18.below M.bel
   replace hHg31 := hHg31.below M.bel
   replace hRx := hRx.below M.bel
   replace hDx := fun t ht => Dt.keep M.bel _ (hDx t ht)
   replace hRv := hRv.below M.bel
   replace hDv := fun t ht => Dt.keep M.bel _ (hDv t ht)
   replace hrx := Dt.keep M.bel _ hrx
   replace hrd := Dt.keep M.bel _ hrd
   replace hrs := Dt.keep M.bel _ hrs
   replace hrag := Dt.keep M.bel _ hrag
   replace hrr := Dt.keep M.bel _ hrr
   have hHg37 := M.here 0 (cs := (r.d.cells r.ts.length)) rfl
   replace M : Mg w42 w42 [] := Mg.start w42
   refine sdm H λa H↦?_
   iterate 2 refine sdo H (zj (vs := [.agg (bk.d.cells bk.ts.length).toArray, .int .i64 kbk]) rfl rfl) λa H↦?_
   refine ja (vs := (qr.d.cells qr.ts.length)) (t := 30) H M rfl rfl rfl pg (qk (z := .agg (qr.d.cells qr.ts.length).toArray) (by kernel_rfl) rfl) (by decide) ?_
   intro g43 w44 M a H
   refine zu (us := (bk.d.cells bk.ts.length)) (L' := (.obj g43 (.cells (bk.d.cells bk.ts.length).toArray 30) :: [])) H M rfl rfl (ze rfl rfl rfl (by kernel_rfl) M 0 rfl rfl rfl) 0 rfl rfl rfl ?_
   intro w45 M
   refine sda H λa H↦?_
   refine qa (hK40 _ _ (wsk fun K46 hK46 => wsk fun K47 hK47 => wrl (sdm H λa H↦?_)))
   refine sdo (v := .bool false) H (qf rfl rfl (fun w => (zm w).trans (by rw [show ((kv != 0)) = false from (bne_eq_false_iff_eq.2 hvk)]))) λa H↦?_
   iterate 2 refine sdm H λa H↦?_
   refine sdo H (zf Tryz.underlying22 rfl) λa H↦?_
   refine sdm H λa H↦?_
   refine sdo H (zf Tryz.underlying22 rfl) λa H↦?_
   refine sdo (v := .bool false) H (qf rfl rfl (fun w => (zm w).trans (by rw [show ((((lv.length : Nat) : Int) != ((xs.length : Nat) : Int))) = false from (bne_eq_false_iff_eq.2 (by omega))]))) λa H↦?_
   refine sdk (v := .bool false) H λa H↦?_
   iterate 2 refine sdm H λa H↦?_
   refine sdo (v := .bool false) H (qf rfl rfl (fun w => (zm w).trans (by rw [show ((kag != 0)) = false from (bne_eq_false_iff_eq.2 hka)]))) λa H↦?_
   refine sdk (v := .bool false) H λa H↦?_
   refine sdm H λa H↦?_
   refine sdo H (jd M hHg31 LiQ_isS_30 rfl rfl) λa H↦?_
   refine sdo H (jd M hHg18 LiQ_isS_30 rfl rfl) λa H↦?_
   refine gcl H M (ef rfl rfl) ((((qwd ag.tr s.tr).2 hae) ▸ qdf (ag.tr.bulk + 1) (t := ag) (u := s) (Nat.lt_succ_self _) (Dt.keep M.bel _ hrag) (Dt.keep M.bel _ hrs))) fun w49 hb48 M a H => ?_
   refine sdo (v := .bool false) H (zk rfl zx) λa H↦?_
   refine sdk (v := .bool false) H λa H↦?_
   iterate 2 refine sdm H λa H↦?_
   refine sdo (v := .bool false) H (qf rfl rfl (fun w => (zm w).trans (by rw [show ((kr != 0)) = false from (bne_eq_false_iff_eq.2 hkr)]))) λa H↦?_
   refine sdk (v := .bool false) H λa H↦?_
   iterate 2 refine sdm H λa H↦?_
   refine sdo (v := .bool false) H (qf rfl rfl (fun w => (zm w).trans (by rw [show ((kbk != 0)) = false from (bne_eq_false_iff_eq.2 hkb)]))) λa H↦?_
   refine sdk (v := .bool false) H λa H↦?_
   refine sdm H λa H↦?_
   refine sdo H (zg M LiQ_isS_30 rfl 0 rfl (cs := (bk.d.cells bk.ts.length)) rfl rfl) λa H↦?_
   refine sdo H (jd M hHg11 LiQ_isS_30 rfl rfl) λa H↦?_
   refine gcl H M (ef rfl rfl) ((((qwd bk.tr d.tr).2 hbt) ▸ qdf (bk.tr.bulk + 1) (t := bk) (u := d) (Nat.lt_succ_self _) (Dt.keep M.bel _ hrbk) (Dt.keep M.bel _ hrd))) fun w51 hb50 M a H => ?_
   refine sdo (v := .bool false) H (zk rfl zx) λa H↦?_
   refine sdk (v := .bool false) H λa H↦?_
   refine qa (hK47 _ _ (wp_cond_false (H.ev rfl) ?_))
   refine wp_skip (hK46 _ _ (wsk fun K52 hK52 => wrl ?_))
   iterate 2 refine sda H λa H↦?_
   refine qa (hK52 _ _ (wsk fun K53 hK53 => wsk fun K54 hK54 => wrl (sda H λa H↦?_)))
   refine qa (hK54 _ _ (wp_block (zw (fun m_ a w1 => ∃ (j : Nat) (c1 : Nat) (c2 : Nat), m_ = 1 + (lv.length - j) ∧ (j ≤ lv.length ∧ (c1 = (lv.take j).countP fun z => ur z.tr x.tr) ∧ (c2 = (xs.take j).countP fun z => ur z.tr x.tr)) ∧ Sl a 136 [(0, .slice si xs.length ca), (1, .agg (x.d.cells x.ts.length).toArray), (3, .pointer (some ⟨g2, 0, none⟩)), (5, .pointer (some ⟨g11, 0, none⟩)), (6, .pointer (some ⟨g18, 0, none⟩)), (7, .int .i64 ks), (8, .slice sv lv.length cv), (9, .int .i64 kv), (10, .pointer (some ⟨g31, 0, none⟩)), (11, .int .i64 kag), (12, .pointer (some ⟨g37, 0, none⟩)), (13, .int .i64 kr), (14, .pointer (some ⟨g43, 0, none⟩)), (15, .int .i64 kbk), (16, .int .i64 (((c1 : Nat) : Int))), (17, .int .i64 (((c2 : Nat) : Int))), (18, .int .i64 (((j : Nat) : Int))), (24, .slice si xs.length ca), (25, .agg (d.d.cells d.ts.length).toArray), (26, .tuple #[.agg (s.d.cells s.ts.length).toArray, .int .i64 ks]), (27, .agg (d.d.cells d.ts.length).toArray), (28, .tuple #[.agg (s.d.cells s.ts.length).toArray, .int .i64 ks]), (29, .agg (s.d.cells s.ts.length).toArray), (30, .int .i64 ks), (31, .bool true), (32, .bool false), (33, .bool false), (34, .int .i64 ks), (35, .bool false), (36, .bool false), (43, .tuple #[.slice sv lv.length cv, .int .i64 kv]), (44, .agg (s.d.cells s.ts.length).toArray), (45, .tuple #[.slice sv lv.length cv, .int .i64 kv]), (46, .slice sv lv.length cv), (47, .int .i64 kv), (48, .tuple #[.agg (ag.d.cells ag.ts.length).toArray, .int .i64 kag]), (49, .agg (s.d.cells s.ts.length).toArray), (50, .tuple #[.agg (ag.d.cells ag.ts.length).toArray, .int .i64 kag]), (51, .agg (ag.d.cells ag.ts.length).toArray), (52, .int .i64 kag), (53, .tuple #[.agg (r.d.cells r.ts.length).toArray, .int .i64 kr]), (54, .agg (d.d.cells d.ts.length).toArray), (55, .tuple #[.agg (r.d.cells r.ts.length).toArray, .int .i64 kr]), (56, .agg (r.d.cells r.ts.length).toArray), (57, .int .i64 kr), (58, .tuple #[.agg (bk.d.cells bk.ts.length).toArray, .int .i64 kbk]), (59, .agg (r.d.cells r.ts.length).toArray), (60, .tuple #[.agg (bk.d.cells bk.ts.length).toArray, .int .i64 kbk]), (61, .agg (bk.d.cells bk.ts.length).toArray), (62, .int .i64 kbk), (63, .int .i64 kv), (64, .bool false), (65, .bool false), (66, .slice sv lv.length cv), (67, .int .i64 (((lv.length : Nat) : Int))), (68, .slice si xs.length ca), (69, .int .i64 (((xs.length : Nat) : Int))), (70, .bool false), (71, .bool false), (72, .bool false), (73, .int .i64 kag), (74, .bool false), (75, .bool false), (76, .bool false), (77, .agg (ag.d.cells ag.ts.length).toArray), (78, .agg (s.d.cells s.ts.length).toArray), (79, .bool true), (80, .bool false), (81, .bool false), (82, .bool false), (83, .int .i64 kr), (84, .bool false), (85, .bool false), (86, .bool false), (87, .int .i64 kbk), (88, .bool false), (89, .bool false), (90, .bool false), (91, .agg (bk.d.cells bk.ts.length).toArray), (92, .agg (d.d.cells d.ts.length).toArray), (93, .bool true), (94, .bool false), (95, .bool false)] ∧ Mg w42 w1 (.obj g43 (.cells (bk.d.cells bk.ts.length).toArray 30) :: [])) _ ⟨0, 0, 0, rfl, ⟨Nat.zero_le _, rfl, rfl⟩, H.keep _ (by repeat' constructor), M⟩ ?_)))
   clear M H
   rintro m_ a w55 ⟨j, c1, c2, rfl, hinv57, H, M⟩ K56 hK56
   obtain ⟨hj0, hc1, hc2⟩ := hinv57
   have hn1 : c1 ≤ lv.length := hc1 ▸ qrh _ _ _
   have hn2 : c2 ≤ xs.length := hc2 ▸ qrh _ _ _
   refine wsk fun K58 hK58 => wsk fun K59 hK59 => wrl ?_
   iterate 2 refine sdm H λa H↦?_
   refine sdo H (zf Tryz.underlying22 rfl) λa H↦?_
   rcases tf (decide (((j : Nat) : Int) < ((lv.length : Nat) : Int))) with hb60 | hb60
   ·
    have hb60' := of_decide_eq_true hb60
    refine sdc H qz hb60 λa H↦?_
    refine qa (hK59 _ _ (wp_cond_true (H.ev rfl) ?_))
    refine wp_skip (hK58 _ _ (wsk fun K61 hK61 => wp_block (wsk fun K62 hK62 => ?_)))
    have hJ63 : ∀ a w1, (Sl a 136 [(0, .slice si xs.length ca), (1, .agg (x.d.cells x.ts.length).toArray), (3, .pointer (some ⟨g2, 0, none⟩)), (5, .pointer (some ⟨g11, 0, none⟩)), (6, .pointer (some ⟨g18, 0, none⟩)), (7, .int .i64 ks), (8, .slice sv lv.length cv), (9, .int .i64 kv), (10, .pointer (some ⟨g31, 0, none⟩)), (11, .int .i64 kag), (12, .pointer (some ⟨g37, 0, none⟩)), (13, .int .i64 kr), (14, .pointer (some ⟨g43, 0, none⟩)), (15, .int .i64 kbk), (16, .int .i64 (((c1 : Nat) : Int))), (17, .int .i64 (((c2 : Nat) : Int))), (18, .int .i64 (((j : Nat) : Int))), (24, .slice si xs.length ca), (25, .agg (d.d.cells d.ts.length).toArray), (26, .tuple #[.agg (s.d.cells s.ts.length).toArray, .int .i64 ks]), (27, .agg (d.d.cells d.ts.length).toArray), (28, .tuple #[.agg (s.d.cells s.ts.length).toArray, .int .i64 ks]), (29, .agg (s.d.cells s.ts.length).toArray), (30, .int .i64 ks), (31, .bool true), (32, .bool false), (33, .bool false), (34, .int .i64 ks), (35, .bool false), (36, .bool false), (43, .tuple #[.slice sv lv.length cv, .int .i64 kv]), (44, .agg (s.d.cells s.ts.length).toArray), (45, .tuple #[.slice sv lv.length cv, .int .i64 kv]), (46, .slice sv lv.length cv), (47, .int .i64 kv), (48, .tuple #[.agg (ag.d.cells ag.ts.length).toArray, .int .i64 kag]), (49, .agg (s.d.cells s.ts.length).toArray), (50, .tuple #[.agg (ag.d.cells ag.ts.length).toArray, .int .i64 kag]), (51, .agg (ag.d.cells ag.ts.length).toArray), (52, .int .i64 kag), (53, .tuple #[.agg (r.d.cells r.ts.length).toArray, .int .i64 kr]), (54, .agg (d.d.cells d.ts.length).toArray), (55, .tuple #[.agg (r.d.cells r.ts.length).toArray, .int .i64 kr]), (56, .agg (r.d.cells r.ts.length).toArray), (57, .int .i64 kr), (58, .tuple #[.agg (bk.d.cells bk.ts.length).toArray, .int .i64 kbk]), (59, .agg (r.d.cells r.ts.length).toArray), (60, .tuple #[.agg (bk.d.cells bk.ts.length).toArray, .int .i64 kbk]), (61, .agg (bk.d.cells bk.ts.length).toArray), (62, .int .i64 kbk), (63, .int .i64 kv), (64, .bool false), (65, .bool false), (66, .slice sv lv.length cv), (67, .int .i64 (((lv.length : Nat) : Int))), (68, .slice si xs.length ca), (69, .int .i64 (((xs.length : Nat) : Int))), (70, .bool false), (71, .bool false), (72, .bool false), (73, .int .i64 kag), (74, .bool false), (75, .bool false), (76, .bool false), (77, .agg (ag.d.cells ag.ts.length).toArray), (78, .agg (s.d.cells s.ts.length).toArray), (79, .bool true), (80, .bool false), (81, .bool false), (82, .bool false), (83, .int .i64 kr), (84, .bool false), (85, .bool false), (86, .bool false), (87, .int .i64 kbk), (88, .bool false), (89, .bool false), (90, .bool false), (91, .agg (bk.d.cells bk.ts.length).toArray), (92, .agg (d.d.cells d.ts.length).toArray), (93, .bool true), (94, .bool false), (95, .bool false), (96, .int .i64 (((j : Nat) : Int))), (97, .slice sv lv.length cv), (98, .int .i64 (((lv.length : Nat) : Int))), (99, .bool true)] ∧ Mg w42 w1 (.obj g43 (.cells (bk.d.cells bk.ts.length).toArray 30) :: [])) → K62 a w1 := by
     clear H M
     rintro a w64 ⟨H, M⟩
     refine hK62 _ _ (wsk fun K66 hK66 => ?_)
     have hJ67 : ∀ a w1, (∃ (c3 : Nat), (c3 = (lv.take (j + 1)).countP fun z => ur z.tr x.tr) ∧ Sl a 136 [(0, .slice si xs.length ca), (1, .agg (x.d.cells x.ts.length).toArray), (3, .pointer (some ⟨g2, 0, none⟩)), (5, .pointer (some ⟨g11, 0, none⟩)), (6, .pointer (some ⟨g18, 0, none⟩)), (7, .int .i64 ks), (8, .slice sv lv.length cv), (9, .int .i64 kv), (10, .pointer (some ⟨g31, 0, none⟩)), (11, .int .i64 kag), (12, .pointer (some ⟨g37, 0, none⟩)), (13, .int .i64 kr), (14, .pointer (some ⟨g43, 0, none⟩)), (15, .int .i64 kbk), (16, .int .i64 (((c3 : Nat) : Int))), (17, .int .i64 (((c2 : Nat) : Int))), (18, .int .i64 (((j : Nat) : Int))), (24, .slice si xs.length ca), (25, .agg (d.d.cells d.ts.length).toArray), (26, .tuple #[.agg (s.d.cells s.ts.length).toArray, .int .i64 ks]), (27, .agg (d.d.cells d.ts.length).toArray), (28, .tuple #[.agg (s.d.cells s.ts.length).toArray, .int .i64 ks]), (29, .agg (s.d.cells s.ts.length).toArray), (30, .int .i64 ks), (31, .bool true), (32, .bool false), (33, .bool false), (34, .int .i64 ks), (35, .bool false), (36, .bool false), (43, .tuple #[.slice sv lv.length cv, .int .i64 kv]), (44, .agg (s.d.cells s.ts.length).toArray), (45, .tuple #[.slice sv lv.length cv, .int .i64 kv]), (46, .slice sv lv.length cv), (47, .int .i64 kv), (48, .tuple #[.agg (ag.d.cells ag.ts.length).toArray, .int .i64 kag]), (49, .agg (s.d.cells s.ts.length).toArray), (50, .tuple #[.agg (ag.d.cells ag.ts.length).toArray, .int .i64 kag]), (51, .agg (ag.d.cells ag.ts.length).toArray), (52, .int .i64 kag), (53, .tuple #[.agg (r.d.cells r.ts.length).toArray, .int .i64 kr]), (54, .agg (d.d.cells d.ts.length).toArray), (55, .tuple #[.agg (r.d.cells r.ts.length).toArray, .int .i64 kr]), (56, .agg (r.d.cells r.ts.length).toArray), (57, .int .i64 kr), (58, .tuple #[.agg (bk.d.cells bk.ts.length).toArray, .int .i64 kbk]), (59, .agg (r.d.cells r.ts.length).toArray), (60, .tuple #[.agg (bk.d.cells bk.ts.length).toArray, .int .i64 kbk]), (61, .agg (bk.d.cells bk.ts.length).toArray), (62, .int .i64 kbk), (63, .int .i64 kv), (64, .bool false), (65, .bool false), (66, .slice sv lv.length cv), (67, .int .i64 (((lv.length : Nat) : Int))), (68, .slice si xs.length ca), (69, .int .i64 (((xs.length : Nat) : Int))), (70, .bool false), (71, .bool false), (72, .bool false), (73, .int .i64 kag), (74, .bool false), (75, .bool false), (76, .bool false), (77, .agg (ag.d.cells ag.ts.length).toArray), (78, .agg (s.d.cells s.ts.length).toArray), (79, .bool true), (80, .bool false), (81, .bool false), (82, .bool false), (83, .int .i64 kr), (84, .bool false), (85, .bool false), (86, .bool false), (87, .int .i64 kbk), (88, .bool false), (89, .bool false), (90, .bool false), (91, .agg (bk.d.cells bk.ts.length).toArray), (92, .agg (d.d.cells d.ts.length).toArray), (93, .bool true), (94, .bool false), (95, .bool false), (96, .int .i64 (((j : Nat) : Int))), (97, .slice sv lv.length cv), (98, .int .i64 (((lv.length : Nat) : Int))), (99, .bool true)] ∧ Mg w42 w1 (.obj g43 (.cells (bk.d.cells bk.ts.length).toArray 30) :: [])) → K66 a w1 := by
      clear H M
      rintro a w68 ⟨c3, hf69, H, M⟩
      have hc3 := hf69
      have hn3 : c3 ≤ lv.length := hc3 ▸ qrh _ _ _
      refine hK66 _ _ (wsk fun K70 hK70 => ?_)
      obtain ⟨t2, bt2, ot2, it2, mt2, rt2_, lt2, Ht2⟩ := zfg hRx hDx (i := j) (by omega)
      refine jc (S := fun w1 => Mg w42 w1 ([])) (by kernel_rfl) ?_
      replace M := M.drew
      refine qe H 0 rfl rfl rfl rfl hP (M.sub (cn (List.nil_sublist _))) (fun w1 M => qg rfl) λa H↦?_
      refine qe H 1 rfl rfl rfl rfl hP (M.sub (cn (List.nil_sublist _))) (fun w1 M => qg rfl) λa H↦?_
      refine qe (v := .pointer (some ⟨bt2, ot2 + j * 11, none⟩)) H 2 rfl rfl rfl rfl hP (M.sub (cn (List.nil_sublist _))) (fun w1 M => zl (k := j) Tryz.underlying22 (by kernel_rfl) rfl rfl rfl lt2 (by omega)) λa H↦?_
      refine qe H 3 rfl rfl rfl rfl hP (M.sub (cn (List.nil_sublist _))) (fun w1 M => jd M Ht2 LiQ_isS_30 rfl rfl) λa H↦?_
      refine qe H 4 rfl rfl rfl rfl hP (M.sub (cn (List.nil_sublist _))) (fun w1 M => jd M hHg2 LiQ_isS_30 rfl rfl) λa H↦?_
      refine qi (by kernel_rfl) (za H 5 rfl rfl rfl rfl (qj rfl rfl (fun w => by kernel_rfl)) (qbe (t := t2) (u := x) (Dt.keep M.bel _ rt2_) (Dt.keep M.bel _ hrx) (hT.below M.bel)) ?_)
      rintro _ w72 ⟨rfl, hb71⟩
      replace M := M.call hb71
      refine ⟨_, rfl, (M.sub (cn (List.nil_sublist _))), ?_⟩
      intro a H
      refine zb (by kernel_rfl) ?_
      refine hK70 _ _ ?_
      refine wp_cond_split (t := ur t2.tr x.tr) (H.ev rfl) (fun hc73 => ?_) (fun hc73 => ?_)
      ·
       refine wrl (sdm H λa H↦?_)
       refine sdo (v := .int .i64 (((c2 + 1 : Nat) : Int))) H (qf rfl rfl (fun w => (xb (kd (by omega) (by omega)) w).trans (by rw [show (((c2 : Nat) : Int) + 1 : Int) = ((c2 + 1 : Nat) : Int) from by omega]))) λa H↦?_
       refine sda H λa H↦?_
       refine qa (hK61 _ _ (wrl (sdm H λa H↦?_)))
       refine sdo (v := .int .i64 (((j + 1 : Nat) : Int))) H (qf rfl rfl (fun w => (xb (kd (by omega) (by omega)) w).trans (by rw [show (((j : Nat) : Int) + 1 : Int) = ((j + 1 : Nat) : Int) from by omega]))) λa H↦?_
       refine sda H λa H↦?_
       refine qa ?_
       refine hK56 _ _ _ (by omega) ⟨j + 1, c3, c2 + 1, rfl, ⟨by omega, hc3, zdh it2 hc2 hc73⟩, H.keep _ (by repeat' constructor), M⟩
      ·
       refine wp_skip (hK61 _ _ (wrl (sdm H λa H↦?_)))
       refine sdo (v := .int .i64 (((j + 1 : Nat) : Int))) H (qf rfl rfl (fun w => (xb (kd (by omega) (by omega)) w).trans (by rw [show (((j : Nat) : Int) + 1 : Int) = ((j + 1 : Nat) : Int) from by omega]))) λa H↦?_
       refine sda H λa H↦?_
       refine qa ?_
       refine hK56 _ _ _ (by omega) ⟨j + 1, c3, c2, rfl, ⟨by omega, hc3, zob it2 hc2 hc73⟩, H.keep _ (by repeat' constructor), M⟩
     refine wsk fun K74 hK74 => ?_
     obtain ⟨t1, bt1, ot1, it1, mt1, rt1_, lt1, Ht1⟩ := zfg hRv hDv (i := j) (by omega)
     refine jc (S := fun w1 => Mg w42 w1 ([])) (by kernel_rfl) ?_
     replace M := M.drew
     refine qe H 0 rfl rfl rfl rfl hP (M.sub (cn (List.nil_sublist _))) (fun w1 M => qg rfl) λa H↦?_
     refine qe H 1 rfl rfl rfl rfl hP (M.sub (cn (List.nil_sublist _))) (fun w1 M => qg rfl) λa H↦?_
     refine qe (v := .pointer (some ⟨bt1, ot1 + j * 11, none⟩)) H 2 rfl rfl rfl rfl hP (M.sub (cn (List.nil_sublist _))) (fun w1 M => zl (k := j) Tryz.underlying22 (by kernel_rfl) rfl rfl rfl lt1 (by omega)) λa H↦?_
     refine qe H 3 rfl rfl rfl rfl hP (M.sub (cn (List.nil_sublist _))) (fun w1 M => jd M Ht1 LiQ_isS_30 rfl rfl) λa H↦?_
     refine qe H 4 rfl rfl rfl rfl hP (M.sub (cn (List.nil_sublist _))) (fun w1 M => jd M hHg2 LiQ_isS_30 rfl rfl) λa H↦?_
     refine qi (by kernel_rfl) (za H 5 rfl rfl rfl rfl (qj rfl rfl (fun w => by kernel_rfl)) (qbe (t := t1) (u := x) (Dt.keep M.bel _ rt1_) (Dt.keep M.bel _ hrx) (hT.below M.bel)) ?_)
     rintro _ w76 ⟨rfl, hb75⟩
     replace M := M.call hb75
     refine ⟨_, rfl, (M.sub (cn (List.nil_sublist _))), ?_⟩
     intro a H
     refine zb (by kernel_rfl) ?_
     refine hK74 _ _ ?_
     refine wp_cond_split (t := ur t1.tr x.tr) (H.ev rfl) (fun hc77 => ?_) (fun hc77 => ?_)
     ·
      refine wrl (sdm H λa H↦?_)
      refine sdo (v := .int .i64 (((c1 + 1 : Nat) : Int))) H (qf rfl rfl (fun w => (xb (kd (by omega) (by omega)) w).trans (by rw [show (((c1 : Nat) : Int) + 1 : Int) = ((c1 + 1 : Nat) : Int) from by omega]))) λa H↦?_
      refine sda H λa H↦?_
      refine qa ?_
      exact hJ67 _ _ ⟨c1 + 1, (zdh it1 hc1 hc77), H.keep _ (by repeat' constructor), M⟩
     ·
      refine wp_skip ?_
      exact hJ67 _ _ ⟨c1, (zob it1 hc1 hc77), H.keep _ (by repeat' constructor), M⟩
    refine wsk fun K78 hK78 => ?_
    obtain ⟨t1, bt1, ot1, it1, mt1, rt1_, lt1, Ht1⟩ := zfg hRv hDv (i := j) (by omega)
    obtain ⟨t3, bt3, ot3, it3, mt3, rt3_, lt3, Ht3⟩ := zfg hRv hDv (i := (j - 1)) (by omega)
    have hnn : 0 < j → ¬ 0 < qtc t3.tr t1.tr := fun h9 => zae hve hXs it3 it1 (by omega)
    refine jc (S := fun w1 => Mg w42 w1 ([])) (by kernel_rfl) ?_
    replace M := M.drew
    refine qe H 0 rfl rfl rfl rfl hP (M.sub (cn (List.nil_sublist _))) (fun w1 M => qg rfl) λa H↦?_
    rcases tf (decide (0 < ((j : Nat) : Int))) with hb79 | hb79
    ·
     have hb79' := of_decide_eq_true hb79
     refine qe (v := .bool true) H 1 rfl rfl rfl rfl hP (M.sub (cn (List.nil_sublist _))) (fun w1 M => qf rfl rfl (fun w => (js w).trans (by rw [hb79]))) λa H↦?_
     refine qe H 2 rfl rfl rfl rfl hP (M.sub (cn (List.nil_sublist _))) (fun w1 M => qg rfl) λa H↦?_
     refine qe H 3 rfl rfl rfl rfl hP (M.sub (cn (List.nil_sublist _))) (fun w1 M => qg rfl) λa H↦?_
     refine qe H 4 rfl rfl rfl rfl hP (M.sub (cn (List.nil_sublist _))) (fun w1 M => qg rfl) λa H↦?_
     refine qe (v := .int .i64 (((j - 1 : Nat) : Int))) H 5 rfl rfl rfl rfl hP (M.sub (cn (List.nil_sublist _))) (fun w1 M => qf rfl rfl (ar_sub ((in_i64 (by omega) (by omega)).trans (by omega)))) λa H↦?_
     refine qe (v := .pointer (some ⟨bt3, ot3 + (j - 1) * 11, none⟩)) H 6 rfl rfl rfl rfl hP (M.sub (cn (List.nil_sublist _))) (fun w1 M => zl (k := (j - 1)) Tryz.underlying22 (by kernel_rfl) rfl rfl rfl lt3 (by omega)) λa H↦?_
     refine qe H 7 rfl rfl rfl rfl hP (M.sub (cn (List.nil_sublist _))) (fun w1 M => jd M Ht3 LiQ_isS_30 rfl rfl) λa H↦?_
     refine qe H 8 rfl rfl rfl rfl hP (M.sub (cn (List.nil_sublist _))) (fun w1 M => qg rfl) λa H↦?_
     refine qe H 9 rfl rfl rfl rfl hP (M.sub (cn (List.nil_sublist _))) (fun w1 M => qg rfl) λa H↦?_
     refine qe (v := .pointer (some ⟨bt1, ot1 + j * 11, none⟩)) H 10 rfl rfl rfl rfl hP (M.sub (cn (List.nil_sublist _))) (fun w1 M => zl (k := j) Tryz.underlying22 (by kernel_rfl) rfl rfl rfl lt1 (by omega)) λa H↦?_
     refine qe H 11 rfl rfl rfl rfl hP (M.sub (cn (List.nil_sublist _))) (fun w1 M => jd M Ht1 LiQ_isS_30 rfl rfl) λa H↦?_
     refine qi (by kernel_rfl) (za H 12 rfl rfl rfl rfl (qj rfl rfl (fun w => by kernel_rfl)) (zdg (t := t3) (u := t1) (Dt.keep M.bel _ rt3_) (Dt.keep M.bel _ rt1_) (hT.below M.bel)) ?_)
     rintro _ w81 ⟨rfl, hb80⟩
     replace M := M.call hb80
     refine ⟨_, rfl, (M.sub (cn (List.nil_sublist _))), ?_⟩
     intro a H
     refine qe (v := .bool false) H 13 rfl rfl rfl rfl hP (M.sub (cn (List.nil_sublist _))) (fun w1 M => qf rfl rfl (fun w => (js w).trans (by rw [show (decide (0 < qtc t3.tr t1.tr)) = false from (decide_eq_false (hnn (by omega)))]))) λa H↦?_
     refine qe (v := .bool false) H 14 rfl rfl rfl rfl hP (M.sub (cn (List.nil_sublist _))) (fun w1 M => xn rfl rfl rfl rfl) λa H↦?_
     refine zb (by kernel_rfl) ?_
     refine hK78 _ _ (wp_cond_false (H.ev rfl) ?_)
     refine wp_skip ?_
     exact hJ63 _ _ ⟨H.keep _ (by repeat' constructor), M⟩
    ·
     have hb79' := of_decide_eq_false hb79
     refine qe (v := .bool false) H 1 rfl rfl rfl rfl hP (M.sub (cn (List.nil_sublist _))) (fun w1 M => qf rfl rfl (fun w => (js w).trans (by rw [hb79]))) λa H↦?_
     refine qe H 2 rfl rfl rfl rfl hP (M.sub (cn (List.nil_sublist _))) (fun w1 M => qg rfl) λa H↦?_
     refine jx H 3 rfl rfl rfl rfl hP (M.sub (cn (List.nil_sublist _))) λa H↦?_
     refine jx H 4 rfl rfl rfl rfl hP (M.sub (cn (List.nil_sublist _))) λa H↦?_
     refine jx H 5 rfl rfl rfl rfl hP (M.sub (cn (List.nil_sublist _))) λa H↦?_
     refine jx H 6 rfl rfl rfl rfl hP (M.sub (cn (List.nil_sublist _))) λa H↦?_
     refine jx H 7 rfl rfl rfl rfl hP (M.sub (cn (List.nil_sublist _))) λa H↦?_
     refine jx H 8 rfl rfl rfl rfl hP (M.sub (cn (List.nil_sublist _))) λa H↦?_
     refine jx H 9 rfl rfl rfl rfl hP (M.sub (cn (List.nil_sublist _))) λa H↦?_
     refine jx H 10 rfl rfl rfl rfl hP (M.sub (cn (List.nil_sublist _))) λa H↦?_
     refine jx H 11 rfl rfl rfl rfl hP (M.sub (cn (List.nil_sublist _))) λa H↦?_
     refine jx H 12 rfl rfl rfl rfl hP (M.sub (cn (List.nil_sublist _))) λa H↦?_
     refine jx H 13 rfl rfl rfl rfl hP (M.sub (cn (List.nil_sublist _))) λa H↦?_
     refine qe (v := .bool false) H 14 rfl rfl rfl rfl hP (M.sub (cn (List.nil_sublist _))) (fun w1 M => xn rfl rfl rfl rfl) λa H↦?_
     refine zb (by kernel_rfl) ?_
     refine hK78 _ _ (wp_cond_false (H.ev rfl) ?_)
     refine wp_skip ?_
     exact hJ63 _ _ ⟨H.keep _ (by repeat' constructor), M⟩
   ·
    have hb60' := of_decide_eq_false hb60
    refine sdc H qz hb60 λa H↦?_
    refine qa (hK59 _ _ (wp_cond_false (H.ev rfl) ?_))
    refine wp_exit (hK53 _ _ (wsk fun K82 hK82 => ?_))
    have hcc : c1 = c2 := zrh hve hvl (by omega) hc1 hc2
    refine wrl ?_
    iterate 2 refine sdm H λa H↦?_
    refine sdo (v := .bool true) H (qf rfl rfl (fun w => (qp w).trans (by rw [show ((((c1 : Nat) : Int) == ((c2 : Nat) : Int))) = true from (beq_iff_eq.2 (by omega))]))) λa H↦?_
    refine sda H λa H↦?_
    refine qa (hK82 _ _ (wp_ret (hret _ _ (en1 H rfl (qh rfl) ?_))))
    exact ⟨rfl, hB6.trans (M.bel.mono hB6.size)⟩
  ·
   refine sct H (ef rfl rfl) (zoa (t := d) (Dt.keep M.bel _ hrd) (by omega) (hT.below M.bel) hb15) ?_
   rintro _ w84 ⟨s, ks, rfl, ⟨hrs, -, hts⟩, hb83⟩
   have hks : ks = 2 := congrArg Prod.snd hts
   replace M := M.call hb83
   refine ⟨_, rfl, ?_⟩
   intro a H
   have hB2 := hB1.trans (M.bel.mono hB1.size)
   replace hT := hT.below M.bel
   replace hHg2 := hHg2.below M.bel
   replace hRx := hRx.below M.bel
   replace hDx := fun t ht => Dt.keep M.bel _ (hDx t ht)
   replace hrx := Dt.keep M.bel _ hrx
   replace hrd := Dt.keep M.bel _ hrd
   have hHg11 := M.here 0 (cs := (d.d.cells d.ts.length)) rfl
   replace M : Mg w84 w84 [] := Mg.start w84
   refine sdm H λa H↦?_
   iterate 2 refine sdo H (zj (vs := [.agg (s.d.cells s.ts.length).toArray, .int .i64 ks]) rfl rfl) λa H↦?_
   refine ja (vs := (qr.d.cells qr.ts.length)) (t := 30) H M rfl rfl rfl pg (qk (z := .agg (qr.d.cells qr.ts.length).toArray) (by kernel_rfl) rfl) (by decide) ?_
   intro g85 w86 M a H
   refine zu (us := (s.d.cells s.ts.length)) (L' := (.obj g85 (.cells (s.d.cells s.ts.length).toArray 30) :: [])) H M rfl rfl (ze rfl rfl rfl (by kernel_rfl) M 0 rfl rfl rfl) 0 rfl rfl rfl ?_
   intro w87 M
   refine sda H λa H↦?_
   refine qa (hK14 _ _ (wsk fun K88 hK88 => wsk fun K89 hK89 => wrl (sct H (ef rfl rfl) (qge (hT.below M.bel)) ?_)))
   rintro _ w91 ⟨rfl, hb90⟩
   replace M := M.call hb90
   refine ⟨_, rfl, ?_⟩
   intro a H
   refine sdo (v := .bool false) H (zk rfl zx) λa H↦?_
   iterate 2 refine sdm H λa H↦?_
   refine sdo (v := .bool true) H (qf rfl rfl (fun w => (zm w).trans (by rw [show ((ks != 0)) = true from (bne_iff_ne.2 (by omega))]))) λa H↦?_
   refine sdk (v := .bool true) H λa H↦?_
   refine qa (hK89 _ _ (wp_cond_true (H.ev rfl) ?_))
   refine wsk fun K92 hK92 => wrl (sct H (ef rfl rfl) (qge (hT.below M.bel)) ?_)
   rintro _ w94 ⟨rfl, hb93⟩
   replace M := M.call hb93
   refine ⟨_, rfl, ?_⟩
   intro a H
   refine sdm H λa H↦?_
   refine sdo H (jd M hHg11 LiQ_isS_30 rfl rfl) λa H↦?_
   refine gcl H M (ef rfl rfl) (zua (t := d) (zub htd hb15)) fun w96 hb95 M a H => ?_
   refine sdo (v := .bool true) H (zk rfl zx) λa H↦?_
   refine sdk (v := .bool true) H λa H↦?_
   refine sda H λa H↦?_
   refine qa (hK92 _ _ (wp_ret (hret _ _ (en1 H rfl (qh rfl) ?_))))
   exact ⟨rfl, hB2.trans (M.bel.mono hB2.size)⟩
 refine wsk fun K97 hK97 => wrl (sdm H λa H↦?_)
 refine sdo H (zf Tryz.underlying22 rfl) λa H↦?_
 rcases tf (decide (300 < ((ts.length : Nat) : Int))) with hb98 | hb98
 ·
  have hb98' := of_decide_eq_true hb98
  refine sdc H js hb98 λa H↦?_
  refine qa (hK97 _ _ (wp_cond_true (H.ev rfl) ?_))
  refine wrl (sdm H λa H↦?_)
  refine sdo (v := .slice si ((ts.take 300).length) ca) H (zec (sz := 11) (hi := (ts.take 300).length) Tryz.underlying22 (by kernel_rfl) rfl rfl (by rw [List.length_take]; omega) (by rw [List.length_take]; omega)) λa H↦?_
  refine sda H λa H↦?_
  refine qa ?_
  exact hJ5 _ _ ⟨ts.take 300, ⟨hR.take 300, fun t ht => hD t (List.mem_of_mem_take ht), Nat.le_trans (qyj 300) hb, (by rw [List.length_take]; omega)⟩, H.keep _ ⟨rfl, rfl, rfl, rfl, trivial⟩, M⟩
 ·
  have hb98' := of_decide_eq_false hb98
  refine sdc H js hb98 λa H↦?_
  refine qa (hK97 _ _ (wp_cond_false (H.ev rfl) ?_))
  refine wp_skip ?_
  exact hJ5 _ _ ⟨ts, ⟨hR, hD, hb, by omega⟩, H.keep _ ⟨rfl, rfl, rfl, rfl, trivial⟩, M⟩
end Go.Proofs.YtipikhcmieboaaaGreatDoor.G
namespace Go.Proofs.YtipikhcmieboaaaGreatDoor
set_option linter.unusedVariables false

section
variable {H : Type}
theorem qwj (d : DataW H) : 0 < Rows.uptoBulk d := by
  unfold Rows.uptoBulk
  split <;> omega
theorem qxa : ∀ l : List (DataW H), l.length ≤ Rows.uptoBulkAll l
  | [] => by simp
  | d :: l => by
    have h1 := qwj d
    have h2 := qxa l
    simp only [Rows.uptoBulkAll, List.length_cons]
    omega
theorem qxb (xs ys : List (DataW H)) : xs.length ≤ Rows.uptoBulk (.slice xs ys) := by
  have := qxa xs
  simp only [Rows.uptoBulk]
  omega
theorem qib {d : DataW H} : ∀ {l : List (DataW H)}, d ∈ l → Rows.uptoBulk d ≤ Rows.uptoBulkAll l
  | c :: l, h => by
    simp only [Rows.uptoBulkAll]
    rcases List.mem_cons.1 h with rfl | h
    · omega
    · have := qib h
      omega
theorem zdi {l : List (DataW H)} (hk : Rows.uptoSmall H l = true) {j : Nat} {d : DataW H} (hd : l[j]? = some d) : Rows.uptoBulk d ≤ 1048576 :=
  Nat.le_trans (qib (List.mem_of_getElem? hd)) (of_decide_eq_true hk)
end
end Go.Proofs.YtipikhcmieboaaaGreatDoor
namespace Go.Proofs.YtipikhcmieboaaaGreatDoor.G
open Go.ChangeShapes Go.WideShapes Go.ChangeAt Go.RowKit Go.Joins Go.Deep
set_option linter.unusedVariables false
set_option linter.unusedSimpArgs false
set_option maxRecDepth 100000

section
variable {H : Type} {enc : TypeId × Value → H} {W : World}
end
theorem zhg {w : World} {x : Addr} {len cap : Nat} {zs : List Int} (hl : len ≤ cap) (hz : zs.length = cap)
    (hc : ∀ i, i < zs.length → w.cell? (x.add i) = some (.int .u8 (zs.getD i 0))) (hw : ∀ n ∈ zs, (Lit.int .u8 n).wf = true) :
    ∃ l : List UInt8, l.length = len ∧ Rb w (some x) l := by
  have hbd : ∀ n ∈ zs, 0 ≤ n ∧ n < 256 := by
    intro n hn
    have := bounds_u8 (hw n hn)
    omega
  refine ⟨(zs.take len).map b8, by rw [List.length_map, List.length_take]; omega, ⟨fun hne => ?_⟩⟩
  have hlen : ((zs.take len).map b8).length = len := by rw [List.length_map, List.length_take]; omega
  have h0 : 0 < len := by
    apply Classical.byContradiction
    intro h
    have : len = 0 := by omega
    subst this
    simp at hne
  obtain ⟨b, off, spot⟩ := x
  have hspot : spot = none := by
    have := hc 0 (by omega)
    simp only [World.cell?, Addr.add] at this
    split at this
    · cases spot with
      | none => rfl
      | some s => simp at this
    · cases this
  subst hspot
  have hcj : ∀ j, j < len → w.cell? ⟨b, off + j, none⟩ = some (.int .u8 (((((zs.take len).map b8).getD j 0).toNat : Nat) : Int)) := by
    intro j hj
    have h1 := hc j (by omega)
    rw [Addr.add_lit] at h1
    rw [h1]
    have hjz : j < zs.length := by omega
    have h2 := hbd zs[j] (List.getElem_mem hjz)
    have e1 : zs.getD j 0 = zs[j] := by simp [hjz]
    have e2 : ((zs.take len).map b8).getD j 0 = b8 zs[j] := by simp [List.getD_eq_getElem?_getD, hj, hjz]
    rw [e1, e2, zsb h2.1 h2.2]
  refine ⟨b, off, rfl, ?_, fun j hj => hcj j (by omega)⟩
  have := hcj 0 h0
  apply Classical.byContradiction
  intro h
  simp [World.cell?, Array.getElem?_eq_none (Nat.le_of_not_lt h)] at this
section
variable {H : Type} {enc : TypeId × Value → H} {W : World}
end
theorem Rb.take {w : World} {so : Option Addr} {l : List UInt8} (h : Rb w so l) (n : Nat) : Rb w so (l.take n) := by
  refine ⟨fun hne => ?_⟩
  obtain ⟨b, off, h1, h2, h3⟩ := h.pos (fun k => hne (by rw [k]; simp))
  refine ⟨b, off, h1, h2, fun j hj => ?_⟩
  rw [List.length_take] at hj
  rw [h3 j (by omega), List.getD_eq_getElem?_getD, List.getD_eq_getElem?_getD, List.getElem?_take_of_lt (by omega)]
section
variable {P : Program} {w : World} {l : List (Nat × Value)} {dst : Option Tmp} {ty : TypeId} {pos : String} {after : Array Edge} {guard : Option (Nat × Bool)}
end
def Nu.cells (y : Nu) : List Value := [.bool y.q.b1, .slice y.o1 y.q.t1.length y.c1, .slice y.o2 y.q.q1.length y.c2, .bool y.q.b2, .slice y.o3 y.q.t2.length y.c3, .slice y.o4 y.q.q2.length y.c4]
theorem zoc {w : World} {b o : Nat} {v : Value} (h : w.cell? ⟨b, o, none⟩ = some v) : b < w.heap.size := by
  apply Classical.byContradiction
  intro k
  simp [World.cell?, Array.getElem?_eq_none (Nat.le_of_not_lt k)] at h
section
variable {H : Type} {enc : TypeId × Value → H} {W : World}
theorem qma (l : List (DataW H)) : Rows.uptoBulk (.agg l) = Rows.uptoBulkAll l + 1 := by simp only [Rows.uptoBulk]
theorem qxc {fuel : Nat} {v : Value} {x : DataW H × List MemPlace} (h : DataW.trod enc Tryz.prog W 0 (fun _ => true) true fuel 28 [v] = some x) : ∃ so cap l, v = .slice so (l : List UInt8).length cap ∧ Rb W so l ∧ l.length ≤ cap ∧ cap ≤ 9223372036854775807 ∧ l.length ≤ Rows.uptoBulk x.1 := by
  rcases open_ints Tryz.underlying28 Tryz.underlying5 (by kernel_rfl) h with ⟨hcs, _⟩ | ⟨x, l, c, zs, hcs, _, hl, hm, hz, hx, hcell, hwz⟩
  · simp only [List.cons.injEq, and_true] at hcs
    subst hcs
    exact ⟨none, 0, [], rfl, ⟨fun k => absurd rfl k⟩, Nat.le_refl _, by decide, Nat.zero_le _⟩
  · simp only [List.cons.injEq, and_true] at hcs
    subst hcs
    obtain ⟨us, e, ha⟩ := zhg hl (by simpa using hz) hcell hwz
    subst e
    subst hx
    refine ⟨_, _, us, rfl, ha, hl, hm, ?_⟩
    simp only [if_true] at hz
    refine Nat.le_trans ?_ (qxb _ _)
    simp only [lits, List.length_map, List.length_take, List.length_drop]
    omega
theorem qhc {fuel : Nat} {v : Value} {x : DataW H × List MemPlace} (h : DataW.trod enc Tryz.prog W 0 (fun _ => true) true fuel 23 [v] = some x) : ∃ ao c l, v = .slice ao (l : List Nat).length c ∧ Arg W ao c l ∧ l.length ≤ Rows.uptoBulk x.1 := by
  rcases open_ints Tryz.underlying23 Tryz.underlying87 (by kernel_rfl) h with ⟨hcs, _⟩ | ⟨x, l, c, zs, hcs, _, hl, hm, hz, hx, hcell, hwz⟩
  · cases hcs
    exact ⟨none, 0, [], rfl, arg_nil W, Nat.zero_le _⟩
  · cases hcs
    obtain ⟨us, e, ha⟩ := arg_row hl hm (by simpa using hz) hcell hwz
    subst e
    subst hx
    refine ⟨_, _, us, rfl, ha, ?_⟩
    simp only [if_true] at hz
    refine Nat.le_trans ?_ (qxb _ _)
    simp only [lits, List.length_map, List.length_take, List.length_drop]
    omega
theorem qoh {fuel : Nat} {v0 v1 v2 : Value} {x : DataW H × List MemPlace} (h : DataW.trod enc Tryz.prog W 0 (fun _ => true) true fuel 25 [v0, v1, v2] = some x) : ∃ b o1 c1 l1 o2 c2 l2, v0 = .bool b ∧ v1 = .slice o1 (l1 : List Nat).length c1 ∧ v2 = .slice o2 (l2 : List Nat).length c2 ∧ Arg W o1 c1 l1 ∧ Arg W o2 c2 l2 ∧ l1.length + l2.length ≤ Rows.uptoBulk x.1 := by
  obtain ⟨y0, y1, y2, n, hx, _, h0, h1, h2⟩ := trod_struct3 Tryz.underlying25 h
  have e0 : Tryz.prog.cellsOf 4 = 1 := by kernel_rfl
  have e1 : Tryz.prog.cellsOf 23 = 1 := by kernel_rfl
  simp only [e0, e1, List.drop_zero, List.take_succ_cons, List.take_zero, List.drop_succ_cons] at h0 h1 h2
  obtain ⟨b, rfl⟩ := trod_bool h0
  obtain ⟨o1, c1, l1, rfl, a1, k1⟩ := qhc h1
  obtain ⟨o2, c2, l2, rfl, a2, k2⟩ := qhc h2
  refine ⟨b, o1, c1, l1, o2, c2, l2, rfl, rfl, rfl, a1, a2, ?_⟩
  rw [hx, qma]
  simp only [Rows.uptoBulkAll]
  omega
theorem zhh {fuel : Nat} {cs : List Value} {x : DataW H × List MemPlace} (hl : cs.length = 6) (h : DataW.trod enc Tryz.prog W 0 (fun _ => true) true fuel 27 cs = some x) :
    ∃ y : Nu, cs = y.cells ∧ y.nm W ∧ LenQ y.q ∧ y.q.t1.length + y.q.q1.length + (y.q.t2.length + y.q.q2.length) ≤ Rows.uptoBulk x.1 := by
  match cs, hl with
  | [v0, v1, v2, v3, v4, v5], _ =>
    obtain ⟨y0, y1, n, hx, _, h0, h1⟩ := trod_struct2 Tryz.underlying27 h
    have e : Tryz.prog.cellsOf 25 = 3 := by kernel_rfl
    simp only [e, List.drop_zero, List.take_succ_cons, List.take_zero, List.drop_succ_cons] at h0 h1
    obtain ⟨b1, o1, c1, l1, o2, c2, l2, rfl, rfl, rfl, a1, a2, k1⟩ := qoh h0
    obtain ⟨b2, o3, c3, l3, o4, c4, l4, rfl, rfl, rfl, a3, a4, k2⟩ := qoh h1
    refine ⟨⟨⟨b1, l1, l2, b2, l3, l4⟩, o1, c1, o2, c2, o3, c3, o4, c4⟩, rfl, ⟨⟨a1.rd, a1.nil, a1.caps⟩, ⟨a2.rd, a2.nil, a2.caps⟩, ⟨a3.rd, a3.nil, a3.caps⟩, ⟨a4.rd, a4.nil, a4.caps⟩⟩, ⟨a1.len, a2.len, a3.len, a4.len⟩, ?_⟩
    rw [hx, qma]
    simp only [Rows.uptoBulkAll]
    omega
/-- One datum, as it lies in a row of cells; and a list of them. -/
def OpenD (H : Type) (enc : TypeId × Value → H) (W : World) (fuel : Nat) : Prop := ∀ (cs : List Value) (x : DataW H × List MemPlace), DataW.trod enc Tryz.prog W 0 (fun _ => true) true fuel 30 cs = some x → ∃ t : Dt, cs = t.cells ∧ t.rd W ∧ t.tr.bulk ≤ Rows.uptoBulk x.1
theorem qmb {fuel : Nat} {v : Value} {x : DataW H × List MemPlace} (ih : ∀ n, n < fuel → OpenD H enc W n) (h : DataW.trod enc Tryz.prog W 0 (fun _ => true) true fuel 22 [v] = some x) :
    ∃ lo lc ts, v = .slice lo (ts : List Dt).length lc ∧ ts.length ≤ lc ∧ lc ≤ 9223372036854775807 ∧ Rt W lo ts ∧ (∀ t ∈ ts, t.rd W) ∧ Tr.bulks (ts.map Dt.tr) ≤ Rows.uptoBulk x.1 := by
  rcases DataW.trod_slice Tryz.underlying22 h with ⟨hcs, _⟩ | ⟨a, len, cap, elems, rest, n, hf, hcs, hx, _, hl, hm, hlen, hel, _, _⟩
  · simp only [List.cons.injEq, and_true] at hcs
    subst hcs
    exact ⟨none, 0, [], rfl, Nat.le_refl _, by decide, fun k => absurd rfl k, fun _ k => by simp at k, Nat.zero_le _⟩
  · simp only [List.cons.injEq, and_true] at hcs
    subst hcs
    rw [show Tryz.prog.cellsOf 30 = 11 from by kernel_rfl] at hel
    have each : ∀ i, ∃ t : Dt, i < len → t.rd W ∧ (∀ j v, t.cells[j]? = some v → W.cell? ((a.add (i * 11)).add j) = some v) ∧ ∃ y, elems[i]? = some y ∧ t.tr.bulk ≤ Rows.uptoBulk y.1 := by
      intro i
      by_cases hi : i < len
      · have h1 := hel i hi
        rw [List.getElem?_eq_getElem (by omega)] at h1
        obtain ⟨cs, h2, h3⟩ := Option.bind_eq_some_iff.1 h1
        obtain ⟨_, hlc, hcell⟩ := World.cells?_some h2
        obtain ⟨t, rfl, hr, hb⟩ := ih n (by omega) cs _ h3
        exact ⟨t, fun _ => ⟨hr, fun j v hj => by rw [hcell j (by have := (List.getElem?_eq_some_iff.1 hj).1; rw [hlc] at this; exact this)]; exact hj, _, List.getElem?_eq_getElem (by omega), hb⟩⟩
      · exact ⟨.mk ⟨0, 0, ⟨⟨false, [], [], false, [], []⟩, none, 0, none, 0, none, 0, none, 0⟩, ⟨#[]⟩, none, 0, [], none, 0⟩ [], fun k => absurd k hi⟩
    obtain ⟨F, hF⟩ := Classical.skolem.1 each
    have hget : ∀ (j : Nat) (q : Dt), ((List.range len).map F)[j]? = some q → j < len ∧ q = F j := by
      intro j q hq
      rw [List.getElem?_map] at hq
      obtain ⟨y, h1, h2⟩ := Option.map_eq_some_iff.1 hq
      obtain ⟨h3, h4⟩ := List.getElem?_eq_some_iff.1 h1
      rw [List.length_range] at h3
      rw [List.getElem_range] at h4
      subst h4
      exact ⟨h3, h2.symm⟩
    refine ⟨some a, cap, (List.range len).map F, by simp, by simpa using hl, hm, fun hne => ?_, fun t ht => ?_, ?_⟩
    · have hn : 0 < len := by
        apply Classical.byContradiction
        intro k
        exact hne (by rw [show len = 0 from by omega]; rfl)
      obtain ⟨b, off, spot⟩ := a
      have h0 := (hF 0 hn).2.1 0 _ rfl
      have hspot : spot = none := by simpa [Addr.add] using World.cell?_spot h0
      subst hspot
      refine ⟨b, off, rfl, fun i t hi => ?_⟩
      obtain ⟨hlt, rfl⟩ := hget i t hi
      have hat : ∀ j v, (F i).cells[j]? = some v → W.cell? ⟨b, off + i * 11 + j, none⟩ = some v := fun j v hj => by
        have := (hF i hlt).2.1 j v hj
        rwa [Addr.add_lit, Addr.add_lit] at this
      exact ⟨zoc (hat 0 _ rfl), hat⟩
    · obtain ⟨j, hj⟩ := List.mem_iff_getElem?.1 ht
      obtain ⟨h1, rfl⟩ := hget j t hj
      exact (hF j h1).1
    · rw [hx]
      have key : ∀ m, m ≤ len → Tr.bulks (((List.range m).map F).map Dt.tr) ≤ Rows.uptoBulkAll ((elems.map (·.1)).take m) := by
        intro m
        induction m with
        | zero => intro _; simp [Tr.bulks]
        | succ m ih2 =>
          intro hm2
          have hs : ∀ (l : List Tr) (t : Tr), Tr.bulks (l ++ [t]) = Tr.bulks l + t.bulk := by
            intro l t
            induction l with
            | nil => simp [Tr.bulks]
            | cons u l ih3 => simp only [List.cons_append, Tr.bulks, ih3]; omega
          have hu : ∀ (l : List (DataW H)) (d : DataW H), Rows.uptoBulkAll (l ++ [d]) = Rows.uptoBulkAll l + Rows.uptoBulk d := by
            intro l d
            induction l with
            | nil => simp [Rows.uptoBulkAll]
            | cons u l ih3 => simp only [List.cons_append, Rows.uptoBulkAll, ih3]; omega
          obtain ⟨_, _, y, hy, hb⟩ := hF m (by omega)
          have := ih2 (by omega)
          rw [List.range_succ, List.map_append, List.map_append, List.take_add_one, List.getElem?_map, hy]
          simp only [List.map_cons, List.map_nil, Option.map_some, Option.toList_some]
          rw [hs, hu]
          omega
      have h1 := key len (Nat.le_refl _)
      rw [List.take_of_length_le (by rw [List.length_map]; omega)] at h1
      simp only [Rows.uptoBulk]
      omega
theorem zdj : ∀ fuel, OpenD H enc W fuel := by
  intro fuel
  induction fuel using Nat.strongRecOn with
  | ind fuel ih =>
    intro cs x h
    obtain ⟨xs, n, hfu, hx, hl, hxl, hf⟩ := DataW.trod_struct Tryz.underlying30 h
    rw [show Tryz.prog.cellsOf 30 = 11 from by kernel_rfl] at hl
    match cs, hl with
    | [v0, v1, v2, v3, v4, v5, v6, v7, v8, v9, v10], _ =>
      match xs, hxl with
      | [x0, x1, x2, x3, x4, x5], _ =>
        have g0 := hf 0 _ rfl
        have g1 := hf 1 _ rfl
        have g2 := hf 2 _ rfl
        have g3 := hf 3 _ rfl
        have g4 := hf 4 _ rfl
        have g5 := hf 5 _ rfl
        have c1 : Tryz.prog.cellsOf 3 = 1 := by kernel_rfl
        have c2 : Tryz.prog.cellsOf 27 = 6 := by kernel_rfl
        have c3 : Tryz.prog.cellsOf 9 = 1 := by kernel_rfl
        have c4 : Tryz.prog.cellsOf 28 = 1 := by kernel_rfl
        have c5 : Tryz.prog.cellsOf 22 = 1 := by kernel_rfl
        simp only [c1, c2, c3, c4, c5, List.drop_zero, List.take_succ_cons, List.take_zero, List.drop_succ_cons, List.getElem?_cons_zero, List.getElem?_cons_succ] at g0 g1 g2 g3 g4 g5
        obtain ⟨k, e0, _, w0⟩ := DataW.trod_int Tryz.underlying3 g0
        obtain ⟨m, e1, _, w1⟩ := DataW.trod_int Tryz.underlying3 g1
        obtain ⟨y, e2, hy, hq, b2⟩ := zhh rfl g2
        obtain ⟨s, e3, hs, hsm⟩ := DataW.trod_string Tryz.underlying9 g3
        obtain ⟨ro, rc, rl, e4, hr, hrc, hrm, b4⟩ := qxc g4
        obtain ⟨lo, lc, ts, e5, hlc, hlm, hrt, hrd, b5⟩ := qmb (fun n' hn' => ih n' (by omega)) g5
        have bk := bounds_i64 w0
        have bm := bounds_i64 w1
        refine ⟨.mk ⟨k, m, y, s, ro, rc, rl, lo, lc⟩ ts, ?_, ?_, ?_⟩
        · injection e0 with f0
          injection e1 with f1
          injection e3 with f3
          injection e2 with e20 g
          injection g with e21 g
          injection g with e22 g
          injection g with e23 g
          injection g with e24 g
          injection g with e25 g
          subst f0 f1 f3 e4 e5 e20 e21 e22 e23 e24 e25
          rfl
        · rw [Dt.rd_iff]
          exact ⟨⟨hy, hq, hr, hrc, hrm, bk.1, bk.2, bm.1, bm.2, hsm⟩, hlc, hlm, hrt, hrd⟩
        · rw [Dt.tr_mk, vu, hx, qma]
          have h3 : Rows.uptoBulk x3.1 = s.size + 1 := by
            rw [hs]
            rw [show Rows.uptoBulk (DataW.lit (H := H) (.string s.data.toList)) = s.data.toList.length + 1 from by simp only [Rows.uptoBulk], Array.length_toList]
            rfl
          simp only [List.map_cons, List.map_nil, Rows.uptoBulkAll]
          have := qwj x0.1
          omega
theorem zaf {base : Nat} {v : Value} {d : DataW H} {p : List MemPlace} (hv : Value.okWide Tryz.prog W .any base 30 v) (h : DataW.Trod enc Tryz.prog W 0 (fun _ => true) true 30 v d p) :
    ∃ t : Dt, v = .agg t.cells.toArray ∧ t.rd W ∧ t.tr.bulk ≤ Rows.uptoBulk d := by
  obtain ⟨cs, rfl, hsz⟩ := okWide_struct Tryz.underlying30 hv
  obtain ⟨fuel, hf⟩ := h
  obtain ⟨t, e, hr, hb⟩ := zdj fuel _ _ hf
  refine ⟨t, ?_, hr, hb⟩
  rw [← e]
  rfl
theorem zhi {base : Nat} {v : Value} {d : DataW H} {p : List MemPlace} (hv : Value.okWide Tryz.prog W .any base 22 v) (h : DataW.Trod enc Tryz.prog W 0 (fun _ => true) true 22 v d p) :
    ∃ lo lc ts, v = .slice lo (ts : List Dt).length lc ∧ ts.length ≤ lc ∧ Rt W lo ts ∧ (∀ t ∈ ts, t.rd W) ∧ Tr.bulks (ts.map Dt.tr) ≤ Rows.uptoBulk d := by
  obtain ⟨a, n, c, rfl⟩ := okWide_slice Tryz.underlying22 hv
  obtain ⟨fuel, hf⟩ := h
  obtain ⟨lo, lc, ts, e, h1, _, h2, h3, h4⟩ := qmb (v := .slice a n c) (fun n _ => zdj n) hf
  exact ⟨lo, lc, ts, e, h1, h2, h3, h4⟩
end
end Go.Proofs.YtipikhcmieboaaaGreatDoor.G
