/- Walks of SortBy, where the firsts are characters. The walk of SortBy, where the firsts are characters. Pairs of two characters: what ListsStable builds, and what becomes of it. Walks of the order of numbers. Walks of the document's sameness and order of numbers. The same trees. The walk of the document's utf8. Units of a text as rows; when a text has no bad byte. Walks of the document's Sound. The walk of the document's Sound. The walk of the document's sameness of data. Walks of the document's lists. Walks of the document's Of, Reverse, Tail and Append. The walk of the law of joined lists. The walk of the law of lists that are made. The walk of ListsStable. Transcoders that come in as arguments. Rows of bytes that come in as arguments; the first part of a row, and of a text. -/
import Derived.Test.YtbnjomifogjdfaaGreatDoorPlistss11g
import Derived.Test.YtbnjomifogjdfaaGreatDoorPlistss11f
import Derived.Test.YtbnjomifogjdfaaGreatDoorPlistss11c
import Derived.Test.YtbnjomifogjdfaaGreatDoorPlistss11d
import Derived.Test.YtbnjomifogjdfaaGreatDoorProg
import Derived.Lib.ConvBytes
import Derived.WalkKit
import Derived.ProofKit
import Derived.OpenShut
import Derived.ChangeOld
import Derived.Lib.SmallJoins
import Derived.Deep.Strs
namespace Go.Proofs.YtbnjomifogjdfaaGreatDoor.G
open Go.RowKit
set_option linter.unusedVariables false
set_option linter.unusedSimpArgs false
set_option maxRecDepth 100000
theorem LiW_is1_3 : Is1 Tryz.prog 3 := ⟨⟨_, Tryz.underlying3, rfl⟩, by kernel_rfl⟩
theorem LiW_is1_63 : Is1 Tryz.prog 63 := ⟨⟨_, Tryz.underlying63, rfl⟩, by kernel_rfl⟩
theorem LiW_fld_30_0 : FieldAt Tryz.prog 30 0 0 := ⟨_, _, Tryz.underlying30, rfl, rfl, by kernel_rfl⟩
theorem LiW_fld_30_1 : FieldAt Tryz.prog 30 1 1 := ⟨_, _, Tryz.underlying30, rfl, rfl, by kernel_rfl⟩
theorem LiW_isS_30 : IsS Tryz.prog 30 11 := ⟨⟨_, Tryz.underlying30⟩, by kernel_rfl⟩
theorem nanW_any {w : World} {n : Int} : Calls Tryz.prog 97 #[.int .i64 n] w fun e w' => e = .returned (.bool false) ∧ Below w.heap.size w w' := by
 have hM : Mg w w ([]) := Mg.start w
 refine walk_of (l := [(0, .int .i64 n)]) Tryz.func97 rfl Tryz.ntmps97 rfl rfl ?_
 intro Q hret hnorm hP a hA
 refine wp_seq_k (fun K1 hK1 => ?_)
 refine wp_region_lit ?_
 refine seq_do hA rfl rfl rfl (does_assign rfl) ?_
 intro a hA
 refine seq_end ?_
 refine hK1 _ _ ?_
 refine wp_seq_k (fun K2 hK2 => ?_)
 refine wp_region_lit ?_
 refine seq_do hA rfl rfl rfl (does_move rfl) ?_
 intro a hA
 refine seq_do hA rfl rfl rfl (does_move rfl) ?_
 intro a hA
 refine seq_do (v := .bool false) hA rfl rfl rfl (does_bin rfl rfl (fun w => (bin_neq w).trans (by rw [show ((n != n)) = false from (bne_self_eq_false n)]))) ?_
 intro a hA
 refine seq_do hA rfl rfl rfl (does_assign rfl) ?_
 intro a hA
 refine seq_end ?_
 refine hK2 _ _ ?_
 refine wp_ret ?_
 refine hret _ _ ?_
 refine ends (v := .bool false) hA rfl (.cons (res_tmp rfl) .nil) rfl ?_
 exact ⟨rfl, hM.bel⟩
theorem cmpiW_any {w : World} {m n : Int} : Calls Tryz.prog 79 #[.int .i64 m, .int .i64 n] w fun e w' => e = .returned (.int .i64 (cmpI m n)) ∧ Below w.heap.size w w' := by
 have hM : Mg w w ([]) := Mg.start w
 refine walk_of (l := [(0, .int .i64 m), (1, .int .i64 n)]) Tryz.func79 rfl Tryz.ntmps79 rfl rfl ?_
 intro Q hret hnorm hP a hA
 refine wp_seq_k (fun K1 hK1 => ?_)
 refine wp_region_lit ?_
 refine seq_do hA rfl rfl rfl (does_assign rfl) ?_
 intro a hA
 refine seq_end ?_
 refine hK1 _ _ ?_
 refine wp_seq_k (fun K2 hK2 => ?_)
 refine wp_region_lit ?_
 refine seq_do hA rfl rfl rfl (does_move rfl) ?_
 intro a hA
 refine seq_call hA rfl rfl rfl (enters_func rfl rfl (fun w => by kernel_rfl)) (nanW_any) ?_
 rintro _ w4 ⟨rfl, hb3⟩
 replace hM := hM.call hb3
 refine ⟨_, rfl, ?_⟩
 intro a hA
 refine seq_do hA rfl rfl rfl (does_assign rfl) ?_
 intro a hA
 refine seq_end ?_
 refine hK2 _ _ ?_
 refine wp_seq_k (fun K5 hK5 => ?_)
 refine wp_region_lit ?_
 refine seq_do hA rfl rfl rfl (does_move rfl) ?_
 intro a hA
 refine seq_call hA rfl rfl rfl (enters_func rfl rfl (fun w => by kernel_rfl)) (nanW_any) ?_
 rintro _ w7 ⟨rfl, hb6⟩
 replace hM := hM.call hb6
 refine ⟨_, rfl, ?_⟩
 intro a hA
 refine seq_do hA rfl rfl rfl (does_assign rfl) ?_
 intro a hA
 refine seq_end ?_
 refine hK5 _ _ ?_
 refine wp_seq_k (fun K8 hK8 => ?_)
 refine wp_seq_k (fun K9 hK9 => ?_)
 refine wp_region_lit ?_
 refine seq_do hA rfl rfl rfl (does_move rfl) ?_
 intro a hA
 refine seq_end ?_
 refine hK9 _ _ ?_
 refine wp_cond_false (hA.ev rfl) ?_
 refine wp_skip ?_
 refine hK8 _ _ ?_
 refine wp_seq_k (fun K10 hK10 => ?_)
 refine wp_seq_k (fun K11 hK11 => ?_)
 refine wp_region_lit ?_
 refine seq_do hA rfl rfl rfl (does_move rfl) ?_
 intro a hA
 refine seq_end ?_
 refine hK11 _ _ ?_
 refine wp_cond_false (hA.ev rfl) ?_
 refine wp_skip ?_
 refine hK10 _ _ ?_
 refine wp_seq_k (fun K12 hK12 => ?_)
 refine wp_seq_k (fun K13 hK13 => ?_)
 refine wp_region_lit ?_
 refine seq_do hA rfl rfl rfl (does_move rfl) ?_
 intro a hA
 refine seq_do hA rfl rfl rfl (does_move rfl) ?_
 intro a hA
 rcases Bool.eq_false_or_eq_true (decide (m < n)) with hb14 | hb14
 · have hb14' := of_decide_eq_true hb14
   refine seq_do (v := .bool true) hA rfl rfl rfl (does_bin rfl rfl (fun w => (bin_lss w).trans (by rw [hb14]))) ?_
   intro a hA
   refine seq_end ?_
   refine hK13 _ _ ?_
   refine wp_cond_true (hA.ev rfl) ?_
   refine wp_seq_k (fun K15 hK15 => ?_)
   refine wp_region_lit ?_
   refine seq_do hA rfl rfl rfl (does_assign rfl) ?_
   intro a hA
   refine seq_end ?_
   refine hK15 _ _ ?_
   refine wp_ret ?_
   refine hret _ _ ?_
   refine ends (v := .int .i64 (-1)) hA rfl (.cons (res_tmp rfl) .nil) rfl ?_
   exact ⟨by rw [show cmpI m n = -1 from by unfold cmpI; (repeat' split) <;> omega], hM.bel⟩
 · have hb14' := of_decide_eq_false hb14
   refine seq_do (v := .bool false) hA rfl rfl rfl (does_bin rfl rfl (fun w => (bin_lss w).trans (by rw [hb14]))) ?_
   intro a hA
   refine seq_end ?_
   refine hK13 _ _ ?_
   refine wp_cond_false (hA.ev rfl) ?_
   refine wp_skip ?_
   refine hK12 _ _ ?_
   refine wp_seq_k (fun K16 hK16 => ?_)
   refine wp_seq_k (fun K17 hK17 => ?_)
   refine wp_region_lit ?_
   refine seq_do hA rfl rfl rfl (does_move rfl) ?_
   intro a hA
   refine seq_do hA rfl rfl rfl (does_move rfl) ?_
   intro a hA
   rcases Bool.eq_false_or_eq_true (decide (n < m)) with hb18 | hb18
   · have hb18' := of_decide_eq_true hb18
     refine seq_do (v := .bool true) hA rfl rfl rfl (does_bin rfl rfl (fun w => (bin_gtr w).trans (by rw [hb18]))) ?_
     intro a hA
     refine seq_end ?_
     refine hK17 _ _ ?_
     refine wp_cond_true (hA.ev rfl) ?_
     refine wp_seq_k (fun K19 hK19 => ?_)
     refine wp_region_lit ?_
     refine seq_do hA rfl rfl rfl (does_assign rfl) ?_
     intro a hA
     refine seq_end ?_
     refine hK19 _ _ ?_
     refine wp_ret ?_
     refine hret _ _ ?_
     refine ends (v := .int .i64 1) hA rfl (.cons (res_tmp rfl) .nil) rfl ?_
     exact ⟨by rw [show cmpI m n = 1 from by unfold cmpI; (repeat' split) <;> omega], hM.bel⟩
   · have hb18' := of_decide_eq_false hb18
     refine seq_do (v := .bool false) hA rfl rfl rfl (does_bin rfl rfl (fun w => (bin_gtr w).trans (by rw [hb18]))) ?_
     intro a hA
     refine seq_end ?_
     refine hK17 _ _ ?_
     refine wp_cond_false (hA.ev rfl) ?_
     refine wp_skip ?_
     refine hK16 _ _ ?_
     refine wp_seq_k (fun K20 hK20 => ?_)
     refine wp_region_lit ?_
     refine seq_do hA rfl rfl rfl (does_assign rfl) ?_
     intro a hA
     refine seq_end ?_
     refine hK20 _ _ ?_
     refine wp_ret ?_
     refine hret _ _ ?_
     refine ends (v := .int .i64 0) hA rfl (.cons (res_tmp rfl) .nil) rfl ?_
     exact ⟨by rw [show cmpI m n = 0 from by unfold cmpI; (repeat' split) <;> omega], hM.bel⟩
theorem orderW_any {w : World} {t u : Dt} (h4 : t.d.k = 4) (h5 : u.d.k = 4) : Calls Tryz.prog 61 #[.agg (t.d.cells t.ts.length).toArray, .agg (u.d.cells u.ts.length).toArray] w fun e w' => e = .returned (.int .i64 (cmpI t.d.n u.d.n)) ∧ Below w.heap.size w w' := by
 have hM : Mg w w ([]) := Mg.start w
 refine walk_of (l := [(0, .agg (t.d.cells t.ts.length).toArray), (1, .agg (u.d.cells u.ts.length).toArray)]) Tryz.func61 rfl Tryz.ntmps61 rfl rfl ?_
 intro Q hret hnorm hP a hA
 refine wp_seq_k (fun K1 hK1 => ?_)
 refine wp_region_lit ?_
 refine s_new (vs := [.int .i64 t.d.k, .int .i64 t.d.n, .bool t.d.y.q.b1, .slice t.d.y.o1 t.d.y.q.t1.length t.d.y.c1, .slice t.d.y.o2 t.d.y.q.q1.length t.d.y.c2, .bool t.d.y.q.b2, .slice t.d.y.o3 t.d.y.q.t2.length t.d.y.c3, .slice t.d.y.o4 t.d.y.q.q2.length t.d.y.c4, .string t.d.s, .slice t.d.ro t.d.rl.length t.d.rc, .slice t.d.lo t.ts.length t.d.lc]) (t := 30) hA hM rfl rfl rfl (fun g => .pointer (some ⟨g, 0, none⟩)) (does_box rfl rfl) (by decide) ?_
 intro g2 w3 hM a hA
 refine s_new (vs := [.int .i64 u.d.k, .int .i64 u.d.n, .bool u.d.y.q.b1, .slice u.d.y.o1 u.d.y.q.t1.length u.d.y.c1, .slice u.d.y.o2 u.d.y.q.q1.length u.d.y.c2, .bool u.d.y.q.b2, .slice u.d.y.o3 u.d.y.q.t2.length u.d.y.c3, .slice u.d.y.o4 u.d.y.q.q2.length u.d.y.c4, .string u.d.s, .slice u.d.ro u.d.rl.length u.d.rc, .slice u.d.lo u.ts.length u.d.lc]) (t := 30) hA hM rfl rfl rfl (fun g => .pointer (some ⟨g, 0, none⟩)) (does_box rfl rfl) (by decide) ?_
 intro g4 w5 hM a hA
 refine seq_do hA rfl rfl rfl (does_assign rfl) ?_
 intro a hA
 refine seq_end ?_
 refine hK1 _ _ ?_
 refine wp_seq_k (fun K6 hK6 => ?_)
 refine wp_block ?_
 refine wp_loop_rounds 12 ?_
 refine rounds_k (fun K7 hK7 => ?_)
 refine wp_seq_k (fun K8 hK8 => ?_)
 refine wp_seq_k (fun K9 hK9 => ?_)
 refine wp_region_lit ?_
 refine seq_do (v := .pointer (some ⟨g2, 0, none⟩)) hA rfl rfl rfl (does_field LiW_fld_30_0 rfl rfl) ?_
 intro a hA
 refine seq_do hA rfl rfl rfl (m_load1 hM LiW_is1_3 rfl 1 rfl rfl) ?_
 intro a hA
 refine seq_do (v := .bool false) hA rfl rfl rfl (does_bin rfl rfl (fun w => (bin_eql w).trans (by rw [show ((t.d.k == 8)) = false from (beq_eq_false_iff_ne.2 (by omega))]))) ?_
 intro a hA
 refine seq_do hA rfl rfl rfl (does_move rfl) ?_
 intro a hA
 refine seq_skip hA rfl rfl rfl ?_
 intro a hA
 refine seq_skip hA rfl rfl rfl ?_
 intro a hA
 refine seq_skip hA rfl rfl rfl ?_
 intro a hA
 refine seq_do (v := .bool false) hA rfl rfl rfl (does_pick rfl rfl rfl rfl) ?_
 intro a hA
 refine seq_end ?_
 refine hK9 _ _ ?_
 refine wp_cond_false (hA.ev rfl) ?_
 refine wp_exit ?_
 refine hK6 _ _ ?_
 refine wp_seq_k (fun K10 hK10 => ?_)
 refine wp_seq_k (fun K11 hK11 => ?_)
 refine wp_region_lit ?_
 refine seq_do (v := .pointer (some ⟨g2, 0, none⟩)) hA rfl rfl rfl (does_field LiW_fld_30_0 rfl rfl) ?_
 intro a hA
 refine seq_do hA rfl rfl rfl (m_load1 hM LiW_is1_3 rfl 1 rfl rfl) ?_
 intro a hA
 refine seq_do (v := .pointer (some ⟨g4, 0, none⟩)) hA rfl rfl rfl (does_field LiW_fld_30_0 rfl rfl) ?_
 intro a hA
 refine seq_do hA rfl rfl rfl (m_load1 hM LiW_is1_3 rfl 0 rfl rfl) ?_
 intro a hA
 refine seq_do (v := .bool false) hA rfl rfl rfl (does_bin rfl rfl (fun w => (bin_neq w).trans (by rw [show ((t.d.k != u.d.k)) = false from (bne_eq_false_iff_eq.2 (by omega))]))) ?_
 intro a hA
 refine seq_end ?_
 refine hK11 _ _ ?_
 refine wp_cond_false (hA.ev rfl) ?_
 refine wp_skip ?_
 refine hK10 _ _ ?_
 refine wp_seq_k (fun K12 hK12 => ?_)
 refine wp_seq_k (fun K13 hK13 => ?_)
 refine wp_region_lit ?_
 refine seq_do (v := .pointer (some ⟨g2, 0, none⟩)) hA rfl rfl rfl (does_field LiW_fld_30_0 rfl rfl) ?_
 intro a hA
 refine seq_do hA rfl rfl rfl (m_load1 hM LiW_is1_3 rfl 1 rfl rfl) ?_
 intro a hA
 refine seq_end ?_
 refine hK13 _ _ ?_
 refine wp_block ?_
 refine wp_seq_k (fun K14 hK14 => ?_)
 refine wp_seq_k (fun K15 hK15 => ?_)
 refine wp_region_lit ?_
 refine seq_do (v := .bool false) hA rfl rfl rfl (does_bin rfl rfl (fun w => (bin_eql w).trans (by rw [show ((t.d.k == 2)) = false from (beq_eq_false_iff_ne.2 (by omega))]))) ?_
 intro a hA
 refine seq_do hA rfl rfl rfl (does_assign rfl) ?_
 intro a hA
 refine seq_end ?_
 refine hK15 _ _ ?_
 refine wp_cond_false (hA.ev rfl) ?_
 refine wp_region_lit ?_
 refine seq_do (v := .bool true) hA rfl rfl rfl (does_bin rfl rfl (fun w => (bin_eql w).trans (by rw [show ((t.d.k == 4)) = true from (beq_iff_eq.2 h4)]))) ?_
 intro a hA
 refine seq_do hA rfl rfl rfl (does_assign rfl) ?_
 intro a hA
 refine seq_end ?_
 refine hK14 _ _ ?_
 refine wp_cond_true (hA.ev rfl) ?_
 refine wp_seq_k (fun K16 hK16 => ?_)
 refine wp_region_lit ?_
 refine seq_do (v := .pointer (some ⟨g2, 1, none⟩)) hA rfl rfl rfl (does_field LiW_fld_30_1 rfl rfl) ?_
 intro a hA
 refine seq_do hA rfl rfl rfl (m_load1 hM LiW_is1_3 rfl 1 rfl rfl) ?_
 intro a hA
 refine seq_do (v := .pointer (some ⟨g4, 1, none⟩)) hA rfl rfl rfl (does_field LiW_fld_30_1 rfl rfl) ?_
 intro a hA
 refine seq_do hA rfl rfl rfl (m_load1 hM LiW_is1_3 rfl 0 rfl rfl) ?_
 intro a hA
 refine seq_call hA rfl rfl rfl (enters_func rfl rfl (fun w => by kernel_rfl)) (cmpiW_any) ?_
 rintro _ w18 ⟨rfl, hb17⟩
 replace hM := hM.call hb17
 refine ⟨_, rfl, ?_⟩
 intro a hA
 refine seq_do hA rfl rfl rfl (does_assign rfl) ?_
 intro a hA
 refine seq_end ?_
 refine hK16 _ _ ?_
 refine wp_ret ?_
 refine hret _ _ ?_
 refine ends (v := .int .i64 (cmpI t.d.n u.d.n)) hA rfl (.cons (res_tmp rfl) .nil) rfl ?_
 exact ⟨rfl, hM.bel⟩
theorem bothW_any {w : World} {t u : Dt} (ht : t.rd w) (hu : u.rd w) (s1 : soundT shapeT t.tr = true) (s2 : soundT shapeT u.tr = true) (hT : Tabs8 w) : Calls Tryz.prog 60 #[.agg (t.d.cells t.ts.length).toArray, .agg (u.d.cells u.ts.length).toArray] w fun e w' => e = .returned (.bool true) ∧ Below w.heap.size w w' := by
 have hM : Mg w w ([]) := Mg.start w
 refine walk_of (l := [(0, .agg (t.d.cells t.ts.length).toArray), (1, .agg (u.d.cells u.ts.length).toArray)]) Tryz.func60 rfl Tryz.ntmps60 rfl rfl ?_
 intro Q hret hnorm hP a hA
 refine wp_seq_k (fun K1 hK1 => ?_)
 refine wp_region_lit ?_
 refine s_new (vs := [.int .i64 t.d.k, .int .i64 t.d.n, .bool t.d.y.q.b1, .slice t.d.y.o1 t.d.y.q.t1.length t.d.y.c1, .slice t.d.y.o2 t.d.y.q.q1.length t.d.y.c2, .bool t.d.y.q.b2, .slice t.d.y.o3 t.d.y.q.t2.length t.d.y.c3, .slice t.d.y.o4 t.d.y.q.q2.length t.d.y.c4, .string t.d.s, .slice t.d.ro t.d.rl.length t.d.rc, .slice t.d.lo t.ts.length t.d.lc]) (t := 30) hA hM rfl rfl rfl (fun g => .pointer (some ⟨g, 0, none⟩)) (does_box rfl rfl) (by decide) ?_
 intro g2 w3 hM a hA
 refine s_new (vs := [.int .i64 u.d.k, .int .i64 u.d.n, .bool u.d.y.q.b1, .slice u.d.y.o1 u.d.y.q.t1.length u.d.y.c1, .slice u.d.y.o2 u.d.y.q.q1.length u.d.y.c2, .bool u.d.y.q.b2, .slice u.d.y.o3 u.d.y.q.t2.length u.d.y.c3, .slice u.d.y.o4 u.d.y.q.q2.length u.d.y.c4, .string u.d.s, .slice u.d.ro u.d.rl.length u.d.rc, .slice u.d.lo u.ts.length u.d.lc]) (t := 30) hA hM rfl rfl rfl (fun g => .pointer (some ⟨g, 0, none⟩)) (does_box rfl rfl) (by decide) ?_
 intro g4 w5 hM a hA
 refine seq_do hA rfl rfl rfl (does_assign rfl) ?_
 intro a hA
 refine seq_end ?_
 refine hK1 _ _ ?_
 refine wp_seq_k (fun K6 hK6 => ?_)
 refine wp_region_lit ?_
 refine seq_do hA rfl rfl rfl (m_loadS hM LiW_isS_30 rfl 1 rfl (cs := [.int .i64 t.d.k, .int .i64 t.d.n, .bool t.d.y.q.b1, .slice t.d.y.o1 t.d.y.q.t1.length t.d.y.c1, .slice t.d.y.o2 t.d.y.q.q1.length t.d.y.c2, .bool t.d.y.q.b2, .slice t.d.y.o3 t.d.y.q.t2.length t.d.y.c3, .slice t.d.y.o4 t.d.y.q.q2.length t.d.y.c4, .string t.d.s, .slice t.d.ro t.d.rl.length t.d.rc, .slice t.d.lo t.ts.length t.d.lc]) rfl rfl) ?_
 intro a hA
 refine seq_call hA rfl rfl rfl (enters_func rfl rfl (fun w => by kernel_rfl)) ((s1 ▸ sound_any (t := t) (Dt.keep hM.bel _ ht) (hT.below hM.bel))) ?_
 rintro _ w8 ⟨rfl, hb7⟩
 replace hM := hM.call hb7
 refine ⟨_, rfl, ?_⟩
 intro a hA
 refine seq_do hA rfl rfl rfl (does_move rfl) ?_
 intro a hA
 refine seq_do hA rfl rfl rfl (m_loadS hM LiW_isS_30 rfl 0 rfl (cs := [.int .i64 u.d.k, .int .i64 u.d.n, .bool u.d.y.q.b1, .slice u.d.y.o1 u.d.y.q.t1.length u.d.y.c1, .slice u.d.y.o2 u.d.y.q.q1.length u.d.y.c2, .bool u.d.y.q.b2, .slice u.d.y.o3 u.d.y.q.t2.length u.d.y.c3, .slice u.d.y.o4 u.d.y.q.q2.length u.d.y.c4, .string u.d.s, .slice u.d.ro u.d.rl.length u.d.rc, .slice u.d.lo u.ts.length u.d.lc]) rfl rfl) ?_
 intro a hA
 refine seq_call hA rfl rfl rfl (enters_func rfl rfl (fun w => by kernel_rfl)) ((s2 ▸ sound_any (t := u) (Dt.keep hM.bel _ hu) (hT.below hM.bel))) ?_
 rintro _ w10 ⟨rfl, hb9⟩
 replace hM := hM.call hb9
 refine ⟨_, rfl, ?_⟩
 intro a hA
 refine seq_do (v := .bool true) hA rfl rfl rfl (does_pick rfl rfl rfl rfl) ?_
 intro a hA
 refine seq_do hA rfl rfl rfl (does_assign rfl) ?_
 intro a hA
 refine seq_end ?_
 refine hK6 _ _ ?_
 refine wp_ret ?_
 refine hret _ _ ?_
 refine ends (v := .bool true) hA rfl (.cons (res_tmp rfl) .nil) rfl ?_
 exact ⟨rfl, hM.bel⟩
theorem cmpW_any {w : World} {t u : Dt} (h4 : t.d.k = 4) (h5 : u.d.k = 4) (ht : t.rd w) (hu : u.rd w) (s1 : soundT shapeT t.tr = true) (s2 : soundT shapeT u.tr = true) (hT : Tabs8 w) : Calls Tryz.prog 32 #[.agg (t.d.cells t.ts.length).toArray, .agg (u.d.cells u.ts.length).toArray] w fun e w' => e = .returned (.int .i64 (cmpI t.d.n u.d.n)) ∧ Below w.heap.size w w' := by
 have hM : Mg w w ([]) := Mg.start w
 refine walk_of (l := [(0, .agg (t.d.cells t.ts.length).toArray), (1, .agg (u.d.cells u.ts.length).toArray)]) Tryz.func32 rfl Tryz.ntmps32 rfl rfl ?_
 intro Q hret hnorm hP a hA
 refine wp_seq_k (fun K1 hK1 => ?_)
 refine wp_region_lit ?_
 refine s_new (vs := [.int .i64 t.d.k, .int .i64 t.d.n, .bool t.d.y.q.b1, .slice t.d.y.o1 t.d.y.q.t1.length t.d.y.c1, .slice t.d.y.o2 t.d.y.q.q1.length t.d.y.c2, .bool t.d.y.q.b2, .slice t.d.y.o3 t.d.y.q.t2.length t.d.y.c3, .slice t.d.y.o4 t.d.y.q.q2.length t.d.y.c4, .string t.d.s, .slice t.d.ro t.d.rl.length t.d.rc, .slice t.d.lo t.ts.length t.d.lc]) (t := 30) hA hM rfl rfl rfl (fun g => .pointer (some ⟨g, 0, none⟩)) (does_box rfl rfl) (by decide) ?_
 intro g2 w3 hM a hA
 refine s_new (vs := [.int .i64 u.d.k, .int .i64 u.d.n, .bool u.d.y.q.b1, .slice u.d.y.o1 u.d.y.q.t1.length u.d.y.c1, .slice u.d.y.o2 u.d.y.q.q1.length u.d.y.c2, .bool u.d.y.q.b2, .slice u.d.y.o3 u.d.y.q.t2.length u.d.y.c3, .slice u.d.y.o4 u.d.y.q.q2.length u.d.y.c4, .string u.d.s, .slice u.d.ro u.d.rl.length u.d.rc, .slice u.d.lo u.ts.length u.d.lc]) (t := 30) hA hM rfl rfl rfl (fun g => .pointer (some ⟨g, 0, none⟩)) (does_box rfl rfl) (by decide) ?_
 intro g4 w5 hM a hA
 refine seq_do hA rfl rfl rfl (does_assign rfl) ?_
 intro a hA
 refine seq_end ?_
 refine hK1 _ _ ?_
 refine wp_seq_k (fun K6 hK6 => ?_)
 refine wp_seq_k (fun K7 hK7 => ?_)
 refine wp_region_lit ?_
 refine seq_do hA rfl rfl rfl (m_loadS hM LiW_isS_30 rfl 1 rfl (cs := [.int .i64 t.d.k, .int .i64 t.d.n, .bool t.d.y.q.b1, .slice t.d.y.o1 t.d.y.q.t1.length t.d.y.c1, .slice t.d.y.o2 t.d.y.q.q1.length t.d.y.c2, .bool t.d.y.q.b2, .slice t.d.y.o3 t.d.y.q.t2.length t.d.y.c3, .slice t.d.y.o4 t.d.y.q.q2.length t.d.y.c4, .string t.d.s, .slice t.d.ro t.d.rl.length t.d.rc, .slice t.d.lo t.ts.length t.d.lc]) rfl rfl) ?_
 intro a hA
 refine seq_do hA rfl rfl rfl (m_loadS hM LiW_isS_30 rfl 0 rfl (cs := [.int .i64 u.d.k, .int .i64 u.d.n, .bool u.d.y.q.b1, .slice u.d.y.o1 u.d.y.q.t1.length u.d.y.c1, .slice u.d.y.o2 u.d.y.q.q1.length u.d.y.c2, .bool u.d.y.q.b2, .slice u.d.y.o3 u.d.y.q.t2.length u.d.y.c3, .slice u.d.y.o4 u.d.y.q.q2.length u.d.y.c4, .string u.d.s, .slice u.d.ro u.d.rl.length u.d.rc, .slice u.d.lo u.ts.length u.d.lc]) rfl rfl) ?_
 intro a hA
 refine seq_call hA rfl rfl rfl (enters_func rfl rfl (fun w => by kernel_rfl)) (bothW_any (Dt.keep hM.bel _ ht) (Dt.keep hM.bel _ hu) s1 s2 (hT.below hM.bel)) ?_
 rintro _ w9 ⟨rfl, hb8⟩
 replace hM := hM.call hb8
 refine ⟨_, rfl, ?_⟩
 intro a hA
 refine seq_do (v := .bool false) hA rfl rfl rfl (does_un rfl un_not) ?_
 intro a hA
 refine seq_end ?_
 refine hK7 _ _ ?_
 refine wp_cond_false (hA.ev rfl) ?_
 refine wp_skip ?_
 refine hK6 _ _ ?_
 refine wp_seq_k (fun K10 hK10 => ?_)
 refine wp_region_lit ?_
 refine seq_do hA rfl rfl rfl (m_loadS hM LiW_isS_30 rfl 1 rfl (cs := [.int .i64 t.d.k, .int .i64 t.d.n, .bool t.d.y.q.b1, .slice t.d.y.o1 t.d.y.q.t1.length t.d.y.c1, .slice t.d.y.o2 t.d.y.q.q1.length t.d.y.c2, .bool t.d.y.q.b2, .slice t.d.y.o3 t.d.y.q.t2.length t.d.y.c3, .slice t.d.y.o4 t.d.y.q.q2.length t.d.y.c4, .string t.d.s, .slice t.d.ro t.d.rl.length t.d.rc, .slice t.d.lo t.ts.length t.d.lc]) rfl rfl) ?_
 intro a hA
 refine seq_do hA rfl rfl rfl (m_loadS hM LiW_isS_30 rfl 0 rfl (cs := [.int .i64 u.d.k, .int .i64 u.d.n, .bool u.d.y.q.b1, .slice u.d.y.o1 u.d.y.q.t1.length u.d.y.c1, .slice u.d.y.o2 u.d.y.q.q1.length u.d.y.c2, .bool u.d.y.q.b2, .slice u.d.y.o3 u.d.y.q.t2.length u.d.y.c3, .slice u.d.y.o4 u.d.y.q.q2.length u.d.y.c4, .string u.d.s, .slice u.d.ro u.d.rl.length u.d.rc, .slice u.d.lo u.ts.length u.d.lc]) rfl rfl) ?_
 intro a hA
 refine seq_call hA rfl rfl rfl (enters_func rfl rfl (fun w => by kernel_rfl)) (orderW_any h4 h5) ?_
 rintro _ w12 ⟨rfl, hb11⟩
 replace hM := hM.call hb11
 refine ⟨_, rfl, ?_⟩
 intro a hA
 refine seq_do hA rfl rfl rfl (does_assign rfl) ?_
 intro a hA
 refine seq_end ?_
 refine hK10 _ _ ?_
 refine wp_ret ?_
 refine hret _ _ ?_
 refine ends (v := .int .i64 (cmpI t.d.n u.d.n)) hA rfl (.cons (res_tmp rfl) .nil) rfl ?_
 exact ⟨rfl, hM.bel⟩
/-- A pair whose first is a sound character. -/
def PairC (w : World) (t : Dt) : Prop := t.rd w ∧ ∃ t0, t.ts[0]? = some t0 ∧ t0.rd w ∧ t0.d.k = 4 ∧ soundT shapeT t0.tr = true
def keyN (t : Dt) : Int := match t.ts with
  | [] => 0
  | t0 :: _ => t0.d.n
def keyC (t u : Dt) : Int := cmpI (keyN t) (keyN u)
theorem keyN_at {t t0 : Dt} (h : t.ts[0]? = some t0) : keyN t = t0.d.n := by
  unfold keyN
  cases h9 : t.ts with
  | nil => rw [h9] at h; cases h
  | cons a l => rw [h9] at h; cases h; rfl
theorem keyC_swo : Swo (ltC keyC) := by
  constructor
  · intro x y h
    unfold ltC keyC cmpI at *
    have := of_decide_eq_true h
    refine decide_eq_false ?_
    repeat' split at * <;> omega
  · intro x y z h1 h2
    unfold ltC keyC cmpI at *
    have h3 := of_decide_eq_false h1
    have h4 := of_decide_eq_false h2
    refine decide_eq_false ?_
    repeat' split at * <;> omega
theorem sb1_any {w : World} {t u t0 u0 : Dt} {gk : Nat} (hG : w.heap[gk]? = some (.cells [.func (.func 52) #[] #[]].toArray 63)) (ht : t.rd w) (hu : u.rd w) (h0 : t.ts[0]? = some t0) (k0 : u.ts[0]? = some u0) (r1 : t0.rd w) (r2 : u0.rd w) (h4 : t0.d.k = 4) (h5 : u0.d.k = 4) (s1 : soundT shapeT t0.tr = true) (s2 : soundT shapeT u0.tr = true) (hT : Tabs8 w) : Calls Tryz.prog 76 #[.agg (t.d.cells t.ts.length).toArray, .agg (u.d.cells u.ts.length).toArray, .pointer (some ⟨gk, 0, none⟩)] w fun e w' => e = .returned (.int .i64 (cmpI t0.d.n u0.d.n)) ∧ Below w.heap.size w w' := by
 have hM : Mg w w ([]) := Mg.start w
 refine walk_of (l := [(0, .agg (t.d.cells t.ts.length).toArray), (1, .agg (u.d.cells u.ts.length).toArray), (2, .pointer (some ⟨gk, 0, none⟩))]) Tryz.func76 rfl Tryz.ntmps76 rfl rfl ?_
 intro Q hret hnorm hP a hA
 refine wp_seq_k (fun K1 hK1 => ?_)
 refine wp_region_lit ?_
 refine s_new (vs := [.int .i64 t.d.k, .int .i64 t.d.n, .bool t.d.y.q.b1, .slice t.d.y.o1 t.d.y.q.t1.length t.d.y.c1, .slice t.d.y.o2 t.d.y.q.q1.length t.d.y.c2, .bool t.d.y.q.b2, .slice t.d.y.o3 t.d.y.q.t2.length t.d.y.c3, .slice t.d.y.o4 t.d.y.q.q2.length t.d.y.c4, .string t.d.s, .slice t.d.ro t.d.rl.length t.d.rc, .slice t.d.lo t.ts.length t.d.lc]) (t := 30) hA hM rfl rfl rfl (fun g => .pointer (some ⟨g, 0, none⟩)) (does_box rfl rfl) (by decide) ?_
 intro g2 w3 hM a hA
 refine s_new (vs := [.int .i64 u.d.k, .int .i64 u.d.n, .bool u.d.y.q.b1, .slice u.d.y.o1 u.d.y.q.t1.length u.d.y.c1, .slice u.d.y.o2 u.d.y.q.q1.length u.d.y.c2, .bool u.d.y.q.b2, .slice u.d.y.o3 u.d.y.q.t2.length u.d.y.c3, .slice u.d.y.o4 u.d.y.q.q2.length u.d.y.c4, .string u.d.s, .slice u.d.ro u.d.rl.length u.d.rc, .slice u.d.lo u.ts.length u.d.lc]) (t := 30) hA hM rfl rfl rfl (fun g => .pointer (some ⟨g, 0, none⟩)) (does_box rfl rfl) (by decide) ?_
 intro g4 w5 hM a hA
 refine seq_do hA rfl rfl rfl (does_assign rfl) ?_
 intro a hA
 refine seq_end ?_
 refine hK1 _ _ ?_
 refine wp_seq_k (fun K6 hK6 => ?_)
 refine wp_draw (S := fun w1 => Mg w w1 (.obj g4 (.cells (u.d.cells u.ts.length).toArray 30) :: .obj g2 (.cells (t.d.cells t.ts.length).toArray 30) :: [])) (by kernel_rfl) ?_
 replace hM := hM.drew
 refine any_tk hA 0 rfl rfl rfl rfl hP (hM.sub (.cons_cons _ (.cons_cons _ (List.nil_sublist _)))) (fun w1 hM => m_load1F hM hG LiW_is1_63 rfl rfl) ?_
 intro a hA
 refine any_tk hA 1 rfl rfl rfl rfl hP (hM.sub (.cons_cons _ (.cons_cons _ (List.nil_sublist _)))) (fun w1 hM => m_loadS hM LiW_isS_30 rfl 1 rfl (cs := [.int .i64 t.d.k, .int .i64 t.d.n, .bool t.d.y.q.b1, .slice t.d.y.o1 t.d.y.q.t1.length t.d.y.c1, .slice t.d.y.o2 t.d.y.q.q1.length t.d.y.c2, .bool t.d.y.q.b2, .slice t.d.y.o3 t.d.y.q.t2.length t.d.y.c3, .slice t.d.y.o4 t.d.y.q.q2.length t.d.y.c4, .string t.d.s, .slice t.d.ro t.d.rl.length t.d.rc, .slice t.d.lo t.ts.length t.d.lc]) rfl rfl) ?_
 intro a hA
 refine any_tk hA 3 rfl rfl rfl rfl hP (hM.sub (.cons_cons _ (.cons_cons _ (List.nil_sublist _)))) (fun w1 hM => m_load1F hM hG LiW_is1_63 rfl rfl) ?_
 intro a hA
 refine any_tk hA 4 rfl rfl rfl rfl hP (hM.sub (.cons_cons _ (.cons_cons _ (List.nil_sublist _)))) (fun w1 hM => m_loadS hM LiW_isS_30 rfl 0 rfl (cs := [.int .i64 u.d.k, .int .i64 u.d.n, .bool u.d.y.q.b1, .slice u.d.y.o1 u.d.y.q.t1.length u.d.y.c1, .slice u.d.y.o2 u.d.y.q.q1.length u.d.y.c2, .bool u.d.y.q.b2, .slice u.d.y.o3 u.d.y.q.t2.length u.d.y.c3, .slice u.d.y.o4 u.d.y.q.q2.length u.d.y.c4, .string u.d.s, .slice u.d.ro u.d.rl.length u.d.rc, .slice u.d.lo u.ts.length u.d.lc]) rfl rfl) ?_
 intro a hA
 refine any_one (by kernel_rfl) (op_call hA 2 rfl rfl rfl rfl (enters_func rfl rfl (fun w => by kernel_rfl)) (first_any (t := t) (Dt.keep hM.bel _ ht) h0) ?_)
 rintro _ w8 ⟨rfl, hb7⟩
 replace hM := hM.call hb7
 refine ⟨_, rfl, (hM.sub (.cons_cons _ (.cons_cons _ (List.nil_sublist _)))), ?_⟩
 intro a hA
 refine any_one (by kernel_rfl) (op_call hA 5 rfl rfl rfl rfl (enters_func rfl rfl (fun w => by kernel_rfl)) (first_any (t := u) (Dt.keep hM.bel _ hu) k0) ?_)
 rintro _ w10 ⟨rfl, hb9⟩
 replace hM := hM.call hb9
 refine ⟨_, rfl, (hM.sub (.cons_cons _ (.cons_cons _ (List.nil_sublist _)))), ?_⟩
 intro a hA
 refine any_one (by kernel_rfl) (op_call hA 6 rfl rfl rfl rfl (enters_func rfl rfl (fun w => by kernel_rfl)) (cmpW_any (t := t0) (u := u0) h4 h5 (Dt.keep hM.bel _ r1) (Dt.keep hM.bel _ r2) s1 s2 (hT.below hM.bel)) ?_)
 rintro _ w12 ⟨rfl, hb11⟩
 replace hM := hM.call hb11
 refine ⟨_, rfl, (hM.sub (.cons_cons _ (.cons_cons _ (List.nil_sublist _)))), ?_⟩
 intro a hA
 refine any_tk hA 7 rfl rfl rfl rfl hP (hM.sub (.cons_cons _ (.cons_cons _ (List.nil_sublist _)))) (fun w1 hM => does_assign rfl) ?_
 intro a hA
 refine any_end (by kernel_rfl) ?_
 refine hK6 _ _ ?_
 refine wp_ret ?_
 refine hret _ _ ?_
 refine ends (v := .int .i64 (cmpI t0.d.n u0.d.n)) hA rfl (.cons (res_tmp rfl) .nil) rfl ?_
 exact ⟨rfl, hM.bel⟩
theorem cmps_first {w0 : World} {T : List Ck} {ts : List Dt} {gk : Nat} (hP : ∀ t ∈ ts, PairC w0 t) (hT : Tabs8 w0) : Cmps Tryz.prog 76 [.pointer (some ⟨gk, 0, none⟩)] w0 (.obj gk (.cells #[.func (.func 52) #[] #[]] 63) :: T) ts keyC := by
  refine ⟨fun us w => by kernel_rfl, fun t u w ht hu hM => ?_⟩
  obtain ⟨a1, a0, a2, a3, a4, a5⟩ := hP t ht
  obtain ⟨b1, b0, b2, b3, b4, b5⟩ := hP u hu
  have hb := hM.bel
  unfold keyC
  rw [keyN_at a2, keyN_at b2]
  exact sb1_any (hM.obj 0 rfl) (Dt.keep hb _ a1) (Dt.keep hb _ b1) a2 b2 (Dt.keep hb _ a3) (Dt.keep hb _ b3) a4 b4 a5 b5 (hT.below hb)
theorem sortBy_any {w0 w : World} {so9 : Option Addr} {c9 : Nat} {zs : List Dt} {T : List Ck} (hl : zs.length ≤ 1000000000) (hPc : ∀ t ∈ zs, PairC w0 t) (hT : Tabs8 w0) (hM0 : Mg w0 w (.row 30 11 (.slice so9 zs.length c9) zs.length (cellsOf zs) :: T)) : Calls Tryz.prog 56 #[.slice so9 zs.length c9, .func (.func 52) #[] #[]] w fun e w' => e = .returned (.tuple #[]) ∧ Mg w0 w' (.row 30 11 (.slice so9 zs.length c9) zs.length (cellsOf (isort (ltC keyC) zs)) :: T) := by
 have hM : Mg w0 w (.row 30 11 (.slice so9 zs.length c9) zs.length (cellsOf zs) :: T) := hM0
 refine walk_of (l := [(0, .slice so9 zs.length c9), (1, .func (.func 52) #[] #[])]) Tryz.func56 rfl Tryz.ntmps56 rfl rfl ?_
 intro Q hret hnorm hP a hA
 refine wp_seq_k (fun K1 hK1 => ?_)
 refine wp_region_lit ?_
 refine s_new (vs := [.func (.func 52) #[] #[]]) (t := 63) hA hM rfl rfl rfl (fun g => .pointer (some ⟨g, 0, none⟩)) (does_box rfl rfl) (by decide) ?_
 intro g2 w3 hM a hA
 refine seq_end ?_
 refine hK1 _ _ ?_
 refine wp_region_lit ?_
 refine seq_do hA rfl rfl rfl (does_move rfl) ?_
 intro a hA
 refine seq_do (v := .func (.func 76) #[] [.pointer (some ⟨g2, 0, none⟩)].toArray) hA rfl rfl rfl (does_makeFunc rfl) ?_
 intro a hA
 refine seq_call hA rfl rfl rfl (enters_func rfl rfl (fun w => by kernel_rfl)) (sortS_any (by omega) (cmps_first hPc hT) (fun t ht => ht) keyC_swo (hM.perm (List.Perm.swap _ _ _))) ?_
 rintro _ w5 ⟨rfl, hM4⟩
 replace hM : Mg w0 w5 (.row 30 11 (.slice so9 zs.length c9) zs.length (cellsOf (isort (ltC keyC) zs)) :: .obj g2 (.cells #[.func (.func 52) #[] #[]] 63) :: T) := hM4
 refine ⟨_, rfl, ?_⟩
 intro a hA
 refine seq_end ?_
 refine hnorm _ _ ?_
 refine ends (v := .tuple #[]) hA rfl .nil rfl ?_
 exact ⟨rfl, hM.sub (.cons_cons _ (.cons _ (List.Sublist.refl _)))⟩
theorem noPair_any {w : World} {t : Dt} : Calls Tryz.prog 71 #[.agg (t.d.cells t.ts.length).toArray] w fun e w' => e = .returned (.bool (t.d.k != 8)) ∧ Below w.heap.size w w' := by
 have hM : Mg w w ([]) := Mg.start w
 refine walk_of (l := [(0, .agg (t.d.cells t.ts.length).toArray)]) Tryz.func71 rfl Tryz.ntmps71 rfl rfl ?_
 intro Q hret hnorm hP a hA
 refine wp_seq_k (fun K1 hK1 => ?_)
 refine wp_region_lit ?_
 refine s_new (vs := [.int .i64 t.d.k, .int .i64 t.d.n, .bool t.d.y.q.b1, .slice t.d.y.o1 t.d.y.q.t1.length t.d.y.c1, .slice t.d.y.o2 t.d.y.q.q1.length t.d.y.c2, .bool t.d.y.q.b2, .slice t.d.y.o3 t.d.y.q.t2.length t.d.y.c3, .slice t.d.y.o4 t.d.y.q.q2.length t.d.y.c4, .string t.d.s, .slice t.d.ro t.d.rl.length t.d.rc, .slice t.d.lo t.ts.length t.d.lc]) (t := 30) hA hM rfl rfl rfl (fun g => .pointer (some ⟨g, 0, none⟩)) (does_box rfl rfl) (by decide) ?_
 intro g2 w3 hM a hA
 refine seq_do hA rfl rfl rfl (does_assign rfl) ?_
 intro a hA
 refine seq_end ?_
 refine hK1 _ _ ?_
 refine wp_seq_k (fun K4 hK4 => ?_)
 refine wp_region_lit ?_
 refine seq_do (v := .pointer (some ⟨g2, 0, none⟩)) hA rfl rfl rfl (does_field LiW_fld_30_0 rfl rfl) ?_
 intro a hA
 refine seq_do hA rfl rfl rfl (m_load1 hM LiW_is1_3 rfl 0 rfl rfl) ?_
 intro a hA
 rcases Bool.eq_false_or_eq_true ((t.d.k != 8)) with hb5 | hb5
 · have hb5' := bne_iff_ne.1 hb5
   refine seq_do (v := .bool true) hA rfl rfl rfl (does_bin rfl rfl (fun w => (bin_neq w).trans (by rw [hb5]))) ?_
   intro a hA
   refine seq_do hA rfl rfl rfl (does_assign rfl) ?_
   intro a hA
   refine seq_end ?_
   refine hK4 _ _ ?_
   refine wp_ret ?_
   refine hret _ _ ?_
   refine ends (v := .bool true) hA rfl (.cons (res_tmp rfl) .nil) rfl ?_
   exact ⟨by simp_all, hM.bel⟩
 · have hb5' := bne_eq_false_iff_eq.1 hb5
   refine seq_do (v := .bool false) hA rfl rfl rfl (does_bin rfl rfl (fun w => (bin_neq w).trans (by rw [hb5]))) ?_
   intro a hA
   refine seq_do hA rfl rfl rfl (does_assign rfl) ?_
   intro a hA
   refine seq_end ?_
   refine hK4 _ _ ?_
   refine wp_ret ?_
   refine hret _ _ ?_
   refine ends (v := .bool false) hA rfl (.cons (res_tmp rfl) .nil) rfl ?_
   exact ⟨by simp_all, hM.bel⟩
theorem asks_pair {w : World} {ts : List Dt} : Asks Tryz.prog 71 [] w ts (fun t => t.d.k != 8) := ⟨fun us w => by kernel_rfl, fun t w1 ht hb => noPair_any⟩
theorem no_other {ts : List Dt} (h : ∀ t ∈ ts, t.d.k = 8) : ts.any (fun t => t.d.k != 8) = false := List.any_eq_false.2 fun t ht => by rw [h t ht]; decide
theorem kinds8 {ts : List Dt} {xs : List Tr} (h : ts.map Dt.tr = xs) (hk : ∀ x ∈ xs, x.k = 8) : ∀ t ∈ ts, t.d.k = 8 := fun t ht => by
  rw [← tr_k]; exact hk _ (h ▸ List.mem_map_of_mem ht)
theorem pairsOf_any {w0 w : World} {t : Dt} (h0 : Below w0.heap.size w0 w) (ht : t.rd w0) (hb : t.tr.bulk ≤ 300000000) (hT : Tabs8 w) (hs : soundT shapeT t.tr = true) {xs : List Tr} (hx : asList t.tr = some xs) (hk : ∀ x ∈ xs, x.k = 8) : Calls Tryz.prog 50 #[.agg (t.d.cells t.ts.length).toArray, .slice none 0 0] w fun e w' => ∃ so' ca' ys, e = .returned (.tuple #[.slice so' (ys : List Dt).length ca', .int .i64 0]) ∧ (ys.map Dt.tr = xs ∧ (∀ x ∈ ys, x.rd w0) ∧ ys.length ≤ t.tr.bulk) ∧ Mg w w' [.row 30 11 (.slice so' ys.length ca') ys.length (cellsOf ys)] := by
 have hM : Mg w w ([]) := Mg.start w
 refine walk_of (l := [(0, .agg (t.d.cells t.ts.length).toArray), (1, .slice none 0 0)]) Tryz.func50 rfl Tryz.ntmps50 rfl rfl ?_
 intro Q hret hnorm hP a hA
 refine wp_seq_k (fun K1 hK1 => ?_)
 refine wp_region_lit ?_
 refine s_new (vs := [.int .i64 t.d.k, .int .i64 t.d.n, .bool t.d.y.q.b1, .slice t.d.y.o1 t.d.y.q.t1.length t.d.y.c1, .slice t.d.y.o2 t.d.y.q.q1.length t.d.y.c2, .bool t.d.y.q.b2, .slice t.d.y.o3 t.d.y.q.t2.length t.d.y.c3, .slice t.d.y.o4 t.d.y.q.q2.length t.d.y.c4, .string t.d.s, .slice t.d.ro t.d.rl.length t.d.rc, .slice t.d.lo t.ts.length t.d.lc]) (t := 30) hA hM rfl rfl rfl (fun g => .pointer (some ⟨g, 0, none⟩)) (does_box rfl rfl) (by decide) ?_
 intro g2 w3 hM a hA
 refine seq_do hA rfl rfl rfl (does_assign rfl) ?_
 intro a hA
 refine seq_do hA rfl rfl rfl (does_assign rfl) ?_
 intro a hA
 refine seq_end ?_
 refine hK1 _ _ ?_
 refine wp_seq_k (fun K4 hK4 => ?_)
 refine wp_region_lit ?_
 refine seq_do hA rfl rfl rfl (m_loadS hM LiW_isS_30 rfl 0 rfl (cs := [.int .i64 t.d.k, .int .i64 t.d.n, .bool t.d.y.q.b1, .slice t.d.y.o1 t.d.y.q.t1.length t.d.y.c1, .slice t.d.y.o2 t.d.y.q.q1.length t.d.y.c2, .bool t.d.y.q.b2, .slice t.d.y.o3 t.d.y.q.t2.length t.d.y.c3, .slice t.d.y.o4 t.d.y.q.q2.length t.d.y.c4, .string t.d.s, .slice t.d.ro t.d.rl.length t.d.rc, .slice t.d.lo t.ts.length t.d.lc]) rfl rfl) ?_
 intro a hA
 refine seq_do hA rfl rfl rfl (does_move rfl) ?_
 intro a hA
 refine seq_call hA rfl rfl rfl (enters_func rfl rfl (fun w => by kernel_rfl)) (items_some (h0.trans (hM.bel.mono h0.size)) ht (by omega) (hT.below hM.bel) hs (by rw [hx]; rfl)) ?_
 rintro _ w5 ⟨so7, ca7, ys, rfl, ⟨hy1, hy2, hy3⟩, hM7⟩
 have hye : ys.map Dt.tr = xs := by rw [hx] at hy1; exact (Option.some.inj hy1).symm
 replace hM : Mg w w5 (.row 30 11 (.slice so7 ys.length ca7) ys.length (cellsOf ys) :: .obj g2 (.cells (t.d.cells t.ts.length).toArray 30) :: []) := (hM.both hM7 (noBld_cons (by simp) (noBld_quiet quietL_nil)) (noBld_cons (by simp) (noBld_quiet quietL_nil)))
 refine ⟨_, rfl, ?_⟩
 intro a hA
 refine seq_do hA rfl rfl rfl (does_move rfl) ?_
 intro a hA
 refine seq_do (v := .slice so7 ys.length ca7) hA rfl rfl rfl (does_extract (vs := [.slice so7 ys.length ca7, .int .i64 0]) rfl rfl) ?_
 intro a hA
 refine seq_do (v := .int .i64 0) hA rfl rfl rfl (does_extract (vs := [.slice so7 ys.length ca7, .int .i64 0]) rfl rfl) ?_
 intro a hA
 refine seq_do hA rfl rfl rfl (does_assign rfl) ?_
 intro a hA
 refine seq_do hA rfl rfl rfl (does_assign rfl) ?_
 intro a hA
 refine seq_end ?_
 refine hK4 _ _ ?_
 refine wp_seq_k (fun K6 hK6 => ?_)
 refine wp_block ?_
 refine wp_seq_k (fun K7 hK7 => ?_)
 refine wp_region_lit ?_
 refine seq_do hA rfl rfl rfl (does_move rfl) ?_
 intro a hA
 refine seq_do (v := .bool false) hA rfl rfl rfl (does_bin rfl rfl (fun w => by kernel_rfl)) ?_
 intro a hA
 refine seq_do hA rfl rfl rfl (does_assign rfl) ?_
 intro a hA
 refine seq_end ?_
 refine hK7 _ _ ?_
 refine wp_cond_false (hA.ev rfl) ?_
 refine wp_seq_k (fun K8 hK8 => ?_)
 refine wp_region_lit ?_
 refine seq_do hA rfl rfl rfl (does_move rfl) ?_
 intro a hA
 refine seq_call hA rfl rfl rfl (enters_func rfl rfl (fun w => by kernel_rfl)) ((no_other (kinds8 hye hk) ▸ contains_any (cs := []) (rt_own (hM.has 0 rfl)).1 (fun t ht => Dt.keep (h0.trans (hM.bel.mono h0.size)) _ (hy2 t ht)) (by omega) asks_pair)) ?_
 rintro _ w10 ⟨rfl, hb9⟩
 replace hM := hM.call hb9
 refine ⟨_, rfl, ?_⟩
 intro a hA
 refine seq_do hA rfl rfl rfl (does_assign rfl) ?_
 intro a hA
 refine seq_end ?_
 refine hK8 _ _ ?_
 refine wp_cond_false (hA.ev rfl) ?_
 refine wp_skip ?_
 refine hK6 _ _ ?_
 refine wp_seq_k (fun K11 hK11 => ?_)
 refine wp_region_lit ?_
 refine seq_do hA rfl rfl rfl (does_move rfl) ?_
 intro a hA
 refine seq_do hA rfl rfl rfl (does_assign rfl) ?_
 intro a hA
 refine seq_do hA rfl rfl rfl (does_assign rfl) ?_
 intro a hA
 refine seq_end ?_
 refine hK11 _ _ ?_
 refine wp_ret ?_
 refine hret _ _ ?_
 refine ends (v := .tuple #[.slice so7 ys.length ca7, .int .i64 0]) hA rfl (.cons (res_tmp rfl) (.cons (res_tmp rfl) .nil)) rfl ?_
 replace hM : Mg w w10 (.row 30 11 (.slice so7 ys.length ca7) ys.length (cellsOf ys) :: []) := by
   have h9 := hM.sub (.cons_cons _ (.cons _ (.refl _)))
   exact h9
 exact ⟨_, _, ys, rfl, ⟨hye, hy2, hy3⟩, hM⟩
theorem LiX_isS_30 : IsS Tryz.prog 30 11 := ⟨⟨_, Tryz.underlying30⟩, by kernel_rfl⟩
theorem mrg_map {α β : Type} {lt : α → α → Bool} {lt' : β → β → Bool} {f : α → β} (h : ∀ x y, lt x y = lt' (f x) (f y)) : ∀ xs ys : List α, (mrg lt xs ys).map f = mrg lt' (xs.map f) (ys.map f)
  | [], ys => by rw [mrg_l, List.map_nil, mrg_l]
  | x :: xs, [] => by rw [mrg_r, List.map_nil, mrg_r]
  | x :: xs, y :: ys => by
    rw [List.map_cons, List.map_cons]
    cases h9 : lt y x with
    | true => rw [mrg_y h9, mrg_y (by rw [← h]; exact h9), List.map_cons, mrg_map h (x :: xs) ys, List.map_cons]
    | false => rw [mrg_x h9, mrg_x (by rw [← h]; exact h9), List.map_cons, mrg_map h xs (y :: ys), List.map_cons]
termination_by xs ys => xs.length + ys.length
theorem isort_map {α β : Type} {lt : α → α → Bool} {lt' : β → β → Bool} {f : α → β} (h : ∀ x y, lt x y = lt' (f x) (f y)) : ∀ xs : List α, (isort lt xs).map f = isort lt' (xs.map f)
  | [] => rfl
  | x :: xs => by
    show (mrg lt [x] (isort lt xs)).map f = mrg lt' [f x] (isort lt' (xs.map f))
    rw [mrg_map h, isort_map h xs]; rfl
/-- The same of trees. -/
def keyT (x : Tr) : Int := match x.ts with
  | [] => 0
  | x0 :: _ => x0.n
def ltT (x y : Tr) : Bool := decide (cmpI (keyT x) (keyT y) < 0)
theorem keyN_tr (t : Dt) : keyN t = keyT t.tr := by
  cases t with
  | mk d ts =>
    rw [Dt.tr_mk]
    unfold keyN keyT
    cases ts with
    | nil => rfl
    | cons u us => cases u with
      | mk e vs => show e.n = (Dt.tr (.mk e vs)).n; rw [Dt.tr_mk]; rfl
theorem isort_tr (ys : List Dt) : (isort (ltC keyC) ys).map Dt.tr = isort ltT (ys.map Dt.tr) := isort_map (fun x y => by unfold ltC keyC ltT; rw [keyN_tr, keyN_tr]) ys
theorem bulks_perm {xs ys : List Tr} (h : xs.Perm ys) : Tr.bulks xs = Tr.bulks ys := by
  induction h with
  | nil => rfl
  | cons x _ ih => show x.bulk + _ = x.bulk + _; rw [ih]
  | swap x y l => show y.bulk + (x.bulk + _) = x.bulk + (y.bulk + _); omega
  | trans _ _ h1 h2 => rw [h1, h2]
theorem listOf_srt {w : World} {so : Option Addr} {ca : Nat} {ys : List Dt} (hR : Rt w so (isort (ltC keyC) ys)) (hD : ∀ t ∈ isort (ltC keyC) ys, t.rd w) (hb : Tr.bulks ((isort (ltC keyC) ys).map Dt.tr) ≤ 400000000) : Calls Tryz.prog 45 #[.slice so ys.length ca] w fun e w' => ∃ t2 : Dt, e = .returned (.agg (t2.d.cells t2.ts.length).toArray) ∧ (t2.rd w' ∧ t2.at_ (w.heap.size ≤ ·) ∧ t2.tr = linkT ((isort (ltC keyC) ys).map Dt.tr) nilT) ∧ Below w.heap.size w w' := by
  have := listOf_any (ca := ca) hR hD hb
  rwa [isort_len] at this
/-- Each a pair whose first is a sound character. -/
def PairsC (xs : List Tr) : Prop := ∀ x ∈ xs, x.k = 8 ∧ ∃ x0 r, x.ts = x0 :: r ∧ x0.k = 4 ∧ soundT shapeT x0 = true
theorem pairC_of {w : World} {t : Dt} (ht : t.rd w) (h : ∃ x0 r, t.tr.ts = x0 :: r ∧ x0.k = 4 ∧ soundT shapeT x0 = true) : PairC w t := by
  refine ⟨ht, ?_⟩
  obtain ⟨x0, r, h1, h2, h3⟩ := h
  cases t with
  | mk d ts =>
    rw [Dt.tr_mk] at h1
    cases ts with
    | nil => cases h1
    | cons u us =>
      have e : u.tr = x0 := (List.cons.inj h1).1
      obtain ⟨z, -, -, i0, -, r0, -, -⟩ := kidT ht (i := 0) (Nat.zero_lt_succ _)
      have : z = u := (Option.some.inj i0).symm
      subst this
      exact ⟨z, rfl, r0, by rw [← tr_k, e]; exact h2, by rw [e]; exact h3⟩
theorem sortByL_any {w : World} {t : Dt} (ht : t.rd w) (hb : t.tr.bulk ≤ 300000000) (hT : Tabs8 w) (hs : soundT shapeT t.tr = true) {xs : List Tr} (hx : asList t.tr = some xs) (hC : PairsC xs) : Calls Tryz.prog 29 #[.agg (t.d.cells t.ts.length).toArray] w fun e w' => ∃ (t2 : Dt) (k : Int), e = .returned (.tuple #[.agg (t2.d.cells t2.ts.length).toArray, .int .i64 k]) ∧ (t2.rd w' ∧ t2.at_ (w.heap.size ≤ ·) ∧ (t2.tr, k) = (linkT (isort ltT xs) nilT, 0)) ∧ Below w.heap.size w w' := by
 have hM : Mg w w ([]) := Mg.start w
 refine walk_of (l := [(0, .agg (t.d.cells t.ts.length).toArray)]) Tryz.func29 rfl Tryz.ntmps29 rfl rfl ?_
 intro Q hret hnorm hP a hA
 refine wp_seq_k (fun K1 hK1 => ?_)
 refine wp_region_lit ?_
 refine s_new (vs := [.int .i64 t.d.k, .int .i64 t.d.n, .bool t.d.y.q.b1, .slice t.d.y.o1 t.d.y.q.t1.length t.d.y.c1, .slice t.d.y.o2 t.d.y.q.q1.length t.d.y.c2, .bool t.d.y.q.b2, .slice t.d.y.o3 t.d.y.q.t2.length t.d.y.c3, .slice t.d.y.o4 t.d.y.q.q2.length t.d.y.c4, .string t.d.s, .slice t.d.ro t.d.rl.length t.d.rc, .slice t.d.lo t.ts.length t.d.lc]) (t := 30) hA hM rfl rfl rfl (fun g => .pointer (some ⟨g, 0, none⟩)) (does_box rfl rfl) (by decide) ?_
 intro g2 w3 hM a hA
 refine s_new (vs := [.int .i64 0, .int .i64 0, .bool false, .slice none 0 0, .slice none 0 0, .bool false, .slice none 0 0, .slice none 0 0, .string (⟨#[]⟩), .slice none 0 0, .slice none 0 0]) (t := 30) hA hM rfl rfl rfl (fun g => .pointer (some ⟨g, 0, none⟩)) (does_alloc (z := .agg #[.int .i64 0, .int .i64 0, .bool false, .slice none 0 0, .slice none 0 0, .bool false, .slice none 0 0, .slice none 0 0, .string (⟨#[]⟩), .slice none 0 0, .slice none 0 0]) (by kernel_rfl) rfl) (by decide) ?_
 intro g4 w5 hM a hA
 refine seq_do hA rfl rfl rfl (does_assign rfl) ?_
 intro a hA
 refine seq_end ?_
 refine hK1 _ _ ?_
 refine wp_seq_k (fun K6 hK6 => ?_)
 refine wp_region_lit ?_
 refine seq_do hA rfl rfl rfl (m_loadS hM LiX_isS_30 rfl 1 rfl (cs := [.int .i64 t.d.k, .int .i64 t.d.n, .bool t.d.y.q.b1, .slice t.d.y.o1 t.d.y.q.t1.length t.d.y.c1, .slice t.d.y.o2 t.d.y.q.q1.length t.d.y.c2, .bool t.d.y.q.b2, .slice t.d.y.o3 t.d.y.q.t2.length t.d.y.c3, .slice t.d.y.o4 t.d.y.q.q2.length t.d.y.c4, .string t.d.s, .slice t.d.ro t.d.rl.length t.d.rc, .slice t.d.lo t.ts.length t.d.lc]) rfl rfl) ?_
 intro a hA
 refine seq_call hA rfl rfl rfl (enters_func rfl rfl (fun w => by kernel_rfl)) (pairsOf_any hM.bel ht (by omega) (hT.below hM.bel) hs hx (fun x h9 => (hC x h9).1)) ?_
 rintro _ w7 ⟨so7, ca7, ys, rfl, ⟨hye, hy2, hy3⟩, hM7⟩
 have hyb := asList_bulk hx
 have hyk : ∀ z ∈ ys, PairC _ z := fun z hz => pairC_of (hy2 z hz) (hC _ (hye ▸ List.mem_map_of_mem hz)).2
 replace hM : Mg w w7 (.row 30 11 (.slice so7 ys.length ca7) ys.length (cellsOf ys) :: .obj g4 (.cells #[.int .i64 0, .int .i64 0, .bool false, .slice none 0 0, .slice none 0 0, .bool false, .slice none 0 0, .slice none 0 0, .string (⟨#[]⟩), .slice none 0 0, .slice none 0 0] 30) :: .obj g2 (.cells (t.d.cells t.ts.length).toArray 30) :: []) := (hM.both hM7 (noBld_cons (by simp) (noBld_cons (by simp) (noBld_quiet quietL_nil))) (noBld_cons (by simp) (noBld_quiet quietL_nil)))
 refine ⟨_, rfl, ?_⟩
 intro a hA
 refine seq_do hA rfl rfl rfl (does_move rfl) ?_
 intro a hA
 refine seq_do (v := .slice so7 ys.length ca7) hA rfl rfl rfl (does_extract (vs := [.slice so7 ys.length ca7, .int .i64 0]) rfl rfl) ?_
 intro a hA
 refine seq_do (v := .int .i64 0) hA rfl rfl rfl (does_extract (vs := [.slice so7 ys.length ca7, .int .i64 0]) rfl rfl) ?_
 intro a hA
 refine seq_do hA rfl rfl rfl (does_assign rfl) ?_
 intro a hA
 refine seq_do hA rfl rfl rfl (does_assign rfl) ?_
 intro a hA
 refine seq_end ?_
 refine hK6 _ _ ?_
 refine wp_seq_k (fun K8 hK8 => ?_)
 refine wp_seq_k (fun K9 hK9 => ?_)
 refine wp_region_lit ?_
 refine seq_do hA rfl rfl rfl (does_move rfl) ?_
 intro a hA
 refine seq_do (v := .bool false) hA rfl rfl rfl (does_bin rfl rfl (fun w => by kernel_rfl)) ?_
 intro a hA
 refine seq_end ?_
 refine hK9 _ _ ?_
 refine wp_cond_false (hA.ev rfl) ?_
 refine wp_skip ?_
 refine hK8 _ _ ?_
 refine wp_seq_k (fun K10 hK10 => ?_)
 refine wp_region_lit ?_
 refine seq_do hA rfl rfl rfl (does_move rfl) ?_
 intro a hA
 refine seq_call hA rfl rfl rfl (enters_func rfl rfl (fun w => by kernel_rfl)) (sortBy_any (by omega) hyk hT hM) ?_
 rintro _ w11 ⟨rfl, hM8⟩
 replace hM : Mg w w11 (.row 30 11 (.slice so7 ys.length ca7) ys.length (cellsOf (isort (ltC keyC) ys)) :: .obj g4 (.cells #[.int .i64 0, .int .i64 0, .bool false, .slice none 0 0, .slice none 0 0, .bool false, .slice none 0 0, .slice none 0 0, .string (⟨#[]⟩), .slice none 0 0, .slice none 0 0] 30) :: .obj g2 (.cells (t.d.cells t.ts.length).toArray 30) :: []) := hM8
 refine ⟨_, rfl, ?_⟩
 intro a hA
 refine seq_end ?_
 refine hK10 _ _ ?_
 refine wp_seq_k (fun K12 hK12 => ?_)
 refine wp_region_lit ?_
 refine seq_do hA rfl rfl rfl (does_move rfl) ?_
 intro a hA
 have hlt13 := (Ck.lt (hM.has 1 rfl) g4 rfl).2
 have hlt14 := (Ck.lt (hM.has 2 rfl) g2 rfl).2
 have hzt2 := hM.bel.size
 refine seq_call hA rfl rfl rfl (enters_func rfl rfl (fun w => by kernel_rfl)) (listOf_srt (rt_own (hM.has 0 rfl)).1 (fun t ht => Dt.keep hM.bel _ (hy2 t ((isort_perm _).mem_iff.1 ht))) (by rw [isort_tr, bulks_perm (isort_perm _), hye]; omega)) ?_
 rintro _ w16 ⟨t2, rfl, ⟨hrt2, hat2, htt2⟩, hb15⟩
 replace hM := hM.call hb15
 refine ⟨_, rfl, ?_⟩
 intro a hA
 refine s_storeD (us := [.int .i64 t2.d.k, .int .i64 t2.d.n, .bool t2.d.y.q.b1, .slice t2.d.y.o1 t2.d.y.q.t1.length t2.d.y.c1, .slice t2.d.y.o2 t2.d.y.q.q1.length t2.d.y.c2, .bool t2.d.y.q.b2, .slice t2.d.y.o3 t2.d.y.q.t2.length t2.d.y.c3, .slice t2.d.y.o4 t2.d.y.q.q2.length t2.d.y.c4, .string t2.d.s, .slice t2.d.ro t2.d.rl.length t2.d.rc, .slice t2.d.lo t2.ts.length t2.d.lc]) (L' := (.row 30 11 (.slice so7 ys.length ca7) ys.length (cellsOf (isort (ltC keyC) ys)) :: .obj g4 (.cells (t2.d.cells t2.ts.length).toArray 30) :: .obj g2 (.cells (t.d.cells t.ts.length).toArray 30) :: [])) hA hM rfl rfl (m_store rfl rfl rfl (by kernel_rfl) hM 1 rfl rfl rfl) 1 rfl rfl rfl ?_
 intro w17 hM hK18
 replace hrt2 := Dt.kept hK18 _ hrt2 (Dt.at_mono (fun b hb => by rintro rfl; omega) _ hat2)
 refine seq_do hA rfl rfl rfl (does_assign rfl) ?_
 intro a hA
 refine seq_end ?_
 refine hK12 _ _ ?_
 refine wp_ret ?_
 refine hret _ _ ?_
 refine ends (v := .tuple #[.agg (t2.d.cells t2.ts.length).toArray, .int .i64 0]) hA rfl (.cons (res_cellS hM LiX_isS_30 rfl 1 rfl (cs := [.int .i64 t2.d.k, .int .i64 t2.d.n, .bool t2.d.y.q.b1, .slice t2.d.y.o1 t2.d.y.q.t1.length t2.d.y.c1, .slice t2.d.y.o2 t2.d.y.q.q1.length t2.d.y.c2, .bool t2.d.y.q.b2, .slice t2.d.y.o3 t2.d.y.q.t2.length t2.d.y.c3, .slice t2.d.y.o4 t2.d.y.q.q2.length t2.d.y.c4, .string t2.d.s, .slice t2.d.ro t2.d.rl.length t2.d.rc, .slice t2.d.lo t2.ts.length t2.d.lc]) rfl rfl) (.cons (res_tmp rfl) .nil)) rfl ?_
 exact ⟨t2, 0, rfl, ⟨hrt2, Dt.at_mono (fun b hb => Nat.le_trans hzt2 hb) _ hat2, by rw [htt2, isort_tr, hye]⟩, hM.bel⟩
def chD (n : Nat) : Dt := .mk ⟨4, (n : Int), ⟨Q6.zero, none, 0, none, 0, none, 0, none, 0⟩, ⟨#[]⟩, none, 0, [], none, 0⟩ []
def cT (n : Nat) : Tr := .mk 4 (n : Int) Q6.zero ⟨#[]⟩ [] []
def pT (k n : Nat) : Tr := .mk 8 0 Q6.zero ⟨#[]⟩ [] [cT k, cT n]
theorem chD_tr (n : Nat) : (chD n).tr = cT n := by unfold chD cT; rw [Dt.tr_mk]; rfl
theorem chD_rd (w : World) {n : Nat} (h : n ≤ 1000) : (chD n).rd w := by
  unfold chD
  exact Dt.rd_iff.2 ⟨⟨⟨Sc.none w, Sc.none w, Sc.none w, Sc.none w⟩, lenQ_zero, ⟨fun h => absurd rfl h⟩, Nat.le_refl _, by show (0 : Nat) ≤ _; omega, by show (-9223372036854775808 : Int) ≤ 4; omega, by show (4 : Int) ≤ 9223372036854775807; omega, by show (-9223372036854775808 : Int) ≤ (n : Int); omega, by show (n : Int) ≤ 9223372036854775807; omega, by show (0 : Nat) ≤ _; omega⟩, Nat.le_refl _, by show (0 : Nat) ≤ _; omega, fun h => absurd rfl h, fun t h => by cases h⟩
/-- The pieces of memory of such pairs, and the pairs. -/
def mkP (q : Nat × Nat × Nat) : Dt := pairD q.1 (chD q.2.1) (chD q.2.2)
def pcs (gs : List (Nat × Nat × Nat)) : List Ck := gs.map fun q => .row 30 11 (.slice (some ⟨q.1, 0, none⟩) 2 2) 2 (cellsOf [chD q.2.1, chD q.2.2])
theorem pcs_rd {w0 w : World} {L : List Ck} {gs : List (Nat × Nat × Nat)} (hM : Mg w0 w (L ++ pcs gs)) (hs : ∀ q ∈ gs, q.2.1 ≤ 1000 ∧ q.2.2 ≤ 1000) : ∀ q ∈ gs, (mkP q).rd w := fun q hq => by
  have h := hM.all _ (List.mem_append_right _ (List.mem_map_of_mem hq))
  refine pairD_rd (Ck.lt h q.1 rfl).2 (fun p v hp => ?_) (chD_rd w (hs q hq).1) (chD_rd w (hs q hq).2)
  obtain ⟨b, o, e, hc⟩ := rc_own h (fun e => by cases e)
  cases e
  have := hc p v hp
  rwa [Nat.zero_add] at this
theorem cT_sound {n : Nat} (h : n ≤ 1000) : soundT shapeT (cT n) = true := by
  rw [sound_char]
  refine ⟨by rfl, by show 1 + 0 ≤ 20000; omega, ?_⟩
  show (shapeT (cT n) && true) = true
  rw [Bool.and_true]
  show (isCh (n : Int) && _) = true
  rw [show isCh (n : Int) = true by unfold isCh; simp; omega]; rfl
theorem cT_all {n : Nat} (h : n ≤ 1000) : allT shapeT (cT n) = true := ((sound_char _).1 (cT_sound h)).2.2
theorem pT_all {k n : Nat} (h : k ≤ 1000) (h2 : n ≤ 1000) : allT shapeT (pT k n) = true := by
  show (shapeT (pT k n) && (allT shapeT (cT k) && (allT shapeT (cT n) && true))) = true
  rw [cT_all h, cT_all h2]; rfl
/-- What is built: the pairs of the numbers, in their order. -/
def PX (l : List UInt8) (i : Nat) : List Tr := (List.range i).map fun j => pT ((l.getD j 0).toNat % 5) j
theorem PX_succ (l : List UInt8) (i : Nat) : PX l (i + 1) = PX l i ++ [pT ((l.getD i 0).toNat % 5) i] := by unfold PX; rw [List.range_succ, List.map_append]; rfl
theorem PX_len (l : List UInt8) (i : Nat) : (PX l i).length = i := by unfold PX; simp
theorem PX_mem {l : List UInt8} {i : Nat} {x : Tr} (h : x ∈ PX l i) : ∃ k n, x = pT k n ∧ k < 5 ∧ n < i := by
  obtain ⟨j, hj, rfl⟩ := List.mem_map.1 h
  exact ⟨_, j, rfl, Nat.mod_lt _ (by decide), List.mem_range.1 hj⟩
theorem nodesP {xs : List Tr} (h : ∀ x ∈ xs, ∃ k n, x = pT k n) : nodesL xs = 3 * xs.length := by
  induction xs with
  | nil => rfl
  | cons x xs ih =>
    obtain ⟨k, n, rfl⟩ := h x (List.mem_cons_self ..)
    show nodesT (pT k n) + nodesL xs = _
    rw [ih fun y hy => h y (List.mem_cons_of_mem _ hy), show nodesT (pT k n) = 3 from rfl, List.length_cons]; omega
theorem okP {xs : List Tr} (h : ∀ x ∈ xs, ∃ k n, x = pT k n ∧ k < 5 ∧ n < 250) (hl : xs.length ≤ 250) : OkL xs := by
  refine ⟨List.all_eq_true.2 fun x hx => ?_, ?_, List.all_eq_true.2 fun x hx => ?_⟩
  · obtain ⟨k, n, rfl, -⟩ := h x hx; rfl
  · rw [nodesP fun x hx => (h x hx).imp fun k h => h.imp fun n h => h.1]; omega
  · obtain ⟨k, n, rfl, h1, h2⟩ := h x hx; exact pT_all (by omega) (by omega)
theorem pairsP {xs : List Tr} (h : ∀ x ∈ xs, ∃ k n, x = pT k n ∧ k < 5 ∧ n < 250) : PairsC xs := fun x hx => by
  obtain ⟨k, n, rfl, h1, h2⟩ := h x hx
  exact ⟨rfl, cT k, [cT n], rfl, rfl, cT_sound (by omega)⟩
theorem bulksP {xs : List Tr} (h : ∀ x ∈ xs, ∃ k n, x = pT k n) : Tr.bulks xs = 3 * xs.length := by
  induction xs with
  | nil => rfl
  | cons x xs ih =>
    obtain ⟨k, n, rfl⟩ := h x (List.mem_cons_self ..)
    show (pT k n).bulk + Tr.bulks xs = _
    rw [ih fun y hy => h y (List.mem_cons_of_mem _ hy), show (pT k n).bulk = 3 from rfl, List.length_cons]; omega
def ixT (x : Tr) : Nat := match x.ts with
  | [_, b] => b.n.toNat
  | _ => 0
theorem ltT_swo : Swo ltT := by
  constructor
  · intro x y h
    unfold ltT cmpI at *
    have := of_decide_eq_true h
    refine decide_eq_false ?_
    repeat' split at * <;> omega
  · intro x y z h1 h2
    unfold ltT cmpI at *
    have h3 := of_decide_eq_false h1
    have h4 := of_decide_eq_false h2
    refine decide_eq_false ?_
    repeat' split at * <;> omega
theorem PX_rise (l : List UInt8) : ∀ i, (PX l i).Pairwise fun x y => ixT x < ixT y
  | 0 => List.Pairwise.nil
  | i + 1 => by
    rw [PX_succ]
    refine List.pairwise_append.2 ⟨PX_rise l i, List.pairwise_singleton _ _, fun x hx y hy => ?_⟩
    obtain ⟨k, n, rfl, -, h⟩ := PX_mem hx
    rw [List.mem_singleton.1 hy]
    exact h
/-- Two neighbours of what is sorted. -/
theorem neighbours {l : List UInt8} {m i : Nat} {x y : Tr} (hx : (isort ltT (PX l m))[i]? = some x) (hy : (isort ltT (PX l m))[i + 1]? = some y) {k n k' n' : Nat} (ex : x = pT k n) (ey : y = pT k' n') : k < k' ∨ k = k' ∧ n < n' := by
  have h := isort_stable ltT_swo ixT (PX_rise l m)
  obtain ⟨h1, rfl⟩ := List.getElem?_eq_some_iff.1 hx
  obtain ⟨h2, rfl⟩ := List.getElem?_eq_some_iff.1 hy
  have h3 := List.pairwise_iff_getElem.1 h i (i + 1) h1 h2 (Nat.lt_succ_self i)
  rw [ex, ey] at h3
  rcases h3 with h3 | ⟨h3, h4⟩
  · left
    have h5 := of_decide_eq_true h3
    have h6 : cmpI (k : Int) (k' : Int) < 0 := h5
    unfold cmpI at h6
    repeat' split at h6 <;> omega
  · have h5 := of_decide_eq_false h3
    have h6 : ¬ cmpI (k' : Int) (k : Int) < 0 := h5
    have h7 : n < n' := h4
    unfold cmpI at h6
    repeat' split at h6 <;> omega
theorem ar_rem9 {P : Program} {k : IntKind} {t : TypeId} {x y : Operand} {a b z : Int} (hb : b ≠ 0) (h : a.tmod b = z) : ∀ w, (do eqGuard .rem t x y (.int k a) (.int k b); binOp .rem t (.int k a) (.int k b) : Sem Value).run P w = .ok (.int k z) w := fun w => by simp [go_sem, h, hb]
theorem gs_cons {gs : List (Nat × Nat × Nat)} {g k n : Nat} (h : ∀ q ∈ gs, q.2.1 ≤ 1000 ∧ q.2.2 ≤ 1000) (h1 : k ≤ 1000) (h2 : n ≤ 1000) : ∀ q ∈ (g, k, n) :: gs, q.2.1 ≤ 1000 ∧ q.2.2 ≤ 1000 := fun q hq => by
  rcases List.mem_cons.1 hq with rfl | hq
  · exact ⟨h1, h2⟩
  · exact h q hq
theorem PX_step {l : List UInt8} {i g kk : Nat} {ys : List Dt} (h : ys.map Dt.tr = PX l i) (hk : kk = (l.getD i 0).toNat % 5) : (ys ++ [pairD g (chD kk) (chD i)]).map Dt.tr = PX l (i + 1) := by
  rw [List.map_append, h, PX_succ, ← hk, List.map_cons, pairD_tr, chD_tr, chD_tr]; rfl
theorem gs_ys {gs : List (Nat × Nat × Nat)} {g k n : Nat} {ys : List Dt} (h : ys = (gs.map mkP).reverse) : ys ++ [pairD g (chD k) (chD n)] = (((g, k, n) :: gs).map mkP).reverse := by
  rw [h, List.map_cons, List.reverse_cons]; rfl
theorem PX_all {l : List UInt8} {i : Nat} (h : i ≤ 250) : ∀ x ∈ PX l i, ∃ k n, x = pT k n ∧ k < 5 ∧ n < 250 := fun x hx => by
  obtain ⟨k, n, h1, h2, h3⟩ := PX_mem hx; exact ⟨k, n, h1, h2, by omega⟩
theorem PX_bulk {l : List UInt8} {i : Nat} (h : i ≤ 250) : Tr.bulks (PX l i) ≤ 750 := by
  rw [bulksP fun x hx => (PX_all h x hx).imp fun k h => h.imp fun n h => h.1, PX_len]; omega
theorem pair_nums {t u v : Dt} {k n : Nat} (h : t.tr = pT k n) (hu : t.ts[0]? = some u) (hv : t.ts[1]? = some v) : u.d.n = (k : Int) ∧ v.d.n = (n : Int) := by
  cases t with
  | mk d ts =>
    rw [Dt.tr_mk] at h
    have h2 : ts.map Dt.tr = [cT k, cT n] := by unfold pT at h; injection h
    have nn : ∀ t : Dt, t.tr.n = t.d.n := fun t => by cases t; rw [Dt.tr_mk]; rfl
    have e0 := congrArg (fun l => l[0]?) h2
    have e1 := congrArg (fun l => l[1]?) h2
    simp only [List.getElem?_map] at e0 e1
    simp only [Dt.ts] at hu hv
    rw [hu] at e0
    rw [hv] at e1
    have f0 : u.tr = cT k := by simpa using e0
    have f1 : v.tr = cT n := by simpa using e1
    exact ⟨by rw [← nn, f0]; rfl, by rw [← nn, f1]; rfl⟩
/-- Of the items of what is sorted: the one at a place. -/
theorem sorted_at {l : List UInt8} {m j : Nat} {lv : List Dt} {t : Dt} (hm : m ≤ 250) (h : lv.map Dt.tr = isort ltT (PX l m)) (ht : lv[j]? = some t) : (isort ltT (PX l m))[j]? = some t.tr ∧ ∃ k n, t.tr = pT k n := by
  have h1 : (isort ltT (PX l m))[j]? = some t.tr := by rw [← h, List.getElem?_map, ht]; rfl
  obtain ⟨k, n, h2, -⟩ := PX_all hm _ ((isort_perm _).mem_iff.1 (List.mem_of_getElem? h1))
  exact ⟨h1, k, n, h2⟩
end Go.Proofs.YtbnjomifogjdfaaGreatDoor.G
namespace Go.Proofs.YtbnjomifogjdfaaGreatDoor
open Go.RowKit
set_option linter.unusedVariables false
set_option linter.unusedSimpArgs false
set_option maxRecDepth 100000
end Go.Proofs.YtbnjomifogjdfaaGreatDoor
namespace Go.Proofs.YtbnjomifogjdfaaGreatDoor.G
open Go.RowKit
set_option linter.unusedVariables false
set_option linter.unusedSimpArgs false
/-! ### The same trees, by the document -/
set_option maxRecDepth 100000
theorem TrU_is1_21 : Is1 Tryz.prog 21 := ⟨⟨_, Tryz.underlying21, rfl⟩, by kernel_rfl⟩
theorem TrU_is1_5 : Is1 Tryz.prog 5 := ⟨⟨_, Tryz.underlying5, rfl⟩, by kernel_rfl⟩
open Go.Lib
theorem unitsF_cons {f p : Nat} {l : List UInt8} (hl : l ≠ []) : unitsF (f + 1) p l = ((p : Int), uR (decodeL l).1 (decodeL l).2) :: unitsF f (p + (decodeL l).2) (l.drop (decodeL l).2) := by
 conv => lhs; unfold unitsF
 rw [if_neg hl]
theorem rb_open {w : World} {so : Option Addr} {l : List UInt8} {i : Nat} (h : Rb w so l) (hi : i < l.length) : ∃ b off, so = some ⟨b, off, none⟩ ∧ b < w.heap.size ∧ ∀ j, j < l.length → w.cell? ⟨b, off + j, none⟩ = some (.int .u8 (((l.getD j 0).toNat : Nat) : Int)) :=
 h.pos (fun k => by rw [k] at hi; exact absurd hi (Nat.not_lt_zero _))
/-- Units as the document keeps them: a character, whether there is none, its place. -/
def unitV (us : List (Int × Int)) : List Value := us.flatMap fun u => if u.2 = -1 then [.int .i32 0, .bool true, .int .i64 u.1] else [.int .i32 u.2, .bool false, .int .i64 u.1]
theorem and_u8 {x : Int} (i : Nat) (m : Int) (hm : m = ((2 ^ i - 1 : Nat) : Int)) (hs : m ≤ 255) (h0 : 0 ≤ x) (h1 : x ≤ 255) : bits .and .u8 x m = x % ((2 ^ i : Nat) : Int) := by
 obtain ⟨n, rfl⟩ : ∃ n : Nat, x = (n : Int) := ⟨x.toNat, by omega⟩
 subst hm
 have h2 : n &&& (2 ^ i - 1) = n % 2 ^ i := Nat.and_two_pow_sub_one_eq_mod n i
 have e : (BitVec.ofInt IntKind.u8.bits (n : Int) &&& BitVec.ofInt IntKind.u8.bits (((2 ^ i - 1 : Nat)) : Int)).toNat = n % 2 ^ i := by
  rw [← h2, BitVec.ofInt_natCast, BitVec.ofInt_natCast, BitVec.toNat_and, BitVec.toNat_ofNat, BitVec.toNat_ofNat]
  show n % 256 &&& (2 ^ i - 1) % 256 = _
  rw [Nat.mod_eq_of_lt (by omega), Nat.mod_eq_of_lt (by omega)]
 show IntKind.u8.wrap ((BitVec.ofInt IntKind.u8.bits (n : Int) &&& BitVec.ofInt IntKind.u8.bits (((2 ^ i - 1 : Nat)) : Int)).toNat : Int) = _
 rw [e]
 have := Nat.mod_le n (2 ^ i)
 exact (in_u8 (by omega) (by omega)).trans (Int.natCast_emod n (2 ^ i))
theorem or_six {c x : Int} (h0 : 0 ≤ c) (h1 : c ≤ 33554431) (h2 : 0 ≤ x) (h3 : x ≤ 63) : bits .or .i32 (c * 64) x = c * 64 + x := by
 obtain ⟨a, rfl⟩ : ∃ a : Nat, c = (a : Int) := ⟨c.toNat, by omega⟩
 obtain ⟨n, rfl⟩ : ∃ n : Nat, x = (n : Int) := ⟨x.toNat, by omega⟩
 have := Nat.two_pow_add_eq_or_of_lt (i := 6) (b := n) (by omega) a
 rw [show (2 : Nat) ^ 6 = 64 from rfl] at this
 have e := or_i32 (64 * a) n (by omega) (by omega)
 rw [show (((64 * a : Nat)) : Int) = (a : Int) * 64 from by omega] at e
 rw [e, ← this]
 omega
/-- The units from a place on. -/
def restU (l : List UInt8) (i : Nat) : List (Int × Int) := unitsF (l.length - i) i (l.drop i)
theorem restU_zero (l : List UInt8) : restU l 0 = unitsU l := by unfold restU unitsU; rw [List.drop_zero, Nat.sub_zero]
theorem restU_over {l : List UInt8} {i : Nat} (h : ¬ i < l.length) : restU l i = [] := by unfold restU; rw [show l.length - i = 0 from by omega]; rfl
theorem restU_step {l : List UInt8} {i r q : Nat} (h : i < l.length) (e : decodeN (l.length - i) (l.getD i 0).toNat (l.getD (i + 1) 0).toNat (l.getD (i + 2) 0).toNat (l.getD (i + 3) 0).toNat = (r, q)) : restU l i = ((i : Int), uR r q) :: restU l (i + q) := by
 have hne : l.drop i ≠ [] := fun k => by
  have := congrArg List.length k
  rw [List.length_drop, List.length_nil] at this
  omega
 have hd : decodeL (l.drop i) = (r, q) := by
  rw [decodeL_N, getD_drop2, getD_drop2, getD_drop2, getD_drop2, List.length_drop]
  exact e
 have hw := decode_wide _ hne
 rw [hd, List.length_drop] at hw
 simp only at hw
 unfold restU
 obtain ⟨m, hm⟩ : ∃ m, l.length - i = m + 1 := ⟨l.length - i - 1, by omega⟩
 rw [hm, unitsF_cons hne, hd, List.drop_drop]
 simp only
 rw [unitsF_more m (l.length - (i + q)) _ _ (by rw [List.length_drop]; omega) (by rw [List.length_drop]; omega)]
/-- What the first byte of a character says. -/
def LeadU (x n : Nat) (r : Int) : Prop := (x < 128 ∧ n = 1 ∧ r = x) ∨ (192 ≤ x ∧ x < 224 ∧ n = 2 ∧ r = x % 32) ∨ (224 ≤ x ∧ x < 240 ∧ n = 3 ∧ r = x % 16) ∨ (240 ≤ x ∧ x < 248 ∧ n = 4 ∧ r = x % 8) ∨ ((128 ≤ x ∧ x < 192 ∨ 248 ≤ x) ∧ n = 0 ∧ r = 0)
/-- The bytes behind it, so far. -/
def ContU (len i n : Nat) (b1 b2 b3 : Nat) (r : Int) (k : Nat) (rk : Int) (ok : Bool) : Prop := (ok = true ∧ 0 < n ∧ i + n ≤ len ∧ k ≤ n ∧ ((k = 1 ∧ rk = r) ∨ (k = 2 ∧ b1 / 64 = 2 ∧ rk = r * 64 + ((b1 % 64 : Nat) : Int)) ∨ (k = 3 ∧ b1 / 64 = 2 ∧ b2 / 64 = 2 ∧ rk = (r * 64 + ((b1 % 64 : Nat) : Int)) * 64 + ((b2 % 64 : Nat) : Int)) ∨ (k = 4 ∧ b1 / 64 = 2 ∧ b2 / 64 = 2 ∧ b3 / 64 = 2 ∧ rk = ((r * 64 + ((b1 % 64 : Nat) : Int)) * 64 + ((b2 % 64 : Nat) : Int)) * 64 + ((b3 % 64 : Nat) : Int)))) ∨
 (ok = false ∧ (¬ (0 < n ∧ i + n ≤ len) ∨ (1 < n ∧ b1 / 64 ≠ 2) ∨ (2 < n ∧ b2 / 64 ≠ 2) ∨ (3 < n ∧ b3 / 64 ≠ 2)))
def leastV (n : Nat) : Int := if n = 2 then 128 else if n = 3 then 2048 else 65536
theorem least_at {n : Nat} (h0 : 2 ≤ n) (h1 : n ≤ 4) : ([.int .i32 0, .int .i32 0, .int .i32 128, .int .i32 2048, .int .i32 65536] : List Value)[n * 1]? = some (.int .i32 (leastV n)) := by
 have h : n = 2 ∨ n = 3 ∨ n = 4 := by omega
 rcases h with rfl | rfl | rfl <;> rfl
theorem lead_4 {x n : Nat} {r : Int} (h : LeadU x n r) : n ≤ 4 ∧ 0 ≤ r ∧ r ≤ 127 ∧ (1 < n → r ≤ 31) := by unfold LeadU at h; omega
theorem cont_start {len i n b1 b2 b3 : Nat} {r : Int} {ok : Bool} (h : ok = decide (0 < n ∧ i + n ≤ len)) : ContU len i n b1 b2 b3 r 1 r ok := by
 unfold ContU
 by_cases k : 0 < n ∧ i + n ≤ len
 ·
  exact .inl ⟨by rw [h, decide_eq_true k], k.1, k.2, by omega, .inl ⟨rfl, rfl⟩⟩
 ·
  exact .inr ⟨by rw [h, decide_eq_false k], .inl k⟩
theorem cont_step {l : List UInt8} {i n k : Nat} {r rk : Int} (hn : n ≤ 4) (h : ContU l.length i n (l.getD (i + 1) 0).toNat (l.getD (i + 2) 0).toNat (l.getD (i + 3) 0).toNat r k rk true) (hk : k < n) : ContU l.length i n (l.getD (i + 1) 0).toNat (l.getD (i + 2) 0).toNat (l.getD (i + 3) 0).toNat r (k + 1) (rk * 64 + (((l.getD (i + k) 0).toNat : Nat) : Int) % 64) ((((l.getD (i + k) 0).toNat : Nat) : Int) / 64 == 2) := by
 rcases h with ⟨_, h1, h2, h3, h4⟩ | ⟨h, _⟩
 ·
  unfold ContU
  have e : k = 1 ∨ k = 2 ∨ k = 3 := by omega
  rcases e with rfl | rfl | rfl
  ·
   by_cases hb : (((l.getD (i + 1) 0).toNat : Nat) : Int) / 64 = 2
   ·
    exact .inl ⟨beq_iff_eq.2 hb, h1, h2, by omega, by omega⟩
   ·
    exact .inr ⟨beq_eq_false_iff_ne.2 hb, by omega⟩
  ·
   by_cases hb : (((l.getD (i + 2) 0).toNat : Nat) : Int) / 64 = 2
   ·
    exact .inl ⟨beq_iff_eq.2 hb, h1, h2, by omega, by omega⟩
   ·
    exact .inr ⟨beq_eq_false_iff_ne.2 hb, by omega⟩
  ·
   by_cases hb : (((l.getD (i + 3) 0).toNat : Nat) : Int) / 64 = 2
   ·
    exact .inl ⟨beq_iff_eq.2 hb, h1, h2, by omega, by omega⟩
   ·
    exact .inr ⟨beq_eq_false_iff_ne.2 hb, by omega⟩
 ·
  cases h
theorem cont_in {len i n b1 b2 b3 k : Nat} {r rk : Int} (h : ContU len i n b1 b2 b3 r k rk true) : 0 < n ∧ i + n ≤ len ∧ k ≤ n ∧ 1 ≤ k ∧ (0 ≤ r → r ≤ 31 → k ≤ 3 → 0 ≤ rk ∧ rk ≤ 200000) ∧ (0 ≤ r → r ≤ 31 → 0 ≤ rk ∧ rk ≤ 40000000) ∧ (k = 1 → rk = r) := by
 rcases h with ⟨_, h1, h2, h3, h4⟩ | ⟨h, _⟩
 ·
  omega
 ·
  cases h
def EndU (len i n : Nat) (b0 b1 b2 b3 : Nat) (rk : Int) (ok : Bool) : Prop := (ok = true ∧ decodeN (len - i) b0 b1 b2 b3 = (rk.toNat, n) ∧ uR rk.toNat n = rk ∧ 0 ≤ rk ∧ 1 ≤ n ∧ i + n ≤ len) ∨ (ok = false ∧ decodeN (len - i) b0 b1 b2 b3 = (65533, 1))
set_option maxHeartbeats 1000000 in
theorem end_ok {len i n b0 b1 b2 b3 : Nat} {r rk : Int} (hi : i < len) (h0 : b0 < 256) (hL : LeadU b0 n r) (hC : ContU len i n b1 b2 b3 r n rk true) (h : n = 1 ∨ (leastV n ≤ rk ∧ rk ≤ 1114111 ∧ (rk < 55296 ∨ 57343 < rk))) : EndU len i n b0 b1 b2 b3 rk true := by
 rcases hC with ⟨_, h1, h2, h3, h4⟩ | ⟨h, _⟩
 ·
  unfold LeadU at hL
  unfold leastV at h
  have hn : n = 1 ∨ n = 2 ∨ n = 3 ∨ n = 4 := by omega
  refine .inl ⟨rfl, ?_, ?_, by rcases hn with rfl | rfl | rfl | rfl <;> omega, h1, h2⟩
  ·
   unfold decodeN
   rcases hn with rfl | rfl | rfl | rfl
   ·
    rw [if_pos (by omega)]
    exact Prod.ext (by show b0 = rk.toNat; omega) rfl
   ·
    simp only [if_true] at h
    rw [if_neg (by omega), if_pos (by omega), if_pos (by omega)]
    exact Prod.ext (by show (_ : Nat) = rk.toNat; omega) rfl
   ·
    rw [if_neg (show ¬ 3 = 2 by decide), if_pos rfl] at h
    rw [if_neg (by omega), if_neg (by omega), if_pos (by omega), if_pos (by omega)]
    exact Prod.ext (by show (_ : Nat) = rk.toNat; omega) rfl
   ·
    rw [if_neg (show ¬ 4 = 2 by decide), if_neg (show ¬ 4 = 3 by decide)] at h
    rw [if_neg (by omega), if_neg (by omega), if_neg (by omega), if_pos (by omega), if_pos (by omega)]
    exact Prod.ext (by show (_ : Nat) = rk.toNat; omega) rfl
  ·
   unfold uR
   rw [if_neg (by rcases hn with rfl | rfl | rfl | rfl <;> omega)]
   rcases hn with rfl | rfl | rfl | rfl <;> omega
 ·
  cases h
set_option maxHeartbeats 1000000 in
theorem end_no {len i n b0 b1 b2 b3 k : Nat} {r rk : Int} {ok : Bool} (hi : i < len) (h0 : b0 < 256) (hL : LeadU b0 n r) (hC : ContU len i n b1 b2 b3 r k rk ok) (hk : ok = true → k = n) (h : ok = false ∨ (n ≠ 1 ∧ ¬ (leastV n ≤ rk ∧ rk ≤ 1114111 ∧ (rk < 55296 ∨ 57343 < rk)))) : EndU len i n b0 b1 b2 b3 rk false := by
 refine .inr ⟨rfl, ?_⟩
 unfold LeadU at hL
 unfold decodeN
 rcases hC with ⟨hb, h1, h2, h3, h4⟩ | ⟨hb, h4⟩
 ·
  have hkn := hk hb
  subst hkn
  rcases h with h | ⟨h5, h6⟩
  ·
   rw [hb] at h; cases h
  ·
   have hn : k = 2 ∨ k = 3 ∨ k = 4 := by omega
   unfold leastV at h6
   rcases hn with rfl | rfl | rfl
   ·
    simp only [if_true] at h6
    rw [if_neg (by omega), if_pos (by omega), if_neg (by omega)]
   ·
    rw [if_neg (show ¬ 3 = 2 by decide), if_pos rfl] at h6
    rw [if_neg (by omega), if_neg (by omega), if_pos (by omega), if_neg (by omega)]
   ·
    rw [if_neg (show ¬ 4 = 2 by decide), if_neg (show ¬ 4 = 3 by decide)] at h6
    rw [if_neg (by omega), if_neg (by omega), if_neg (by omega), if_pos (by omega), if_neg (by omega)]
 ·
  rw [if_neg (by omega), if_neg (by omega), if_neg (by omega), if_neg (by omega)]
set_option maxHeartbeats 4000000 in
theorem rutf8_any {w : World} {so : Option Addr} {cap : Nat} {l : List UInt8} (hb : Rb w so l) (hlen : l.length ≤ 4000000) : Calls Tryz.prog 129 #[.slice so l.length cap] w fun e w' => ∃ v, e = .returned v ∧ Mg w w' [.row 112 3 v (unitsU l).length (unitV (unitsU l))] := by
 have M : Mg w w ([]) := Mg.start w
 refine walk_of (l := [(0, .slice so l.length cap)]) Tryz.func129 rfl Tryz.ntmps129 rfl rfl ?_
 intro Q hret hnorm hP a A
 refine wsk fun K1 hK1 => wrl (sda A λa A↦?_)
 refine seq_end (hK1 _ _ (wsk fun K2 hK2 => wrl (s_litE (e := 112) (sz := 3) (m := 0) (vs := []) A M rfl rfl rfl (does_buildSlice rfl (by kernel_rfl)) rfl rfl (.inl (by decide)) ?_)))
 intro g3 w4 M a A
 refine sda A λa A↦?_
 refine seq_end (hK2 _ _ (wsk fun K5 hK5 => wsk fun K6 hK6 => wrl (sda A λa A↦?_)))
 refine seq_end (hK6 _ _ (wp_block (wp_loop_n (fun m_ a w1 => ∃ (i : Nat) (acc : List (Int × Int)) (vo : Value), m_ = l.length - i ∧ (acc ++ restU l i = unitsU l ∧ i ≤ l.length ∧ acc.length ≤ i) ∧ Sl a 122 [(0, .slice so l.length cap), (2, .slice none 0 0), (3, vo), (4, .int .i64 (((i : Nat) : Int))), (12, .slice (some ⟨g3, 0, none⟩) 0 0)] ∧ Mg w w1 (.row 112 3 (vo) acc.length ((unitV acc)) :: [])) _ ⟨0, [], .slice (some ⟨g3, 0, none⟩) 0 0, rfl, ⟨by rw [restU_zero]; rfl, Nat.zero_le _, Nat.le_refl _⟩, A.keep _ ⟨rfl, rfl, rfl, rfl, rfl, trivial⟩, M⟩ ?_)))
 clear M A
 rintro m_ a w7 ⟨i, acc, vo, rfl, hinv9, A, M⟩ K8 hK8
 obtain ⟨hrun, hi9, hacc⟩ := hinv9
 refine wsk fun K10 hK10 => wsk fun K11 hK11 => wrl ?_
 iterate 2 refine sdm A λa A↦?_
 refine sdo A (does_len Tryz.underlying28 rfl) λa A↦?_
 rcases tf (decide (((i : Nat) : Int) < ((l.length : Nat) : Int))) with hb12 | hb12
 ·
  have hb12' := of_decide_eq_true hb12
  refine sdc A bin_lss hb12 λa A↦?_
  refine seq_end (hK11 _ _ (wp_cond_true (A.ev rfl) ?_))
  refine wp_skip (hK10 _ _ (wp_block (wsk fun K13 hK13 => wrl ?_)))
  iterate 2 refine sda A λa A↦?_
  refine seq_end (hK13 _ _ (wsk fun K14 hK14 => ?_))
  have hi8 : i < l.length := by omega
  refine wrl ?_
  iterate 2 refine sdm A λa A↦?_
  obtain ⟨bx, ox, hx1, hx2, hx3⟩ := rb_open (i := i) hb (by omega)
  have hu9 := (l.getD (i) 0).toNat_lt
  refine sdo (v := .pointer (some ⟨bx, ox + (i), none⟩)) A (does_indexRow (k := i) Tryz.underlying28 (by kernel_rfl) rfl rfl rfl hx1 (by omega)) λa A↦?_
  refine sdo (v := .int .u8 ((((l.getD i 0).toNat : Nat) : Int))) A (m_loadR M hx2 (hx3 (i) (by omega)) TrU_is1_5 rfl) λa A↦?_
  refine sda A λa A↦?_
  refine seq_end (hK14 _ _ (wsk fun K15 hK15 => ?_))
  have hJ16 : ∀ a w1, (∃ (n : Nat) (r : Int), (LeadU (l.getD i 0).toNat n r) ∧ Sl a 122 [(0, .slice so l.length cap), (2, .slice none 0 0), (3, vo), (4, .int .i64 (((i : Nat) : Int))), (5, .int .i64 (((n : Nat) : Int))), (6, .int .i32 r), (12, .slice (some ⟨g3, 0, none⟩) 0 0), (13, .int .i64 (((i : Nat) : Int))), (14, .slice so l.length cap), (15, .int .i64 (((l.length : Nat) : Int))), (16, .bool true), (17, .slice so l.length cap), (18, .int .i64 (((i : Nat) : Int))), (19, .pointer (some ⟨bx, ox + (i), none⟩)), (20, .int .u8 ((((l.getD i 0).toNat : Nat) : Int)))] ∧ Mg w w1 (.row 112 3 (vo) acc.length ((unitV acc)) :: [])) → K15 a w1 := by
   clear A M
   rintro a w17 ⟨n, r, hf18, A, M⟩
   have hL := hf18
   have hn4 := lead_4 hL
   refine hK15 _ _ (wsk fun K19 hK19 => ?_)
   have hJ20 : ∀ a w1, (∃ (ok : Bool), (ok = decide (0 < n ∧ i + n ≤ l.length)) ∧ Sl a 122 [(0, .slice so l.length cap), (2, .slice none 0 0), (3, vo), (4, .int .i64 (((i : Nat) : Int))), (5, .int .i64 (((n : Nat) : Int))), (6, .int .i32 r), (8, .bool ok), (12, .slice (some ⟨g3, 0, none⟩) 0 0), (13, .int .i64 (((i : Nat) : Int))), (14, .slice so l.length cap), (15, .int .i64 (((l.length : Nat) : Int))), (16, .bool true), (17, .slice so l.length cap), (18, .int .i64 (((i : Nat) : Int))), (19, .pointer (some ⟨bx, ox + (i), none⟩)), (20, .int .u8 ((((l.getD i 0).toNat : Nat) : Int)))] ∧ Mg w w1 (.row 112 3 (vo) acc.length ((unitV acc)) :: [])) → K19 a w1 := by
    clear A M
    rintro a w21 ⟨ok, hf22, A, M⟩
    have hok := hf22
    refine hK19 _ _ (wsk fun K23 hK23 => ?_)
    have hJ24 : ∀ a w1, (∃ (k : Nat) (rk : Int) (ok3 : Bool), (ContU l.length i n (l.getD (i + 1) 0).toNat (l.getD (i + 2) 0).toNat (l.getD (i + 3) 0).toNat r k rk ok3 ∧ (ok3 = true → k = n)) ∧ Sl a 122 [(0, .slice so l.length cap), (2, .slice none 0 0), (3, vo), (4, .int .i64 (((i : Nat) : Int))), (5, .int .i64 (((n : Nat) : Int))), (6, .int .i32 rk), (8, .bool ok3), (12, .slice (some ⟨g3, 0, none⟩) 0 0), (13, .int .i64 (((i : Nat) : Int))), (14, .slice so l.length cap), (15, .int .i64 (((l.length : Nat) : Int))), (16, .bool true), (17, .slice so l.length cap), (18, .int .i64 (((i : Nat) : Int))), (19, .pointer (some ⟨bx, ox + (i), none⟩)), (20, .int .u8 ((((l.getD i 0).toNat : Nat) : Int)))] ∧ Mg w w1 (.row 112 3 (vo) acc.length ((unitV acc)) :: [])) → K23 a w1 := by
     clear A M
     rintro a w25 ⟨k, rk, ok3, hf26, A, M⟩
     obtain ⟨hC, hkn⟩ := hf26
     refine hK23 _ _ (wsk fun K27 hK27 => ?_)
     have hJ28 : ∀ a w1, (∃ (ok4 : Bool), (EndU l.length i n (l.getD i 0).toNat (l.getD (i + 1) 0).toNat (l.getD (i + 2) 0).toNat (l.getD (i + 3) 0).toNat rk ok4) ∧ Sl a 122 [(0, .slice so l.length cap), (2, .slice none 0 0), (3, vo), (4, .int .i64 (((i : Nat) : Int))), (5, .int .i64 (((n : Nat) : Int))), (6, .int .i32 rk), (8, .bool ok4), (12, .slice (some ⟨g3, 0, none⟩) 0 0), (13, .int .i64 (((i : Nat) : Int))), (14, .slice so l.length cap), (15, .int .i64 (((l.length : Nat) : Int))), (16, .bool true), (17, .slice so l.length cap), (18, .int .i64 (((i : Nat) : Int))), (19, .pointer (some ⟨bx, ox + (i), none⟩)), (20, .int .u8 ((((l.getD i 0).toNat : Nat) : Int)))] ∧ Mg w w1 (.row 112 3 (vo) acc.length ((unitV acc)) :: [])) → K27 a w1 := by
      clear A M
      rintro a w29 ⟨ok4, hf30, A, M⟩
      have hE := hf30
      refine hK27 _ _ (wsk fun K31 hK31 => wrl (sdm A λa A↦?_))
      refine seq_end (hK31 _ _ ?_)
      refine wp_cond_split (t := ok4) (A.ev rfl) (fun hc32 => ?_) (fun hc32 => ?_)
      ·
       refine wsk fun K33 hK33 => wrl ?_
       iterate 3 refine sdm A λa A↦?_
       refine sdo (v := .agg #[.int .i32 rk, .bool false, .int .i64 (((i : Nat) : Int))]) A (does_build rfl (fun w => by kernel_rfl)) λa A↦?_
       refine s_litE (e := 112) (sz := 3) (m := 1) (vs := [.int .i32 rk, .bool false, .int .i64 (((i : Nat) : Int))]) A M rfl rfl rfl (does_buildSlice rfl (by kernel_rfl)) rfl rfl (.inl (by decide)) ?_
       intro g34 w35 M a A
       refine s_appendE (e := 112) (sz := 3) (k := 1) (q := acc.length) (m := 1) (xs := (unitV acc)) (news := [.int .i32 rk, .bool false, .int .i64 (((i : Nat) : Int))]) (L' := fun v36 => (.row 112 3 (.slice (some ⟨g34, 0, none⟩) 1 1) 1 ([.int .i32 rk, .bool false, .int .i64 (((i : Nat) : Int))]) :: .row 112 3 (v36) (acc.length + 1) ((unitV acc) ++ [.int .i32 rk, .bool false, .int .i64 (((i : Nat) : Int))]) :: [])) A rfl rfl rfl (m_appendE (z := .agg #[.int .i32 0, .bool false, .int .i64 0]) (sz := 3) (by_ := 16) Tryz.underlying109 (by kernel_rfl) rfl rfl rfl M 1 rfl rfl 0 rfl rfl rfl rfl (by omega)) (fun _ => rfl) ?_
       intro v36 w37 M a A
       refine sda A λa A↦?_
       refine seq_end (hK33 _ _ (wrl ?_))
       iterate 2 refine sdm A λa A↦?_
       refine sdo (v := .int .i64 (((i + n : Nat) : Int))) A (does_bin rfl rfl (ar_add ((in_i64 (by omega) (by omega)).trans (by omega)))) λa A↦?_
       refine sda A λa A↦?_
       refine seq_end ?_
       obtain ⟨hd, hr9, hrk, hn1, hn2⟩ : decodeN (l.length - i) (l.getD i 0).toNat (l.getD (i + 1) 0).toNat (l.getD (i + 2) 0).toNat (l.getD (i + 3) 0).toNat = (rk.toNat, n) ∧ uR rk.toNat n = rk ∧ 0 ≤ rk ∧ 1 ≤ n ∧ i + n ≤ l.length := by
        rcases hE with ⟨_, h⟩ | ⟨h, _⟩
        ·
         exact h
        ·
         rw [hc32] at h; cases h
       have hs9 := restU_step hi8 hd
       rw [hr9] at hs9
       replace M : Mg w w37 [.row 112 3 v36 (acc ++ [((i : Int), rk)]).length (unitV (acc ++ [((i : Int), rk)]))] := by
        have h9 := M.sub (.cons _ (.cons_cons _ (.refl _)))
        have e9 : unitV (acc ++ [((i : Int), rk)]) = unitV acc ++ [.int .i32 rk, .bool false, .int .i64 (((i : Nat) : Int))] := by
         unfold unitV
         rw [List.flatMap_append, List.flatMap_singleton]
         rw [if_neg (show ¬ _ = (-1 : Int) by simp only; omega)]
        rw [e9, List.length_append]
        exact h9
       refine hK8 _ _ _ (by omega) ⟨i + n, acc ++ [((i : Int), rk)], v36, rfl, ⟨by rw [← hrun, hs9, List.append_assoc]; rfl, by omega, by rw [List.length_append]; simp only [List.length_cons, List.length_nil]; omega⟩, A.keep _ ⟨rfl, rfl, rfl, rfl, rfl, trivial⟩, M⟩
      ·
       refine wsk fun K38 hK38 => wrl ?_
       iterate 2 refine sdm A λa A↦?_
       refine sdo (v := .agg #[.int .i32 0, .bool true, .int .i64 (((i : Nat) : Int))]) A (does_build rfl (fun w => by kernel_rfl)) λa A↦?_
       refine s_litE (e := 112) (sz := 3) (m := 1) (vs := [.int .i32 0, .bool true, .int .i64 (((i : Nat) : Int))]) A M rfl rfl rfl (does_buildSlice rfl (by kernel_rfl)) rfl rfl (.inl (by decide)) ?_
       intro g39 w40 M a A
       refine s_appendE (e := 112) (sz := 3) (k := 1) (q := acc.length) (m := 1) (xs := (unitV acc)) (news := [.int .i32 0, .bool true, .int .i64 (((i : Nat) : Int))]) (L' := fun v41 => (.row 112 3 (.slice (some ⟨g39, 0, none⟩) 1 1) 1 ([.int .i32 0, .bool true, .int .i64 (((i : Nat) : Int))]) :: .row 112 3 (v41) (acc.length + 1) ((unitV acc) ++ [.int .i32 0, .bool true, .int .i64 (((i : Nat) : Int))]) :: [])) A rfl rfl rfl (m_appendE (z := .agg #[.int .i32 0, .bool false, .int .i64 0]) (sz := 3) (by_ := 16) Tryz.underlying109 (by kernel_rfl) rfl rfl rfl M 1 rfl rfl 0 rfl rfl rfl rfl (by omega)) (fun _ => rfl) ?_
       intro v41 w42 M a A
       refine sda A λa A↦?_
       refine seq_end (hK38 _ _ (wrl (sdm A λa A↦?_)))
       refine sdo (v := .int .i64 (((i + 1 : Nat) : Int))) A (does_bin rfl rfl (ar_add ((in_i64 (by omega) (by omega)).trans (by omega)))) λa A↦?_
       refine sda A λa A↦?_
       refine seq_end ?_
       have hd : decodeN (l.length - i) (l.getD i 0).toNat (l.getD (i + 1) 0).toNat (l.getD (i + 2) 0).toNat (l.getD (i + 3) 0).toNat = (65533, 1) := by
        rcases hE with ⟨h, _⟩ | ⟨_, h⟩
        ·
         rw [hc32] at h; cases h
        ·
         exact h
       have hr9 : uR 65533 1 = -1 := by unfold uR; rw [if_pos ⟨rfl, by decide⟩]
       have hs9 := restU_step hi8 hd
       rw [hr9] at hs9
       replace M : Mg w w42 [.row 112 3 v41 (acc ++ [((i : Int), (-1))]).length (unitV (acc ++ [((i : Int), (-1))]))] := by
        have h9 := M.sub (.cons _ (.cons_cons _ (.refl _)))
        have e9 : unitV (acc ++ [((i : Int), (-1))]) = unitV acc ++ [.int .i32 0, .bool true, .int .i64 (((i : Nat) : Int))] := by
         unfold unitV
         rw [List.flatMap_append, List.flatMap_singleton]
         rw [if_pos rfl]
        rw [e9, List.length_append]
        exact h9
       refine hK8 _ _ _ (by omega) ⟨i + 1, acc ++ [((i : Int), (-1))], v41, rfl, ⟨by rw [← hrun, hs9, List.append_assoc]; rfl, by omega, by rw [List.length_append]; simp only [List.length_cons, List.length_nil]; omega⟩, A.keep _ ⟨rfl, rfl, rfl, rfl, rfl, trivial⟩, M⟩
     refine wsk fun K43 hK43 => wrl ?_
     iterate 2 refine sdm A λa A↦?_
     rcases ok3 with _ | _
     ·
      iterate 2 refine seq_skip A rfl rfl rfl λa A↦?_
      refine sdk (v := .bool false) A λa A↦?_
      refine seq_end (hK43 _ _ (wp_cond_false (A.ev rfl) ?_))
      refine wp_skip ?_
      replace M : Mg w w25 (.row 112 3 (vo) acc.length ((unitV acc)) :: []) := by
       have h9 := M.sub (.cons_cons _ (.refl _))
       exact h9
      exact hJ28 _ _ ⟨false, end_no hi8 ((l.getD i 0).toNat_lt) hL hC hkn (.inl rfl), A.keep _ ⟨rfl, rfl, rfl, rfl, rfl, rfl, rfl, rfl, rfl, rfl, rfl, rfl, rfl, rfl, rfl, rfl, trivial⟩, M⟩
     ·
      refine sdm A λa A↦?_
      rcases tf (decide (1 < ((n : Nat) : Int))) with hb44 | hb44
      ·
       have hb44' := of_decide_eq_true hb44
       refine sdc A bin_gtr hb44 λa A↦?_
       refine sdk (v := .bool true) A λa A↦?_
       refine seq_end (hK43 _ _ (wp_cond_true (A.ev rfl) ?_))
       refine wsk fun K45 hK45 => wrl (s_litE (e := 21) (sz := 1) (m := 5) (vs := [.int .i32 0, .int .i32 0, .int .i32 128, .int .i32 2048, .int .i32 65536]) A M rfl rfl rfl (does_buildSlice rfl (by kernel_rfl)) rfl rfl (.inl (by decide)) ?_)
       intro g46 w47 M a A
       refine sda A λa A↦?_
       refine seq_end (hK45 _ _ ?_)
       have hc9 := cont_in hC
       refine wrl ?_
       iterate 3 refine sdm A λa A↦?_
       refine sdo (v := .pointer (some ⟨g46, n * 1, none⟩)) A (does_indexE (k := n) Tryz.underlying119 (by kernel_rfl) rfl rfl rfl (by omega)) λa A↦?_
       refine sdo (v := .int .i32 (leastV n)) A (m_loadE M 0 rfl (least_at (by omega) (by omega)) TrU_is1_21 rfl) λa A↦?_
       rcases tf (decide (leastV n ≤ rk)) with hb48 | hb48
       ·
        have hb48' := of_decide_eq_true hb48
        refine sdc A bin_geq hb48 λa A↦?_
        iterate 2 refine sdm A λa A↦?_
        rcases tf (decide (rk ≤ 1114111)) with hb49 | hb49
        ·
         have hb49' := of_decide_eq_true hb49
         refine sdc A bin_leq hb49 λa A↦?_
         refine sdk (v := .bool true) A λa A↦?_
         iterate 2 refine sdm A λa A↦?_
         rcases tf (decide (rk < 55296)) with hb50 | hb50
         ·
          have hb50' := of_decide_eq_true hb50
          refine sdc A bin_lss hb50 λa A↦?_
          refine sdm A λa A↦?_
          iterate 2 refine seq_skip A rfl rfl rfl λa A↦?_
          iterate 2 refine sdk (v := .bool true) A λa A↦?_
          refine sda A λa A↦?_
          refine seq_end ?_
          replace M : Mg w w47 (.row 112 3 (vo) acc.length ((unitV acc)) :: []) := by
           have h9 := M.sub (.cons _ (.cons_cons _ (.refl _)))
           exact h9
          have hc8 := cont_in hC
          exact hJ28 _ _ ⟨true, end_ok hi8 ((l.getD i 0).toNat_lt) hL (hkn rfl ▸ hC) (by omega), A.keep _ ⟨rfl, rfl, rfl, rfl, rfl, rfl, rfl, rfl, rfl, rfl, rfl, rfl, rfl, rfl, rfl, rfl, trivial⟩, M⟩
         ·
          have hb50' := of_decide_eq_false hb50
          refine sdc A bin_lss hb50 λa A↦?_
          iterate 2 refine sdm A λa A↦?_
          rcases tf (decide (57343 < rk)) with hb51 | hb51
          ·
           have hb51' := of_decide_eq_true hb51
           refine sdc A bin_gtr hb51 λa A↦?_
           iterate 2 refine sdk (v := .bool true) A λa A↦?_
           refine sda A λa A↦?_
           refine seq_end ?_
           replace M : Mg w w47 (.row 112 3 (vo) acc.length ((unitV acc)) :: []) := by
            have h9 := M.sub (.cons _ (.cons_cons _ (.refl _)))
            exact h9
           have hc8 := cont_in hC
           exact hJ28 _ _ ⟨true, end_ok hi8 ((l.getD i 0).toNat_lt) hL (hkn rfl ▸ hC) (by omega), A.keep _ ⟨rfl, rfl, rfl, rfl, rfl, rfl, rfl, rfl, rfl, rfl, rfl, rfl, rfl, rfl, rfl, rfl, trivial⟩, M⟩
          ·
           have hb51' := of_decide_eq_false hb51
           refine sdc A bin_gtr hb51 λa A↦?_
           iterate 2 refine sdk (v := .bool false) A λa A↦?_
           refine sda A λa A↦?_
           refine seq_end ?_
           replace M : Mg w w47 (.row 112 3 (vo) acc.length ((unitV acc)) :: []) := by
            have h9 := M.sub (.cons _ (.cons_cons _ (.refl _)))
            exact h9
           have hc8 := cont_in hC
           exact hJ28 _ _ ⟨false, end_no hi8 ((l.getD i 0).toNat_lt) hL hC hkn (.inr ⟨by omega, by omega⟩), A.keep _ ⟨rfl, rfl, rfl, rfl, rfl, rfl, rfl, rfl, rfl, rfl, rfl, rfl, rfl, rfl, rfl, rfl, trivial⟩, M⟩
        ·
         have hb49' := of_decide_eq_false hb49
         refine sdc A bin_leq hb49 λa A↦?_
         refine sdk (v := .bool false) A λa A↦?_
         refine sdm A λa A↦?_
         iterate 3 refine seq_skip A rfl rfl rfl λa A↦?_
         iterate 2 refine seq_skipU A rfl rfl rfl λa A↦?_
         refine seq_skip A rfl rfl rfl λa A↦?_
         refine sdk (v := .bool false) A λa A↦?_
         refine sda A λa A↦?_
         refine seq_end ?_
         replace M : Mg w w47 (.row 112 3 (vo) acc.length ((unitV acc)) :: []) := by
          have h9 := M.sub (.cons _ (.cons_cons _ (.refl _)))
          exact h9
         have hc8 := cont_in hC
         exact hJ28 _ _ ⟨false, end_no hi8 ((l.getD i 0).toNat_lt) hL hC hkn (.inr ⟨by omega, by omega⟩), A.keep _ ⟨rfl, rfl, rfl, rfl, rfl, rfl, rfl, rfl, rfl, rfl, rfl, rfl, rfl, rfl, rfl, rfl, trivial⟩, M⟩
       ·
        have hb48' := of_decide_eq_false hb48
        refine sdc A bin_geq hb48 λa A↦?_
        refine sdm A λa A↦?_
        iterate 2 refine seq_skip A rfl rfl rfl λa A↦?_
        refine sdk (v := .bool false) A λa A↦?_
        refine sdm A λa A↦?_
        iterate 3 refine seq_skip A rfl rfl rfl λa A↦?_
        iterate 2 refine seq_skipU A rfl rfl rfl λa A↦?_
        refine seq_skip A rfl rfl rfl λa A↦?_
        refine sdk (v := .bool false) A λa A↦?_
        refine sda A λa A↦?_
        refine seq_end ?_
        replace M : Mg w w47 (.row 112 3 (vo) acc.length ((unitV acc)) :: []) := by
         have h9 := M.sub (.cons _ (.cons_cons _ (.refl _)))
         exact h9
        have hc8 := cont_in hC
        exact hJ28 _ _ ⟨false, end_no hi8 ((l.getD i 0).toNat_lt) hL hC hkn (.inr ⟨by omega, by omega⟩), A.keep _ ⟨rfl, rfl, rfl, rfl, rfl, rfl, rfl, rfl, rfl, rfl, rfl, rfl, rfl, rfl, rfl, rfl, trivial⟩, M⟩
      ·
       have hb44' := of_decide_eq_false hb44
       refine sdc A bin_gtr hb44 λa A↦?_
       refine sdk (v := .bool false) A λa A↦?_
       refine seq_end (hK43 _ _ (wp_cond_false (A.ev rfl) ?_))
       refine wp_skip ?_
       replace M : Mg w w25 (.row 112 3 (vo) acc.length ((unitV acc)) :: []) := by
        have h9 := M.sub (.cons_cons _ (.refl _))
        exact h9
       have hc8 := cont_in hC
       exact hJ28 _ _ ⟨true, end_ok hi8 ((l.getD i 0).toNat_lt) hL (hkn rfl ▸ hC) (by omega), A.keep _ ⟨rfl, rfl, rfl, rfl, rfl, rfl, rfl, rfl, rfl, rfl, rfl, rfl, rfl, rfl, rfl, rfl, trivial⟩, M⟩
    refine wsk fun K52 hK52 => wrl (sda A λa A↦?_)
    refine seq_end (hK52 _ _ (wp_block (wp_loop_n (fun m_ a w1 => ∃ (k : Nat) (rk : Int) (ok2 : Bool), m_ = 5 - k ∧ (ContU l.length i n (l.getD (i + 1) 0).toNat (l.getD (i + 2) 0).toNat (l.getD (i + 3) 0).toNat r k rk ok2) ∧ Sl a 122 [(0, .slice so l.length cap), (2, .slice none 0 0), (3, vo), (4, .int .i64 (((i : Nat) : Int))), (5, .int .i64 (((n : Nat) : Int))), (6, .int .i32 rk), (8, .bool ok2), (9, .int .i64 (((k : Nat) : Int))), (12, .slice (some ⟨g3, 0, none⟩) 0 0), (13, .int .i64 (((i : Nat) : Int))), (14, .slice so l.length cap), (15, .int .i64 (((l.length : Nat) : Int))), (16, .bool true), (17, .slice so l.length cap), (18, .int .i64 (((i : Nat) : Int))), (19, .pointer (some ⟨bx, ox + (i), none⟩)), (20, .int .u8 ((((l.getD i 0).toNat : Nat) : Int)))] ∧ Mg w w1 (.row 112 3 (vo) acc.length ((unitV acc)) :: [])) _ ⟨1, r, ok, rfl, cont_start hok, A.keep _ ⟨rfl, rfl, rfl, rfl, rfl, rfl, rfl, rfl, rfl, rfl, rfl, rfl, rfl, rfl, rfl, rfl, rfl, trivial⟩, M⟩ ?_)))
    clear M A
    rintro m_ a w53 ⟨k, rk, ok2, rfl, hinv55, A, M⟩ K54 hK54
    have hC := hinv55
    refine wsk fun K56 hK56 => wsk fun K57 hK57 => wrl ?_
    iterate 2 refine sdm A λa A↦?_
    rcases ok2 with _ | _
    ·
     iterate 3 refine seq_skip A rfl rfl rfl λa A↦?_
     refine sdk (v := .bool false) A λa A↦?_
     refine seq_end (hK57 _ _ (wp_cond_false (A.ev rfl) ?_))
     refine wp_exit ?_
     exact hJ24 _ _ ⟨k, rk, false, ⟨hC, fun h => by cases h⟩, A.keep _ ⟨rfl, rfl, rfl, rfl, rfl, rfl, rfl, rfl, rfl, rfl, rfl, rfl, rfl, rfl, rfl, rfl, trivial⟩, M⟩
    ·
     iterate 2 refine sdm A λa A↦?_
     rcases tf (decide (((k : Nat) : Int) < ((n : Nat) : Int))) with hb58 | hb58
     ·
      have hb58' := of_decide_eq_true hb58
      refine sdc A bin_lss hb58 λa A↦?_
      refine sdk (v := .bool true) A λa A↦?_
      refine seq_end (hK57 _ _ (wp_cond_true (A.ev rfl) ?_))
      refine wp_skip (hK56 _ _ (wsk fun K59 hK59 => wp_block (wsk fun K60 hK60 => ?_)))
      have hc9 := cont_in hC
      refine wrl ?_
      iterate 3 refine sdm A λa A↦?_
      refine sdo (v := .int .i64 (((i + k : Nat) : Int))) A (does_bin rfl rfl (ar_add ((in_i64 (by omega) (by omega)).trans (by omega)))) λa A↦?_
      obtain ⟨bx, ox, hx1, hx2, hx3⟩ := rb_open (i := i + k) hb (by omega)
      have hu9 := (l.getD (i + k) 0).toNat_lt
      refine sdo (v := .pointer (some ⟨bx, ox + (i + k), none⟩)) A (does_indexRow (k := i + k) Tryz.underlying28 (by kernel_rfl) rfl rfl rfl hx1 (by omega)) λa A↦?_
      refine sdo (v := .int .u8 ((((l.getD (i + k) 0).toNat : Nat) : Int))) A (m_loadR M hx2 (hx3 (i + k) (by omega)) TrU_is1_5 rfl) λa A↦?_
      refine sda A λa A↦?_
      refine seq_end (hK60 _ _ (wsk fun K61 hK61 => wrl (sdm A λa A↦?_)))
      refine sdo (v := .int .u8 (((((l.getD (i + k) 0).toNat : Nat) : Int)) / 64)) A (does_bin rfl rfl (ar_shr (n := 6) rfl rfl rfl)) λa A↦?_
      refine sdo (v := .bool ((((((l.getD (i + k) 0).toNat : Nat) : Int)) / 64 == 2))) A (does_bin rfl rfl bin_eql) λa A↦?_
      refine sda A λa A↦?_
      refine seq_end (hK61 _ _ (wrl (sdm A λa A↦?_)))
      refine sdo (v := .int .i32 (rk * 64)) A (does_bin rfl rfl (ar_shl (n := 6) rfl rfl (in_i32 (by omega) (by omega)))) λa A↦?_
      refine sdm A λa A↦?_
      refine sdo (v := .int .u8 (((((l.getD (i + k) 0).toNat : Nat) : Int)) % 64)) A (does_bin rfl rfl (ar_and (and_u8 6 63 rfl (by decide) (by omega) (by omega)))) λa A↦?_
      refine sdo (v := .int .i32 (((((l.getD (i + k) 0).toNat : Nat) : Int)) % 64)) A (does_convert rfl (ar_conv Tryz.underlying5 Tryz.underlying21 (in_i32 (by omega) (by omega)))) λa A↦?_
      refine sdo (v := .int .i32 (rk * 64 + (((((l.getD (i + k) 0).toNat : Nat) : Int)) % 64))) A (does_bin rfl rfl (ar_or (or_six (by omega) (by omega) (by omega) (by omega)))) λa A↦?_
      refine sda A λa A↦?_
      refine seq_end (hK59 _ _ (wrl (sdm A λa A↦?_)))
      refine sdo (v := .int .i64 (((k + 1 : Nat) : Int))) A (does_bin rfl rfl (ar_add ((in_i64 (by omega) (by omega)).trans (by omega)))) λa A↦?_
      refine sda A λa A↦?_
      refine seq_end ?_
      refine hK54 _ _ _ (by omega) ⟨k + 1, rk * 64 + (((((l.getD (i + k) 0).toNat : Nat) : Int)) % 64), (((((l.getD (i + k) 0).toNat : Nat) : Int)) / 64 == 2), rfl, cont_step (by omega) hC (by omega), A.keep _ ⟨rfl, rfl, rfl, rfl, rfl, rfl, rfl, rfl, rfl, rfl, rfl, rfl, rfl, rfl, rfl, rfl, rfl, trivial⟩, M⟩
     ·
      have hb58' := of_decide_eq_false hb58
      refine sdc A bin_lss hb58 λa A↦?_
      refine sdk (v := .bool false) A λa A↦?_
      refine seq_end (hK57 _ _ (wp_cond_false (A.ev rfl) ?_))
      refine wp_exit ?_
      exact hJ24 _ _ ⟨k, rk, true, ⟨hC, fun _ => by have := cont_in hC; omega⟩, A.keep _ ⟨rfl, rfl, rfl, rfl, rfl, rfl, rfl, rfl, rfl, rfl, rfl, rfl, rfl, rfl, rfl, rfl, trivial⟩, M⟩
   refine wrl (sdm A λa A↦?_)
   rcases tf (decide (0 < ((n : Nat) : Int))) with hb62 | hb62
   ·
    have hb62' := of_decide_eq_true hb62
    refine sdc A bin_gtr hb62 λa A↦?_
    iterate 3 refine sdm A λa A↦?_
    refine sdo (v := .int .i64 (((i + n : Nat) : Int))) A (does_bin rfl rfl (ar_add ((in_i64 (by omega) (by omega)).trans (by omega)))) λa A↦?_
    refine sdm A λa A↦?_
    refine sdo A (does_len Tryz.underlying28 rfl) λa A↦?_
    rcases tf (decide (((i + n : Nat) : Int) ≤ ((l.length : Nat) : Int))) with hb63 | hb63
    ·
     have hb63' := of_decide_eq_true hb63
     refine sdc A bin_leq hb63 λa A↦?_
     refine sdk (v := .bool true) A λa A↦?_
     refine sda A λa A↦?_
     refine seq_end ?_
     exact hJ20 _ _ ⟨true, (decide_eq_true (by omega)).symm, A.keep _ ⟨rfl, rfl, rfl, rfl, rfl, rfl, rfl, rfl, rfl, rfl, rfl, rfl, rfl, rfl, rfl, rfl, trivial⟩, M⟩
    ·
     have hb63' := of_decide_eq_false hb63
     refine sdc A bin_leq hb63 λa A↦?_
     refine sdk (v := .bool false) A λa A↦?_
     refine sda A λa A↦?_
     refine seq_end ?_
     exact hJ20 _ _ ⟨false, (decide_eq_false (by omega)).symm, A.keep _ ⟨rfl, rfl, rfl, rfl, rfl, rfl, rfl, rfl, rfl, rfl, rfl, rfl, rfl, rfl, rfl, rfl, trivial⟩, M⟩
   ·
    have hb62' := of_decide_eq_false hb62
    refine sdc A bin_gtr hb62 λa A↦?_
    refine sdm A λa A↦?_
    iterate 6 refine seq_skip A rfl rfl rfl λa A↦?_
    refine sdk (v := .bool false) A λa A↦?_
    refine sda A λa A↦?_
    refine seq_end ?_
    exact hJ20 _ _ ⟨false, (decide_eq_false (by omega)).symm, A.keep _ ⟨rfl, rfl, rfl, rfl, rfl, rfl, rfl, rfl, rfl, rfl, rfl, rfl, rfl, rfl, rfl, rfl, trivial⟩, M⟩
  refine wp_block (wsk fun K64 hK64 => wrl (sdm A λa A↦?_))
  rcases tf (decide ((((l.getD i 0).toNat : Nat) : Int) < 128)) with hb65 | hb65
  ·
   have hb65' := of_decide_eq_true hb65
   refine sdc A bin_lss hb65 λa A↦?_
   refine sda A λa A↦?_
   refine seq_end (hK64 _ _ (wp_cond_true (A.ev rfl) ?_))
   refine wrl (sdm A λa A↦?_)
   refine sdo (v := .int .i32 ((((l.getD i 0).toNat : Nat) : Int))) A (does_convert rfl (ar_conv Tryz.underlying5 Tryz.underlying21 (in_i32 (by omega) (by omega)))) λa A↦?_
   iterate 2 refine sda A λa A↦?_
   refine seq_end ?_
   exact hJ16 _ _ ⟨1, (((l.getD i 0).toNat : Nat) : Int), (by unfold LeadU; omega), A.keep _ ⟨rfl, rfl, rfl, rfl, rfl, rfl, rfl, rfl, rfl, rfl, rfl, rfl, rfl, rfl, rfl, trivial⟩, M⟩
  ·
   have hb65' := of_decide_eq_false hb65
   refine sdc A bin_lss hb65 λa A↦?_
   refine sda A λa A↦?_
   refine seq_end (hK64 _ _ (wp_cond_false (A.ev rfl) ?_))
   refine wsk fun K66 hK66 => wrl (sdm A λa A↦?_)
   refine sdo (v := .int .u8 (((((l.getD i 0).toNat : Nat) : Int)) / 32)) A (does_bin rfl rfl (ar_shr (n := 5) rfl rfl rfl)) λa A↦?_
   rcases tf ((((((l.getD i 0).toNat : Nat) : Int)) / 32 == 6)) with hb67 | hb67
   ·
    have hb67' := eq_of_beq hb67
    refine sdc A bin_eql hb67 λa A↦?_
    refine sda A λa A↦?_
    refine seq_end (hK66 _ _ (wp_cond_true (A.ev rfl) ?_))
    refine wrl (sdm A λa A↦?_)
    refine sdo (v := .int .u8 (((((l.getD i 0).toNat : Nat) : Int)) % 32)) A (does_bin rfl rfl (ar_and (and_u8 5 31 rfl (by decide) (by omega) (by omega)))) λa A↦?_
    refine sdo (v := .int .i32 (((((l.getD i 0).toNat : Nat) : Int)) % 32)) A (does_convert rfl (ar_conv Tryz.underlying5 Tryz.underlying21 (in_i32 (by omega) (by omega)))) λa A↦?_
    iterate 2 refine sda A λa A↦?_
    refine seq_end ?_
    exact hJ16 _ _ ⟨2, ((((l.getD i 0).toNat : Nat) : Int)) % 32, (by unfold LeadU; omega), A.keep _ ⟨rfl, rfl, rfl, rfl, rfl, rfl, rfl, rfl, rfl, rfl, rfl, rfl, rfl, rfl, rfl, trivial⟩, M⟩
   ·
    have hb67' := ne_of_beq_false hb67
    refine sdc A bin_eql hb67 λa A↦?_
    refine sda A λa A↦?_
    refine seq_end (hK66 _ _ (wp_cond_false (A.ev rfl) ?_))
    refine wsk fun K68 hK68 => wrl (sdm A λa A↦?_)
    refine sdo (v := .int .u8 (((((l.getD i 0).toNat : Nat) : Int)) / 16)) A (does_bin rfl rfl (ar_shr (n := 4) rfl rfl rfl)) λa A↦?_
    rcases tf ((((((l.getD i 0).toNat : Nat) : Int)) / 16 == 14)) with hb69 | hb69
    ·
     have hb69' := eq_of_beq hb69
     refine sdc A bin_eql hb69 λa A↦?_
     refine sda A λa A↦?_
     refine seq_end (hK68 _ _ (wp_cond_true (A.ev rfl) ?_))
     refine wrl (sdm A λa A↦?_)
     refine sdo (v := .int .u8 (((((l.getD i 0).toNat : Nat) : Int)) % 16)) A (does_bin rfl rfl (ar_and (and_u8 4 15 rfl (by decide) (by omega) (by omega)))) λa A↦?_
     refine sdo (v := .int .i32 (((((l.getD i 0).toNat : Nat) : Int)) % 16)) A (does_convert rfl (ar_conv Tryz.underlying5 Tryz.underlying21 (in_i32 (by omega) (by omega)))) λa A↦?_
     iterate 2 refine sda A λa A↦?_
     refine seq_end ?_
     exact hJ16 _ _ ⟨3, ((((l.getD i 0).toNat : Nat) : Int)) % 16, (by unfold LeadU; omega), A.keep _ ⟨rfl, rfl, rfl, rfl, rfl, rfl, rfl, rfl, rfl, rfl, rfl, rfl, rfl, rfl, rfl, trivial⟩, M⟩
    ·
     have hb69' := ne_of_beq_false hb69
     refine sdc A bin_eql hb69 λa A↦?_
     refine sda A λa A↦?_
     refine seq_end (hK68 _ _ (wp_cond_false (A.ev rfl) ?_))
     refine wsk fun K70 hK70 => wrl (sdm A λa A↦?_)
     refine sdo (v := .int .u8 (((((l.getD i 0).toNat : Nat) : Int)) / 8)) A (does_bin rfl rfl (ar_shr (n := 3) rfl rfl rfl)) λa A↦?_
     rcases tf ((((((l.getD i 0).toNat : Nat) : Int)) / 8 == 30)) with hb71 | hb71
     ·
      have hb71' := eq_of_beq hb71
      refine sdc A bin_eql hb71 λa A↦?_
      refine sda A λa A↦?_
      refine seq_end (hK70 _ _ (wp_cond_true (A.ev rfl) ?_))
      refine wrl (sdm A λa A↦?_)
      refine sdo (v := .int .u8 (((((l.getD i 0).toNat : Nat) : Int)) % 8)) A (does_bin rfl rfl (ar_and (and_u8 3 7 rfl (by decide) (by omega) (by omega)))) λa A↦?_
      refine sdo (v := .int .i32 (((((l.getD i 0).toNat : Nat) : Int)) % 8)) A (does_convert rfl (ar_conv Tryz.underlying5 Tryz.underlying21 (in_i32 (by omega) (by omega)))) λa A↦?_
      iterate 2 refine sda A λa A↦?_
      refine seq_end ?_
      exact hJ16 _ _ ⟨4, ((((l.getD i 0).toNat : Nat) : Int)) % 8, (by unfold LeadU; omega), A.keep _ ⟨rfl, rfl, rfl, rfl, rfl, rfl, rfl, rfl, rfl, rfl, rfl, rfl, rfl, rfl, rfl, trivial⟩, M⟩
     ·
      have hb71' := ne_of_beq_false hb71
      refine sdc A bin_eql hb71 λa A↦?_
      refine sda A λa A↦?_
      refine seq_end (hK70 _ _ (wp_cond_false (A.ev rfl) ?_))
      refine wp_skip ?_
      exact hJ16 _ _ ⟨0, 0, (by unfold LeadU; omega), A.keep _ ⟨rfl, rfl, rfl, rfl, rfl, rfl, rfl, rfl, rfl, rfl, rfl, rfl, rfl, rfl, rfl, trivial⟩, M⟩
 ·
  have hb12' := of_decide_eq_false hb12
  refine sdc A bin_lss hb12 λa A↦?_
  refine seq_end (hK11 _ _ (wp_cond_false (A.ev rfl) ?_))
  refine wp_exit (hK5 _ _ (wsk fun K72 hK72 => wrl (sdm A λa A↦?_)))
  refine sda A λa A↦?_
  refine seq_end (hK72 _ _ (wp_ret (hret _ _ (en1 A rfl (res_tmp rfl) ?_))))
  rw [restU_over (by omega), List.append_nil] at hrun
  subst hrun
  exact ⟨_, rfl, M⟩
open Go.RowKit Go.Lib
theorem owns_sliceE {w : World} {B : Nat} {e : TypeId} {sz : Nat} {v : Value} {n : Nat} {xs : List Value} (h : w.ownsRow B e sz v n xs) : ∃ so cap, v = .slice so n cap := by
  rcases h.2 with ⟨rfl, rfl⟩ | ⟨g, cap, cur, rfl, _⟩
  · exact ⟨none, 0, rfl⟩
  · exact ⟨_, cap, rfl⟩
section
variable {P : Program} {w0 w : World} {L : List Ck} {l : List (Nat × Value)} {dst : Option Tmp} {ty : TypeId} {pos : String} {after : Array Edge} {guard : Option (Nat × Bool)} {v : Value}
theorem does_convC {w' : World} {s d : TypeId} {x : Operand} {u : Value} (hx : ev l x = some u) (hr : (convert s d u).run P w = .ok v w') : Does P l ⟨dst, .convert s d x, ty, pos, after, guard⟩ w v w' := fun ρ h => by
  simp only [execOp, h x _ hx, Sem.run_bind, hr, Result.andThen_ok, Sem.run_pure]
theorem row_addr (hM : Mg w0 w L) (k : Nat) {e : TypeId} {sz n cap : Nat} {so : Option Addr} {xs : List Value} (hk : L[k]? = some (.row e sz (.slice so n cap) n xs)) (hn : 0 < n) : ∃ g, so = some ⟨g, 0, none⟩ := by
  rcases (hM.has k hk).2 with ⟨_, h0⟩ | ⟨g, cap', cur, he, _⟩
  · omega
  · cases he; exact ⟨g, rfl⟩
theorem does_indexX {t e : TypeId} {sz : Nat} (hu : P.underlying t = some (.slice e)) (he : (P.info? e).map (·.size) = some sz) {x i : Operand} {so : Option Addr} {g n c k : Nat} {z : Int} (hx : ev l x = some (.slice so n c)) (hi : ev l i = some (.int .i64 z)) (hz : z = (k : Nat)) (hso : so = some ⟨g, 0, none⟩) (hk : k < n) :
    Does P l ⟨dst, .indexAddr t x i, ty, pos, after, guard⟩ w (.pointer (some ⟨g, k * sz, none⟩)) w := by
  subst hso
  exact does_indexE hu he hx hi hz hk
theorem m_loadX (hM : Mg w0 w L) (k : Nat) {e : TypeId} {sz g n c j : Nat} {so : Option Addr} {xs : List Value} (hk : L[k]? = some (.row e sz (.slice so n c) n xs)) (hso : so = some ⟨g, 0, none⟩) (hj : xs[j]? = some v) {t : TypeId} (ht : Is1 P t) {x : Operand} (hx : ev l x = some (.pointer (some ⟨g, j, none⟩))) : Does P l ⟨dst, .load t x, ty, pos, after, guard⟩ w v w := by
  subst hso
  exact m_loadE hM k hk hj ht hx
end
section
variable {P : Program} {w0 w : World} {L : List Ck} {l : List (Nat × Value)} {ops : List Oper} {Q : Exit → Act → World → Prop} {a : Act} {n : Nat} {rest : List Oper} {d : Nat} {dst : Option Tmp} {ty : TypeId} {pos : String} {after : Array Edge} {guard : Option (Nat × Bool)}
/-- A text as bytes. -/
theorem s_bytes (hA : Sl a n l) (hM : Mg w0 w L) {t t' : TypeId} {x : Operand} {s : ByteArray} {o : Oper} (ho : o = ⟨dst, .convert t t' x, ty, pos, after, guard⟩) (ht : P.underlying t = some .string) (hd : P.underlying t' = some (.slice BY)) (he : P.underlying BY = some (.int .u8)) (hx : ev l x = some (.string s)) (hg : passes l ops o = true) (hdst : o.dst = some d) (hdn : Nat.blt d n = true)
    (hk : ∀ so cap w', Rb w' so s.data.toList → Mg w0 w' L → ∀ a', Sl a' n ((d, .slice so s.data.toList.length cap) :: l) → wpList P ops.toArray Q rest a' w') : wpList P ops.toArray Q (o :: rest) a w := by
  subst ho
  have hr := Go.Lib.run_convert_string_bytes (P := P) w t t' BY s ht hd he
  have hb : Below w.heap.size w (bytesWorld w BY s) := ⟨rfl, rfl, rfl, by rw [bytesWorld_size]; omega, fun j hj => bytesWorld_at_old w BY s j hj⟩
  refine seq_do hA hg hdst hdn (v := .slice (some ⟨w.heap.size, 0, none⟩) s.data.toList.length (grownCap w s.size 0 BY)) (w' := bytesWorld w BY s) (does_convC hx (by rw [size_toList]; exact hr)) (hk _ _ _ ⟨fun _ => ⟨w.heap.size, 0, rfl, by rw [bytesWorld_size]; omega, fun j hj => ?_⟩⟩ (hM.call hb))
  rw [size_toList] at hj
  rw [Nat.zero_add]
  exact bytesWorld_cell w BY s j hj
end
theorem unitV_cons (u : Int × Int) (us : List (Int × Int)) : unitV (u :: us) = (if u.2 = -1 then [.int .i32 0, .bool true, .int .i64 u.1] else [.int .i32 u.2, .bool false, .int .i64 u.1]) ++ unitV us := rfl
theorem unitV_at : ∀ (us : List (Int × Int)) (i f : Nat) (u : Int × Int), us[i]? = some u → f < 3 → (unitV us)[i * 3 + f]? = (if u.2 = -1 then [Value.int .i32 0, .bool true, .int .i64 u.1] else [.int .i32 u.2, .bool false, .int .i64 u.1])[f]?
  | [], i, f, u, h, hf => by simp at h
  | v :: us, 0, f, u, h, hf => by
    simp only [List.getElem?_cons_zero, Option.some.injEq] at h
    subst h
    rw [unitV_cons, Nat.zero_mul, Nat.zero_add, List.getElem?_append_left]
    split <;> exact hf
  | v :: us, i + 1, f, u, h, hf => by
    rw [List.getElem?_cons_succ] at h
    rw [unitV_cons, List.getElem?_append_right (by split <;> (simp only [List.length_cons, List.length_nil]; omega))]
    have e : (i + 1) * 3 + f - (if v.2 = -1 then [Value.int .i32 0, .bool true, .int .i64 v.1] else [.int .i32 v.2, .bool false, .int .i64 v.1]).length = i * 3 + f := by
      split <;> (simp only [List.length_cons, List.length_nil]; omega)
    rw [e]
    exact unitV_at us i f u h hf
theorem unit_get {us : List (Int × Int)} {i : Nat} (h : i < us.length) : ∃ ua ur, us[i]? = some (ua, ur) := ⟨_, _, List.getElem?_eq_getElem h⟩
/-! ### Encode -/
theorem units_lenF : ∀ (f p : Nat) (l : List UInt8), (unitsF f p l).length ≤ l.length
  | 0, _, _ => Nat.zero_le _
  | f + 1, p, l => by
    by_cases hl : l = []
    · subst hl; simp [unitsF]
    · rw [unitsF_cons hl, List.length_cons]
      have h1 := units_lenF f (p + (decodeL l).2) (l.drop (decodeL l).2)
      have h2 := decode_wide l hl
      rw [List.length_drop] at h1
      omega
theorem dec_fffd (l : List UInt8) (h : (decodeL l).1 = 65533) : (decodeL l).2 = 1 ∨ (decodeL l).2 = 3 ∨ (decodeL l).2 = 0 := by
  rw [decodeL_N] at h ⊢
  generalize (l.getD 0 0).toNat = b0 at h ⊢
  generalize (l.getD 1 0).toNat = b1 at h ⊢
  generalize (l.getD 2 0).toNat = b2 at h ⊢
  generalize (l.getD 3 0).toNat = b3 at h ⊢
  unfold decodeN at h ⊢
  repeat' split
  all_goals (simp_all)
  all_goals omega
theorem validGo_units : ∀ (f p : Nat) (l : List UInt8), validGoD f l = (unitsF f p l).all (fun u => !decide (u.2 = -1))
  | 0, p, l => rfl
  | f + 1, p, l => by
    unfold validGoD unitsF
    by_cases hl : l = []
    · rw [if_pos hl, if_pos hl]; rfl
    · rw [if_neg hl, if_neg hl, List.all_cons]
      have hw := decode_wide l hl
      have h3 := dec_fffd l
      by_cases hb : (decodeL l).1 = 65533 ∧ (decodeL l).2 = 1
      · rw [if_pos hb]
        have : uR (decodeL l).1 (decodeL l).2 = -1 := by unfold uR; rw [if_pos ⟨hb.1, by omega⟩]
        rw [this]; rfl
      · rw [if_neg hb]
        have : ¬ uR (decodeL l).1 (decodeL l).2 = -1 := by
          unfold uR
          by_cases h9 : (decodeL l).1 = 65533
          · rw [if_neg (by have := h3 h9; omega)]; omega
          · rw [if_neg (fun e => h9 e.1)]; omega
        rw [decide_eq_false this, validGo_units f (p + (decodeL l).2)]
        simp
theorem okS_units (s : ByteArray) : okS s = (unitsU s.data.toList).all (fun u => !decide (u.2 = -1)) := validGo_units _ 0 _
theorem okS_bad {s : ByteArray} {i : Nat} {ua ur : Int} (h : (unitsU s.data.toList)[i]? = some (ua, ur)) (hr : ur = -1) : okS s = false := by
  rw [okS_units]
  apply Bool.eq_false_iff.2
  intro k
  have := List.all_eq_true.1 k _ (List.mem_of_getElem? h)
  simp [hr] at this
theorem okS_good {s : ByteArray} (h : ∀ (i : Nat) (ua ur : Int), (unitsU s.data.toList)[i]? = some (ua, ur) → ur ≠ -1) : okS s = true := by
  rw [okS_units, List.all_eq_true]
  intro u hu
  obtain ⟨i, hi⟩ := List.mem_iff_getElem?.1 hu
  simp [h i u.1 u.2 hi]
theorem TrV_is1_22 : Is1 Tryz.prog 22 := ⟨⟨_, Tryz.underlying22, rfl⟩, by kernel_rfl⟩
theorem TrV_is1_28 : Is1 Tryz.prog 28 := ⟨⟨_, Tryz.underlying28, rfl⟩, by kernel_rfl⟩
theorem TrV_is1_3 : Is1 Tryz.prog 3 := ⟨⟨_, Tryz.underlying3, rfl⟩, by kernel_rfl⟩
theorem TrV_is1_4 : Is1 Tryz.prog 4 := ⟨⟨_, Tryz.underlying4, rfl⟩, by kernel_rfl⟩
theorem TrV_is1_9 : Is1 Tryz.prog 9 := ⟨⟨_, Tryz.underlying9, rfl⟩, by kernel_rfl⟩
theorem TrV_fld_112_1 : FieldAt Tryz.prog 112 1 1 := ⟨_, _, Tryz.underlying112, rfl, rfl, by kernel_rfl⟩
theorem TrV_fld_27_0 : FieldAt Tryz.prog 27 0 0 := ⟨_, _, Tryz.underlying27, rfl, rfl, by kernel_rfl⟩
theorem TrV_fld_27_1 : FieldAt Tryz.prog 27 1 3 := ⟨_, _, Tryz.underlying27, rfl, rfl, by kernel_rfl⟩
theorem TrV_fld_30_0 : FieldAt Tryz.prog 30 0 0 := ⟨_, _, Tryz.underlying30, rfl, rfl, by kernel_rfl⟩
theorem TrV_fld_30_1 : FieldAt Tryz.prog 30 1 1 := ⟨_, _, Tryz.underlying30, rfl, rfl, by kernel_rfl⟩
theorem TrV_fld_30_2 : FieldAt Tryz.prog 30 2 2 := ⟨_, _, Tryz.underlying30, rfl, rfl, by kernel_rfl⟩
theorem TrV_fld_30_3 : FieldAt Tryz.prog 30 3 8 := ⟨_, _, Tryz.underlying30, rfl, rfl, by kernel_rfl⟩
theorem TrV_fld_30_4 : FieldAt Tryz.prog 30 4 9 := ⟨_, _, Tryz.underlying30, rfl, rfl, by kernel_rfl⟩
theorem TrV_fld_30_5 : FieldAt Tryz.prog 30 5 10 := ⟨_, _, Tryz.underlying30, rfl, rfl, by kernel_rfl⟩
theorem TrV_isS_25 : IsS Tryz.prog 25 3 := ⟨⟨_, Tryz.underlying25⟩, by kernel_rfl⟩
theorem TrV_isS_27 : IsS Tryz.prog 27 6 := ⟨⟨_, Tryz.underlying27⟩, by kernel_rfl⟩
theorem runits1_any {w : World} {so : Option Addr} {cap : Nat} {l : List UInt8} (hb : Rb w so l) (hlen : l.length ≤ 4000000) : Calls Tryz.prog 112 #[.int .i64 1, .slice so l.length cap] w fun e w' => ∃ v, e = .returned v ∧ Mg w w' [.row 112 3 v (unitsU l).length (unitV (unitsU l))] := by
 have M : Mg w w ([]) := Mg.start w
 refine walk_of (l := [(0, .int .i64 1), (1, .slice so l.length cap)]) Tryz.func112 rfl Tryz.ntmps112 rfl rfl ?_
 intro Q hret hnorm hP a A
 refine wsk fun K1 hK1 => wrl (sda A λa A↦?_)
 refine seq_end (hK1 _ _ (wsk fun K2 hK2 => wsk fun K3 hK3 => wrl (sdm A λa A↦?_)))
 refine sdo (v := .bool true) A (does_bin rfl rfl (fun w => by kernel_rfl)) λa A↦?_
 refine seq_end (hK3 _ _ (wp_cond_true (A.ev rfl) ?_))
 refine wsk fun K4 hK4 => wrl (sdm A λa A↦?_)
 refine sct A (ef rfl rfl) (rutf8_any (hb.below M.bel) hlen) ?_
 rintro _ w5 ⟨v9, rfl, hM9⟩
 replace M : Mg w w5 (.row 112 3 (v9) ((unitsU l).length) ((unitV (unitsU l))) :: []) := (M.both hM9 (noBld_quiet quietL_nil) (noBld_cons (by simp) (noBld_quiet quietL_nil)))
 refine ⟨_, rfl, ?_⟩
 intro a A
 refine sda A λa A↦?_
 refine seq_end (hK4 _ _ (wp_ret (hret _ _ (en1 A rfl (res_tmp rfl) ?_))))
 exact ⟨_, rfl, M⟩
theorem rvalid_any {w : World} {s : ByteArray} (hs : s.size ≤ 4000000) {r : Bool} (hr : okS s = r) : Calls Tryz.prog 93 #[.string s] w fun e w' => e = .returned (.bool r) ∧ Below w.heap.size w w' := by
 have hul : (unitsU s.data.toList).length ≤ s.data.toList.length := units_lenF _ _ _
 have hsl : s.data.toList.length ≤ 4000000 := by rw [size_toList]; exact hs
 have M : Mg w w ([]) := Mg.start w
 refine walk_of (l := [(0, .string s)]) Tryz.func93 rfl Tryz.ntmps93 rfl rfl ?_
 intro Q hret hnorm hP a A
 refine wsk fun K1 hK1 => wrl (sda A λa A↦?_)
 refine seq_end (hK1 _ _ (wsk fun K2 hK2 => wrl (sdm A λa A↦?_)))
 refine s_bytes A M rfl Tryz.underlying9 Tryz.underlying28 Tryz.underlying5 rfl rfl rfl rfl ?_
 intro so3 ca4 w5 hrb6 M a A
 refine sct A (ef rfl rfl) (runits1_any hrb6 (by rw [size_toList]; exact hs)) ?_
 rintro _ w10 ⟨v9, rfl, hM7⟩
 obtain ⟨so8, ca9, rfl⟩ := owns_sliceE (hM7.has 0 rfl)
 replace M : Mg w w10 (.row 112 3 (.slice so8 ((unitsU s.data.toList).length) ca9) ((unitsU s.data.toList).length) ((unitV (unitsU s.data.toList))) :: []) := (M.both hM7 (noBld_quiet quietL_nil) (noBld_cons (by simp) (noBld_quiet quietL_nil)))
 refine ⟨_, rfl, ?_⟩
 intro a A
 refine sda A λa A↦?_
 refine seq_end (hK2 _ _ (wsk fun K11 hK11 => wsk fun K12 hK12 => wrl (sda A λa A↦?_)))
 refine seq_end (hK12 _ _ (wp_block (wp_loop_n (fun m_ a w1 => ∃ (i : Nat), m_ = 1 + ((unitsU s.data.toList).length - i) ∧ (i ≤ (unitsU s.data.toList).length ∧ ∀ j ua ur, j < i → (unitsU s.data.toList)[j]? = some (ua, ur) → ur ≠ -1) ∧ Sl a 19 [(0, .string s), (3, .slice so8 ((unitsU s.data.toList).length) ca9), (4, .int .i64 (((i : Nat) : Int))), (5, .string s), (6, .slice so3 s.data.toList.length ca4), (7, .slice so8 ((unitsU s.data.toList).length) ca9)] ∧ Mg w w1 (.row 112 3 (.slice so8 ((unitsU s.data.toList).length) ca9) ((unitsU s.data.toList).length) ((unitV (unitsU s.data.toList))) :: [])) _ ⟨0, rfl, ⟨Nat.zero_le _, fun j ua ur hj => absurd hj (Nat.not_lt_zero _)⟩, A.keep _ ⟨rfl, rfl, rfl, rfl, rfl, rfl, trivial⟩, M⟩ ?_)))
 clear M A
 rintro m_ a w13 ⟨i, rfl, hinv15, A, M⟩ K14 hK14
 obtain ⟨hi0, hin9⟩ := hinv15
 refine wsk fun K16 hK16 => wsk fun K17 hK17 => wrl ?_
 iterate 2 refine sdm A λa A↦?_
 refine sdo A (does_len Tryz.underlying109 rfl) λa A↦?_
 rcases tf (decide (((i : Nat) : Int) < (((unitsU s.data.toList).length : Nat) : Int))) with hb18 | hb18
 ·
  have hb18' := of_decide_eq_true hb18
  refine sdc A bin_lss hb18 λa A↦?_
  refine seq_end (hK17 _ _ (wp_cond_true (A.ev rfl) ?_))
  refine wp_skip (hK16 _ _ (wsk fun K19 hK19 => wp_block (wsk fun K20 hK20 => wrl ?_)))
  iterate 2 refine sdm A λa A↦?_
  obtain ⟨gu, hgu⟩ := row_addr M 0 rfl (by omega)
  obtain ⟨ua, ur, hu⟩ := unit_get (us := unitsU s.data.toList) (i := i) (by omega)
  refine sdo (v := .pointer (some ⟨gu, i * 3, none⟩)) A (does_indexX Tryz.underlying109 (by kernel_rfl) rfl rfl rfl hgu (show i < (unitsU s.data.toList).length by omega)) λa A↦?_
  refine sdo (v := .pointer (some ⟨gu, i * 3 + 1, none⟩)) A (does_field TrV_fld_112_1 rfl rfl) λa A↦?_
  by_cases hf : ur = -1
  ·
   refine sdo (v := .bool true) A (m_loadX M 0 rfl hgu ((unitV_at _ i 1 _ hu (by decide)).trans (by rw [if_pos hf]; rfl)) TrV_is1_4 rfl) λa A↦?_
   refine seq_end (hK20 _ _ (wp_cond_true (A.ev rfl) ?_))
   refine wsk fun K21 hK21 => wrl (sda A λa A↦?_)
   refine seq_end (hK21 _ _ (wp_ret (hret _ _ (en1 A rfl (res_tmp rfl) ?_))))
   subst hr
   exact ⟨by rw [okS_bad hu hf], M.bel⟩
  ·
   refine sdo (v := .bool false) A (m_loadX M 0 rfl hgu ((unitV_at _ i 1 _ hu (by decide)).trans (by rw [if_neg hf]; rfl)) TrV_is1_4 rfl) λa A↦?_
   refine seq_end (hK20 _ _ (wp_cond_false (A.ev rfl) ?_))
   refine wp_skip (hK19 _ _ (wrl (sdm A λa A↦?_)))
   refine sdo (v := .int .i64 (((i + 1 : Nat) : Int))) A (does_bin rfl rfl (fun w => (bin_add (i64In (by omega) (by omega)) w).trans (by rw [show (((i : Nat) : Int) + 1 : Int) = ((i + 1 : Nat) : Int) from by omega]))) λa A↦?_
   refine sda A λa A↦?_
   refine seq_end ?_
   refine hK14 _ _ _ (by omega) ⟨i + 1, rfl, ⟨by omega, fun j va vr hj hv => if h9 : j < i then hin9 j va vr h9 hv else by have h8 : j = i := (by omega); subst h8; rw [hu] at hv; injection hv with h7; injection h7 with _ h6; rw [← h6]; exact hf⟩, A.keep _ ⟨rfl, rfl, rfl, rfl, rfl, rfl, trivial⟩, M⟩
 ·
  have hb18' := of_decide_eq_false hb18
  refine sdc A bin_lss hb18 λa A↦?_
  refine seq_end (hK17 _ _ (wp_cond_false (A.ev rfl) ?_))
  refine wp_exit (hK11 _ _ (wsk fun K22 hK22 => wrl (sda A λa A↦?_)))
  refine seq_end (hK22 _ _ (wp_ret (hret _ _ (en1 A rfl (res_tmp rfl) ?_))))
  subst hr
  exact ⟨by rw [okS_good (fun j ua ur hj => hin9 j ua ur (by have := (List.getElem?_eq_some_iff.1 hj).1; omega) hj)], M.bel⟩
theorem risCh_any {w : World} {n : Int} {r : Bool} (hr : isCh n = r) : Calls Tryz.prog 96 #[.int .i64 n] w fun e w' => e = .returned (.bool r) ∧ Below w.heap.size w w' := by
 have M : Mg w w ([]) := Mg.start w
 refine walk_of (l := [(0, .int .i64 n)]) Tryz.func96 rfl Tryz.ntmps96 rfl rfl ?_
 intro Q hret hnorm hP a A
 refine wsk fun K1 hK1 => wrl (sda A λa A↦?_)
 refine seq_end (hK1 _ _ (wsk fun K2 hK2 => wrl (sdm A λa A↦?_)))
 rcases tf (decide (0 ≤ n)) with hb3 | hb3
 ·
  have hb3' := of_decide_eq_true hb3
  refine sdc A bin_geq hb3 λa A↦?_
  iterate 2 refine sdm A λa A↦?_
  rcases tf (decide (n ≤ 1114111)) with hb4 | hb4
  ·
   have hb4' := of_decide_eq_true hb4
   refine sdc A bin_leq hb4 λa A↦?_
   refine sdk (v := .bool true) A λa A↦?_
   iterate 2 refine sdm A λa A↦?_
   rcases tf (decide (n < 55296)) with hb5 | hb5
   ·
    have hb5' := of_decide_eq_true hb5
    refine sdc A bin_lss hb5 λa A↦?_
    refine sdm A λa A↦?_
    iterate 2 refine seq_skip A rfl rfl rfl λa A↦?_
    iterate 2 refine sdk (v := .bool true) A λa A↦?_
    refine sda A λa A↦?_
    refine seq_end (hK2 _ _ (wp_ret (hret _ _ (en1 A rfl (res_tmp rfl) ?_))))
    subst hr
    exact ⟨by rw [show isCh n = true from by unfold isCh; apply decide_eq_true; omega], M.bel⟩
   ·
    have hb5' := of_decide_eq_false hb5
    refine sdc A bin_lss hb5 λa A↦?_
    iterate 2 refine sdm A λa A↦?_
    rcases tf (decide (57343 < n)) with hb6 | hb6
    ·
     have hb6' := of_decide_eq_true hb6
     refine sdc A bin_gtr hb6 λa A↦?_
     iterate 2 refine sdk (v := .bool true) A λa A↦?_
     refine sda A λa A↦?_
     refine seq_end (hK2 _ _ (wp_ret (hret _ _ (en1 A rfl (res_tmp rfl) ?_))))
     subst hr
     exact ⟨by rw [show isCh n = true from by unfold isCh; apply decide_eq_true; omega], M.bel⟩
    ·
     have hb6' := of_decide_eq_false hb6
     refine sdc A bin_gtr hb6 λa A↦?_
     iterate 2 refine sdk (v := .bool false) A λa A↦?_
     refine sda A λa A↦?_
     refine seq_end (hK2 _ _ (wp_ret (hret _ _ (en1 A rfl (res_tmp rfl) ?_))))
     subst hr
     exact ⟨by rw [show isCh n = false from by unfold isCh; apply decide_eq_false; omega], M.bel⟩
  ·
   have hb4' := of_decide_eq_false hb4
   refine sdc A bin_leq hb4 λa A↦?_
   refine sdk (v := .bool false) A λa A↦?_
   refine sdm A λa A↦?_
   iterate 3 refine seq_skip A rfl rfl rfl λa A↦?_
   iterate 2 refine seq_skipU A rfl rfl rfl λa A↦?_
   refine seq_skip A rfl rfl rfl λa A↦?_
   refine sdk (v := .bool false) A λa A↦?_
   refine sda A λa A↦?_
   refine seq_end (hK2 _ _ (wp_ret (hret _ _ (en1 A rfl (res_tmp rfl) ?_))))
   subst hr
   exact ⟨by rw [show isCh n = false from by unfold isCh; apply decide_eq_false; omega], M.bel⟩
 ·
  have hb3' := of_decide_eq_false hb3
  refine sdc A bin_geq hb3 λa A↦?_
  refine sdm A λa A↦?_
  iterate 2 refine seq_skip A rfl rfl rfl λa A↦?_
  refine sdk (v := .bool false) A λa A↦?_
  refine sdm A λa A↦?_
  iterate 3 refine seq_skip A rfl rfl rfl λa A↦?_
  iterate 2 refine seq_skipU A rfl rfl rfl λa A↦?_
  refine seq_skip A rfl rfl rfl λa A↦?_
  refine sdk (v := .bool false) A λa A↦?_
  refine sda A λa A↦?_
  refine seq_end (hK2 _ _ (wp_ret (hret _ _ (en1 A rfl (res_tmp rfl) ?_))))
  subst hr
  exact ⟨by rw [show isCh n = false from by unfold isCh; apply decide_eq_false; omega], M.bel⟩
/-- Sound by its kind, asked in the document's order. -/
def shapeR (k n : Int) (q : Q6) (s : ByteArray) (mr ml : Nat) : Bool :=
 if k < 1 ∨ 11 < k ∨ okS s = false then false
 else if k = 3 ∧ soundQ q = false then false
 else if k ≠ 3 ∧ (nowB q.b1 q.t1.length q.q1.length = false ∨ nowB q.b2 q.t2.length q.q2.length = false) then false
 else if s ≠ ⟨#[]⟩ ∧ k ≠ 5 ∧ k ≠ 6 ∧ k ≠ 11 then false
 else if 0 < mr ∧ k ≠ 7 then false
 else if k = 2 ∧ n ≠ 0 ∧ n ≠ 1 then false
 else if k = 4 ∧ isCh n = false then false
 else if k ≠ 2 ∧ k ≠ 4 ∧ n ≠ 0 then false
 else if k = 8 then decide (ml = 2)
 else decide (k = 9 ∨ ml = 0)
theorem okS_nil : okS ⟨#[]⟩ = true := by unfold okS; rfl
theorem shape_same (k n : Int) (q : Q6) (s : ByteArray) (mr ml : Nat) : shapeB k n q s mr ml = shapeR k n q s mr ml := by
 have hv : s = ⟨#[]⟩ → okS s = true := by rintro rfl; exact okS_nil
 have hn0 : nowB false 0 0 = true := rfl
 unfold shapeB shapeR
 by_cases hk : k < 1 ∨ 11 < k
 ·
  rw [if_pos (show k < 1 ∨ 11 < k ∨ okS s = false by omega)]
  repeat (rw [if_neg (by omega)])
 ·
  have h11 : k = 1 ∨ k = 2 ∨ k = 3 ∨ k = 4 ∨ k = 5 ∨ k = 6 ∨ k = 7 ∨ k = 8 ∨ k = 9 ∨ k = 10 ∨ k = 11 := by omega
  simp only [bareB, hn0]
  generalize nowB q.b1 q.t1.length q.q1.length = B1
  generalize nowB q.b2 q.t2.length q.q2.length = B2
  generalize soundQ q = S1
  generalize isCh n = S2
  by_cases hs : s = ⟨#[]⟩
  ·
   rw [hv hs]
   have hs2 : ¬ s ≠ ⟨#[]⟩ := fun h => h hs
   rcases h11 with h | h | h | h | h | h | h | h | h | h | h <;> subst h <;> cases B1 <;> cases B2 <;> cases S1 <;> cases S2 <;> simp [hs] <;> by_cases hm : mr = 0 <;> simp [hm] <;> by_cases hn : n = 0 <;> simp [hn] <;> first | omega | (by_cases hn1 : n = 1 <;> simp [hn1]) | skip
  ·
   cases hV : okS s <;> rcases h11 with h | h | h | h | h | h | h | h | h | h | h <;> subst h <;> cases B1 <;> cases B2 <;> cases S1 <;> cases S2 <;> simp [hs] <;> by_cases hm : mr = 0 <;> simp [hm] <;> by_cases hn : n = 0 <;> simp [hn] <;> first | omega | skip
section
variable {k n : Int} {q : Q6} {s : ByteArray} {mr ml : Nat}
def ShA (k : Int) (s : ByteArray) : Prop := 1 ≤ k ∧ k ≤ 11 ∧ okS s = true
def ShB (k : Int) (q : Q6) : Prop := (k = 3 → soundQ q = true) ∧ (k ≠ 3 → nowB q.b1 q.t1.length q.q1.length = true ∧ nowB q.b2 q.t2.length q.q2.length = true)
def ShC (k : Int) (s : ByteArray) : Prop := s = ⟨#[]⟩ ∨ k = 5 ∨ k = 6 ∨ k = 11
def ShD (k : Int) (mr : Nat) : Prop := mr = 0 ∨ k = 7
def ShE (k n : Int) : Prop := (k = 2 → n = 0 ∨ n = 1) ∧ (k = 4 → isCh n = true) ∧ (k ≠ 2 → k ≠ 4 → n = 0)
theorem sh1 (h : k < 1 ∨ 11 < k ∨ okS s = false) : shapeR k n q s mr ml = false := by unfold shapeR; rw [if_pos h]
theorem shA (a : ShA k s) : ¬ (k < 1 ∨ 11 < k ∨ okS s = false) := fun e => by
 rcases e with e | e | e
 ·
  have := a.1; omega
 ·
  have := a.2.1; omega
 ·
  rw [a.2.2] at e; cases e
theorem sh2 (a : ShA k s) (h : k = 3) (S : soundQ q = false) : shapeR k n q s mr ml = false := by unfold shapeR; rw [if_neg (shA a), if_pos ⟨h, S⟩]
theorem sh3 (a : ShA k s) (h : k ≠ 3) (S : nowB q.b1 q.t1.length q.q1.length = false ∨ nowB q.b2 q.t2.length q.q2.length = false) : shapeR k n q s mr ml = false := by unfold shapeR; rw [if_neg (shA a), if_neg (fun e => h e.1), if_pos ⟨h, S⟩]
theorem shB1 (b : ShB k q) : ¬ (k = 3 ∧ soundQ q = false) := fun e => by have := b.1 e.1; rw [e.2] at this; cases this
theorem shB2 (b : ShB k q) : ¬ (k ≠ 3 ∧ (nowB q.b1 q.t1.length q.q1.length = false ∨ nowB q.b2 q.t2.length q.q2.length = false)) := fun e => by
 have := b.2 e.1
 rcases e.2 with h | h
 ·
  rw [this.1] at h; cases h
 ·
  rw [this.2] at h; cases h
theorem sh4 (a : ShA k s) (b : ShB k q) (h : s ≠ ⟨#[]⟩ ∧ k ≠ 5 ∧ k ≠ 6 ∧ k ≠ 11) : shapeR k n q s mr ml = false := by unfold shapeR; rw [if_neg (shA a), if_neg (shB1 b), if_neg (shB2 b), if_pos h]
theorem shC (c : ShC k s) : ¬ (s ≠ ⟨#[]⟩ ∧ k ≠ 5 ∧ k ≠ 6 ∧ k ≠ 11) := fun e => by rcases c with h | h | h | h <;> first | exact e.1 h | exact e.2.1 h | exact e.2.2.1 h | exact e.2.2.2 h
theorem sh5 (a : ShA k s) (b : ShB k q) (c : ShC k s) (h : 0 < mr ∧ k ≠ 7) : shapeR k n q s mr ml = false := by unfold shapeR; rw [if_neg (shA a), if_neg (shB1 b), if_neg (shB2 b), if_neg (shC c), if_pos h]
theorem shD (d : ShD k mr) : ¬ (0 < mr ∧ k ≠ 7) := fun e => by rcases d with h | h <;> omega
theorem sh6 (a : ShA k s) (b : ShB k q) (c : ShC k s) (d : ShD k mr) (h : (k = 2 ∧ n ≠ 0 ∧ n ≠ 1) ∨ (k = 4 ∧ isCh n = false) ∨ (k ≠ 2 ∧ k ≠ 4 ∧ n ≠ 0)) : shapeR k n q s mr ml = false := by
 unfold shapeR
 rw [if_neg (shA a), if_neg (shB1 b), if_neg (shB2 b), if_neg (shC c), if_neg (shD d)]
 rcases h with h | h | h
 ·
  rw [if_pos h]
 ·
  rw [if_neg (by omega), if_pos h]
 ·
  rw [if_neg (by omega), if_neg (fun e => h.2.1 e.1), if_pos h]
theorem sh9 (a : ShA k s) (b : ShB k q) (c : ShC k s) (d : ShD k mr) (e : ShE k n) : shapeR k n q s mr ml = if k = 8 then decide (ml = 2) else decide (k = 9 ∨ ml = 0) := by
 unfold shapeR
 have e1 := e.1
 have e3 := e.2.2
 rw [if_neg (shA a), if_neg (shB1 b), if_neg (shB2 b), if_neg (shC c), if_neg (shD d), if_neg (fun h => by have := e1 h.1; omega), if_neg (fun h => by have := e.2.1 h.1; rw [h.2] at this; cases this), if_neg (fun h => by have := e3 h.1 h.2.1; omega)]
end
theorem rshape_any {w : World} {d : Nd} {ts : List Dt} (hok : NdOk w d) (hs2 : d.s.size ≤ 4000000) (hlen : ts.length ≤ 9223372036854775807) {r : Bool} (hr : shapeB d.k d.n d.y.q d.s d.rl.length ts.length = r) : Calls Tryz.prog 78 #[.agg (d.cells ts.length).toArray] w fun e w' => e = .returned (.bool r) ∧ Below w.heap.size w w' := by
 have hrl : d.rl.length ≤ 9223372036854775807 := Nat.le_trans hok.rcap hok.rmax
 have M : Mg w w ([]) := Mg.start w
 refine walk_of (l := [(0, .agg (d.cells ts.length).toArray)]) Tryz.func78 rfl Tryz.ntmps78 rfl rfl ?_
 intro Q hret hnorm hP a A
 refine wsk fun K1 hK1 => wrl (s_new (vs := [.int .i64 d.k, .int .i64 d.n, .bool d.y.q.b1, .slice d.y.o1 d.y.q.t1.length d.y.c1, .slice d.y.o2 d.y.q.q1.length d.y.c2, .bool d.y.q.b2, .slice d.y.o3 d.y.q.t2.length d.y.c3, .slice d.y.o4 d.y.q.q2.length d.y.c4, .string d.s, .slice d.ro d.rl.length d.rc, .slice d.lo ts.length d.lc]) (t := 30) A M rfl rfl rfl pg (does_box rfl rfl) (by decide) ?_)
 intro g2 w3 M a A
 refine sda A λa A↦?_
 refine seq_end (hK1 _ _ (wsk fun K4 hK4 => ?_))
 have hJ5 : ∀ a w1, ((ShA d.k d.s) ∧ Sl a 100 [(0, .agg (d.cells ts.length).toArray), (1, .pointer (some ⟨g2, 0, none⟩))] ∧ Mg w w1 (.obj g2 (.cells (d.cells ts.length).toArray 30) :: [])) → K4 a w1 := by
  clear A M
  rintro a w6 ⟨hf7, A, M⟩
  have hSA := hf7
  refine hK4 _ _ (wsk fun K8 hK8 => ?_)
  have hJ9 : ∀ a w1, ((ShB d.k d.y.q) ∧ Sl a 100 [(0, .agg (d.cells ts.length).toArray), (1, .pointer (some ⟨g2, 0, none⟩))] ∧ Mg w w1 (.obj g2 (.cells (d.cells ts.length).toArray 30) :: [])) → K8 a w1 := by
   clear A M
   rintro a w10 ⟨hf11, A, M⟩
   have hSB := hf11
   refine hK8 _ _ (wsk fun K12 hK12 => ?_)
   have hJ13 : ∀ a w1, ((ShC d.k d.s) ∧ Sl a 100 [(0, .agg (d.cells ts.length).toArray), (1, .pointer (some ⟨g2, 0, none⟩))] ∧ Mg w w1 (.obj g2 (.cells (d.cells ts.length).toArray 30) :: [])) → K12 a w1 := by
    clear A M
    rintro a w14 ⟨hf15, A, M⟩
    have hSC := hf15
    refine hK12 _ _ (wsk fun K16 hK16 => ?_)
    have hJ17 : ∀ a w1, ((ShD d.k d.rl.length) ∧ Sl a 100 [(0, .agg (d.cells ts.length).toArray), (1, .pointer (some ⟨g2, 0, none⟩))] ∧ Mg w w1 (.obj g2 (.cells (d.cells ts.length).toArray 30) :: [])) → K16 a w1 := by
     clear A M
     rintro a w18 ⟨hf19, A, M⟩
     have hSD := hf19
     refine hK16 _ _ (wsk fun K20 hK20 => ?_)
     have hJ21 : ∀ a w1, ((ShE d.k d.n) ∧ Sl a 100 [(0, .agg (d.cells ts.length).toArray), (1, .pointer (some ⟨g2, 0, none⟩))] ∧ Mg w w1 (.obj g2 (.cells (d.cells ts.length).toArray 30) :: [])) → K20 a w1 := by
      clear A M
      rintro a w22 ⟨hf23, A, M⟩
      have hSE := hf23
      refine hK20 _ _ (wsk fun K24 hK24 => wsk fun K25 hK25 => wrl (sdo (v := .pointer (some ⟨g2, 0, none⟩)) A (does_field TrV_fld_30_0 rfl rfl) λa A↦?_))
      refine sdo A (m_load1 M TrV_is1_3 rfl 0 rfl rfl) λa A↦?_
      rcases tf ((d.k == 8)) with hb26 | hb26
      ·
       have hb26' := eq_of_beq hb26
       refine sdc A bin_eql hb26 λa A↦?_
       refine seq_end (hK25 _ _ (wp_cond_true (A.ev rfl) ?_))
       refine wsk fun K27 hK27 => wrl (sdo (v := .pointer (some ⟨g2, 10, none⟩)) A (does_field TrV_fld_30_5 rfl rfl) λa A↦?_)
       refine sdo A (m_load1 M TrV_is1_22 rfl 0 rfl rfl) λa A↦?_
       refine sdo A (does_len Tryz.underlying22 rfl) λa A↦?_
       rcases tf ((((ts.length : Nat) : Int) == 2)) with hb28 | hb28
       ·
        have hb28' := eq_of_beq hb28
        refine sdc A bin_eql hb28 λa A↦?_
        refine sda A λa A↦?_
        refine seq_end (hK27 _ _ (wp_ret (hret _ _ (en1 A rfl (res_tmp rfl) ?_))))
        exact ⟨by rw [← hr, shape_same, sh9 hSA hSB hSC hSD hSE, if_pos (by omega), decide_eq_true (show (ts.length = 2) by omega)], M.bel⟩
       ·
        have hb28' := ne_of_beq_false hb28
        refine sdc A bin_eql hb28 λa A↦?_
        refine sda A λa A↦?_
        refine seq_end (hK27 _ _ (wp_ret (hret _ _ (en1 A rfl (res_tmp rfl) ?_))))
        exact ⟨by rw [← hr, shape_same, sh9 hSA hSB hSC hSD hSE, if_pos (by omega), decide_eq_false (show ¬ (ts.length = 2) by omega)], M.bel⟩
      ·
       have hb26' := ne_of_beq_false hb26
       refine sdc A bin_eql hb26 λa A↦?_
       refine seq_end (hK25 _ _ (wp_cond_false (A.ev rfl) ?_))
       refine wp_skip (hK24 _ _ (wsk fun K29 hK29 => wrl (sdo (v := .pointer (some ⟨g2, 0, none⟩)) A (does_field TrV_fld_30_0 rfl rfl) λa A↦?_)))
       refine sdo A (m_load1 M TrV_is1_3 rfl 0 rfl rfl) λa A↦?_
       rcases tf ((d.k == 9)) with hb30 | hb30
       ·
        have hb30' := eq_of_beq hb30
        refine sdc A bin_eql hb30 λa A↦?_
        refine sdm A λa A↦?_
        iterate 4 refine seq_skip A rfl rfl rfl λa A↦?_
        refine sdk (v := .bool true) A λa A↦?_
        refine sda A λa A↦?_
        refine seq_end (hK29 _ _ (wp_ret (hret _ _ (en1 A rfl (res_tmp rfl) ?_))))
        exact ⟨by rw [← hr, shape_same, sh9 hSA hSB hSC hSD hSE, if_neg (by omega), decide_eq_true (show (d.k = 9 ∨ ts.length = 0) by omega)], M.bel⟩
       ·
        have hb30' := ne_of_beq_false hb30
        refine sdc A bin_eql hb30 λa A↦?_
        refine sdm A λa A↦?_
        refine sdo (v := .pointer (some ⟨g2, 10, none⟩)) A (does_field TrV_fld_30_5 rfl rfl) λa A↦?_
        refine sdo A (m_load1 M TrV_is1_22 rfl 0 rfl rfl) λa A↦?_
        refine sdo A (does_len Tryz.underlying22 rfl) λa A↦?_
        rcases tf ((((ts.length : Nat) : Int) == 0)) with hb31 | hb31
        ·
         have hb31' := eq_of_beq hb31
         refine sdc A bin_eql hb31 λa A↦?_
         refine sdk (v := .bool true) A λa A↦?_
         refine sda A λa A↦?_
         refine seq_end (hK29 _ _ (wp_ret (hret _ _ (en1 A rfl (res_tmp rfl) ?_))))
         exact ⟨by rw [← hr, shape_same, sh9 hSA hSB hSC hSD hSE, if_neg (by omega), decide_eq_true (show (d.k = 9 ∨ ts.length = 0) by omega)], M.bel⟩
        ·
         have hb31' := ne_of_beq_false hb31
         refine sdc A bin_eql hb31 λa A↦?_
         refine sdk (v := .bool false) A λa A↦?_
         refine sda A λa A↦?_
         refine seq_end (hK29 _ _ (wp_ret (hret _ _ (en1 A rfl (res_tmp rfl) ?_))))
         exact ⟨by rw [← hr, shape_same, sh9 hSA hSB hSC hSD hSE, if_neg (by omega), decide_eq_false (show ¬ (d.k = 9 ∨ ts.length = 0) by omega)], M.bel⟩
     refine wsk fun K32 hK32 => wrl (sdo (v := .pointer (some ⟨g2, 0, none⟩)) A (does_field TrV_fld_30_0 rfl rfl) λa A↦?_)
     refine sdo A (m_load1 M TrV_is1_3 rfl 0 rfl rfl) λa A↦?_
     refine seq_end (hK32 _ _ (wp_block (wsk fun K33 hK33 => wrl ?_)))
     rcases tf ((d.k == 2)) with hb34 | hb34
     ·
      have hb34' := eq_of_beq hb34
      refine sdc A bin_eql hb34 λa A↦?_
      refine sda A λa A↦?_
      refine seq_end (hK33 _ _ (wp_cond_true (A.ev rfl) ?_))
      refine wsk fun K35 hK35 => wrl (sdo (v := .pointer (some ⟨g2, 1, none⟩)) A (does_field TrV_fld_30_1 rfl rfl) λa A↦?_)
      refine sdo A (m_load1 M TrV_is1_3 rfl 0 rfl rfl) λa A↦?_
      rcases tf ((d.n != 0)) with hb36 | hb36
      ·
       have hb36' := bne_iff_ne.1 hb36
       refine sdc A bin_neq hb36 λa A↦?_
       refine sdm A λa A↦?_
       refine sdo (v := .pointer (some ⟨g2, 1, none⟩)) A (does_field TrV_fld_30_1 rfl rfl) λa A↦?_
       refine sdo A (m_load1 M TrV_is1_3 rfl 0 rfl rfl) λa A↦?_
       rcases tf ((d.n != 1)) with hb37 | hb37
       ·
        have hb37' := bne_iff_ne.1 hb37
        refine sdc A bin_neq hb37 λa A↦?_
        refine sdk (v := .bool true) A λa A↦?_
        refine seq_end (hK35 _ _ (wp_cond_true (A.ev rfl) ?_))
        refine wsk fun K38 hK38 => wrl (sda A λa A↦?_)
        refine seq_end (hK38 _ _ (wp_ret (hret _ _ (en1 A rfl (res_tmp rfl) ?_))))
        exact ⟨by rw [← hr, shape_same, sh6 hSA hSB hSC hSD (.inl ⟨by omega, by omega, by omega⟩)], M.bel⟩
       ·
        have hb37' := bne_eq_false_iff_eq.1 hb37
        refine sdc A bin_neq hb37 λa A↦?_
        refine sdk (v := .bool false) A λa A↦?_
        refine seq_end (hK35 _ _ (wp_cond_false (A.ev rfl) ?_))
        refine wp_skip ?_
        exact hJ21 _ _ ⟨⟨fun h => by omega, fun h => absurd h (by omega), fun h h2 => by omega⟩, A.keep _ ⟨rfl, rfl, trivial⟩, M⟩
      ·
       have hb36' := bne_eq_false_iff_eq.1 hb36
       refine sdc A bin_neq hb36 λa A↦?_
       refine sdm A λa A↦?_
       iterate 3 refine seq_skip A rfl rfl rfl λa A↦?_
       refine sdk (v := .bool false) A λa A↦?_
       refine seq_end (hK35 _ _ (wp_cond_false (A.ev rfl) ?_))
       refine wp_skip ?_
       exact hJ21 _ _ ⟨⟨fun h => by omega, fun h => absurd h (by omega), fun h h2 => by omega⟩, A.keep _ ⟨rfl, rfl, trivial⟩, M⟩
     ·
      have hb34' := ne_of_beq_false hb34
      refine sdc A bin_eql hb34 λa A↦?_
      refine sda A λa A↦?_
      refine seq_end (hK33 _ _ (wp_cond_false (A.ev rfl) ?_))
      refine wsk fun K39 hK39 => wrl ?_
      rcases tf ((d.k == 4)) with hb40 | hb40
      ·
       have hb40' := eq_of_beq hb40
       refine sdc A bin_eql hb40 λa A↦?_
       refine sda A λa A↦?_
       refine seq_end (hK39 _ _ (wp_cond_true (A.ev rfl) ?_))
       refine wsk fun K41 hK41 => wrl (sdo (v := .pointer (some ⟨g2, 1, none⟩)) A (does_field TrV_fld_30_1 rfl rfl) λa A↦?_)
       refine sdo A (m_load1 M TrV_is1_3 rfl 0 rfl rfl) λa A↦?_
       rcases tf (isCh d.n) with hb42 | hb42
       ·
        refine gcl A M (ef rfl rfl) (risCh_any hb42) fun w44 hb43 M a A => ?_
        refine sdo (v := .bool false) A (does_un rfl un_not) λa A↦?_
        refine seq_end (hK41 _ _ (wp_cond_false (A.ev rfl) ?_))
        refine wp_skip ?_
        exact hJ21 _ _ ⟨⟨fun h => by omega, fun h => hb42, fun h h2 => by omega⟩, A.keep _ ⟨rfl, rfl, trivial⟩, M⟩
       ·
        refine gcl A M (ef rfl rfl) (risCh_any hb42) fun w46 hb45 M a A => ?_
        refine sdo (v := .bool true) A (does_un rfl un_not) λa A↦?_
        refine seq_end (hK41 _ _ (wp_cond_true (A.ev rfl) ?_))
        refine wsk fun K47 hK47 => wrl (sda A λa A↦?_)
        refine seq_end (hK47 _ _ (wp_ret (hret _ _ (en1 A rfl (res_tmp rfl) ?_))))
        exact ⟨by rw [← hr, shape_same, sh6 hSA hSB hSC hSD (.inr (.inl ⟨by omega, hb42⟩))], M.bel⟩
      ·
       have hb40' := ne_of_beq_false hb40
       refine sdc A bin_eql hb40 λa A↦?_
       refine sda A λa A↦?_
       refine seq_end (hK39 _ _ (wp_cond_false (A.ev rfl) ?_))
       refine wsk fun K48 hK48 => wrl (sdo (v := .pointer (some ⟨g2, 1, none⟩)) A (does_field TrV_fld_30_1 rfl rfl) λa A↦?_)
       refine sdo A (m_load1 M TrV_is1_3 rfl 0 rfl rfl) λa A↦?_
       rcases tf ((d.n != 0)) with hb49 | hb49
       ·
        have hb49' := bne_iff_ne.1 hb49
        refine sdc A bin_neq hb49 λa A↦?_
        refine seq_end (hK48 _ _ (wp_cond_true (A.ev rfl) ?_))
        refine wsk fun K50 hK50 => wrl (sda A λa A↦?_)
        refine seq_end (hK50 _ _ (wp_ret (hret _ _ (en1 A rfl (res_tmp rfl) ?_))))
        exact ⟨by rw [← hr, shape_same, sh6 hSA hSB hSC hSD (.inr (.inr ⟨by omega, by omega, by omega⟩))], M.bel⟩
       ·
        have hb49' := bne_eq_false_iff_eq.1 hb49
        refine sdc A bin_neq hb49 λa A↦?_
        refine seq_end (hK48 _ _ (wp_cond_false (A.ev rfl) ?_))
        refine wp_skip ?_
        exact hJ21 _ _ ⟨⟨fun h => by omega, fun h => absurd h (by omega), fun h h2 => by omega⟩, A.keep _ ⟨rfl, rfl, trivial⟩, M⟩
    refine wsk fun K51 hK51 => wrl (sdo (v := .pointer (some ⟨g2, 9, none⟩)) A (does_field TrV_fld_30_4 rfl rfl) λa A↦?_)
    refine sdo A (m_load1 M TrV_is1_28 rfl 0 rfl rfl) λa A↦?_
    refine sdo A (does_len Tryz.underlying28 rfl) λa A↦?_
    rcases tf (decide (0 < ((d.rl.length : Nat) : Int))) with hb52 | hb52
    ·
     have hb52' := of_decide_eq_true hb52
     refine sdc A bin_gtr hb52 λa A↦?_
     refine sdm A λa A↦?_
     refine sdo (v := .pointer (some ⟨g2, 0, none⟩)) A (does_field TrV_fld_30_0 rfl rfl) λa A↦?_
     refine sdo A (m_load1 M TrV_is1_3 rfl 0 rfl rfl) λa A↦?_
     rcases tf ((d.k != 7)) with hb53 | hb53
     ·
      have hb53' := bne_iff_ne.1 hb53
      refine sdc A bin_neq hb53 λa A↦?_
      refine sdk (v := .bool true) A λa A↦?_
      refine seq_end (hK51 _ _ (wp_cond_true (A.ev rfl) ?_))
      refine wsk fun K54 hK54 => wrl (sda A λa A↦?_)
      refine seq_end (hK54 _ _ (wp_ret (hret _ _ (en1 A rfl (res_tmp rfl) ?_))))
      exact ⟨by rw [← hr, shape_same, sh5 hSA hSB hSC ⟨by omega, by omega⟩], M.bel⟩
     ·
      have hb53' := bne_eq_false_iff_eq.1 hb53
      refine sdc A bin_neq hb53 λa A↦?_
      refine sdk (v := .bool false) A λa A↦?_
      refine seq_end (hK51 _ _ (wp_cond_false (A.ev rfl) ?_))
      refine wp_skip ?_
      exact hJ17 _ _ ⟨.inr (by omega), A.keep _ ⟨rfl, rfl, trivial⟩, M⟩
    ·
     have hb52' := of_decide_eq_false hb52
     refine sdc A bin_gtr hb52 λa A↦?_
     refine sdm A λa A↦?_
     iterate 3 refine seq_skip A rfl rfl rfl λa A↦?_
     refine sdk (v := .bool false) A λa A↦?_
     refine seq_end (hK51 _ _ (wp_cond_false (A.ev rfl) ?_))
     refine wp_skip ?_
     exact hJ17 _ _ ⟨.inl (by omega), A.keep _ ⟨rfl, rfl, trivial⟩, M⟩
   refine wsk fun K55 hK55 => wrl (sdo (v := .pointer (some ⟨g2, 8, none⟩)) A (does_field TrV_fld_30_3 rfl rfl) λa A↦?_)
   refine sdo A (m_load1 M TrV_is1_9 rfl 0 rfl rfl) λa A↦?_
   rcases tf (decide (d.s = ⟨#[]⟩)) with hb56 | hb56
   ·
    have hb56' := of_decide_eq_true hb56
    refine sdo (v := .bool false) A (does_bin rfl rfl (fun w => (bin_neqS Tryz.underlying9 w).trans (by rw [hb56] <;> rfl))) λa A↦?_
    refine sdm A λa A↦?_
    iterate 3 refine seq_skip A rfl rfl rfl λa A↦?_
    refine sdk (v := .bool false) A λa A↦?_
    refine sdm A λa A↦?_
    iterate 3 refine seq_skip A rfl rfl rfl λa A↦?_
    refine sdk (v := .bool false) A λa A↦?_
    refine sdm A λa A↦?_
    iterate 3 refine seq_skip A rfl rfl rfl λa A↦?_
    refine sdk (v := .bool false) A λa A↦?_
    refine seq_end (hK55 _ _ (wp_cond_false (A.ev rfl) ?_))
    refine wp_skip ?_
    exact hJ13 _ _ ⟨.inl hb56', A.keep _ ⟨rfl, rfl, trivial⟩, M⟩
   ·
    have hb56' := of_decide_eq_false hb56
    refine sdo (v := .bool true) A (does_bin rfl rfl (fun w => (bin_neqS Tryz.underlying9 w).trans (by rw [hb56] <;> rfl))) λa A↦?_
    refine sdm A λa A↦?_
    refine sdo (v := .pointer (some ⟨g2, 0, none⟩)) A (does_field TrV_fld_30_0 rfl rfl) λa A↦?_
    refine sdo A (m_load1 M TrV_is1_3 rfl 0 rfl rfl) λa A↦?_
    rcases tf ((d.k != 5)) with hb57 | hb57
    ·
     have hb57' := bne_iff_ne.1 hb57
     refine sdc A bin_neq hb57 λa A↦?_
     refine sdk (v := .bool true) A λa A↦?_
     refine sdm A λa A↦?_
     refine sdo (v := .pointer (some ⟨g2, 0, none⟩)) A (does_field TrV_fld_30_0 rfl rfl) λa A↦?_
     refine sdo A (m_load1 M TrV_is1_3 rfl 0 rfl rfl) λa A↦?_
     rcases tf ((d.k != 6)) with hb58 | hb58
     ·
      have hb58' := bne_iff_ne.1 hb58
      refine sdc A bin_neq hb58 λa A↦?_
      refine sdk (v := .bool true) A λa A↦?_
      refine sdm A λa A↦?_
      refine sdo (v := .pointer (some ⟨g2, 0, none⟩)) A (does_field TrV_fld_30_0 rfl rfl) λa A↦?_
      refine sdo A (m_load1 M TrV_is1_3 rfl 0 rfl rfl) λa A↦?_
      rcases tf ((d.k != 11)) with hb59 | hb59
      ·
       have hb59' := bne_iff_ne.1 hb59
       refine sdc A bin_neq hb59 λa A↦?_
       refine sdk (v := .bool true) A λa A↦?_
       refine seq_end (hK55 _ _ (wp_cond_true (A.ev rfl) ?_))
       refine wsk fun K60 hK60 => wrl (sda A λa A↦?_)
       refine seq_end (hK60 _ _ (wp_ret (hret _ _ (en1 A rfl (res_tmp rfl) ?_))))
       exact ⟨by rw [← hr, shape_same, sh4 hSA hSB ⟨hb56', by omega, by omega, by omega⟩], M.bel⟩
      ·
       have hb59' := bne_eq_false_iff_eq.1 hb59
       refine sdc A bin_neq hb59 λa A↦?_
       refine sdk (v := .bool false) A λa A↦?_
       refine seq_end (hK55 _ _ (wp_cond_false (A.ev rfl) ?_))
       refine wp_skip ?_
       exact hJ13 _ _ ⟨.inr (by omega), A.keep _ ⟨rfl, rfl, trivial⟩, M⟩
     ·
      have hb58' := bne_eq_false_iff_eq.1 hb58
      refine sdc A bin_neq hb58 λa A↦?_
      refine sdk (v := .bool false) A λa A↦?_
      refine sdm A λa A↦?_
      iterate 3 refine seq_skip A rfl rfl rfl λa A↦?_
      refine sdk (v := .bool false) A λa A↦?_
      refine seq_end (hK55 _ _ (wp_cond_false (A.ev rfl) ?_))
      refine wp_skip ?_
      exact hJ13 _ _ ⟨.inr (by omega), A.keep _ ⟨rfl, rfl, trivial⟩, M⟩
    ·
     have hb57' := bne_eq_false_iff_eq.1 hb57
     refine sdc A bin_neq hb57 λa A↦?_
     refine sdk (v := .bool false) A λa A↦?_
     refine sdm A λa A↦?_
     iterate 3 refine seq_skip A rfl rfl rfl λa A↦?_
     refine sdk (v := .bool false) A λa A↦?_
     refine sdm A λa A↦?_
     iterate 3 refine seq_skip A rfl rfl rfl λa A↦?_
     refine sdk (v := .bool false) A λa A↦?_
     refine seq_end (hK55 _ _ (wp_cond_false (A.ev rfl) ?_))
     refine wp_skip ?_
     exact hJ13 _ _ ⟨.inr (by omega), A.keep _ ⟨rfl, rfl, trivial⟩, M⟩
  refine wsk fun K61 hK61 => wrl (sdo (v := .pointer (some ⟨g2, 0, none⟩)) A (does_field TrV_fld_30_0 rfl rfl) λa A↦?_)
  refine sdo A (m_load1 M TrV_is1_3 rfl 0 rfl rfl) λa A↦?_
  rcases tf ((d.k == 3)) with hb62 | hb62
  ·
   have hb62' := eq_of_beq hb62
   refine sdc A bin_eql hb62 λa A↦?_
   refine seq_end (hK61 _ _ (wp_cond_true (A.ev rfl) ?_))
   refine wsk fun K63 hK63 => wrl (sdo (v := .pointer (some ⟨g2, 2, none⟩)) A (does_field TrV_fld_30_2 rfl rfl) λa A↦?_)
   refine sdo A (m_loadS M TrV_isS_27 rfl 0 rfl (cs := [.bool d.y.q.b1, .slice d.y.o1 d.y.q.t1.length d.y.c1, .slice d.y.o2 d.y.q.q1.length d.y.c2, .bool d.y.q.b2, .slice d.y.o3 d.y.q.t2.length d.y.c3, .slice d.y.o4 d.y.q.q2.length d.y.c4]) rfl rfl) λa A↦?_
   rcases tf (soundQ d.y.q) with hb64 | hb64
   ·
    refine gcl A M (ef rfl rfl) (rsoundQ_any (Nu.below hok.num M.bel) hok.len hb64) fun w66 hb65 M a A => ?_
    refine sdo (v := .bool false) A (does_un rfl un_not) λa A↦?_
    refine seq_end (hK63 _ _ (wp_cond_false (A.ev rfl) ?_))
    refine wp_skip ?_
    exact hJ9 _ _ ⟨⟨fun _ => hb64, fun h => absurd (show d.k = 3 by omega) h⟩, A.keep _ ⟨rfl, rfl, trivial⟩, M⟩
   ·
    refine gcl A M (ef rfl rfl) (rsoundQ_any (Nu.below hok.num M.bel) hok.len hb64) fun w68 hb67 M a A => ?_
    refine sdo (v := .bool true) A (does_un rfl un_not) λa A↦?_
    refine seq_end (hK63 _ _ (wp_cond_true (A.ev rfl) ?_))
    refine wsk fun K69 hK69 => wrl (sda A λa A↦?_)
    refine seq_end (hK69 _ _ (wp_ret (hret _ _ (en1 A rfl (res_tmp rfl) ?_))))
    exact ⟨by rw [← hr, shape_same, sh2 hSA (by omega) hb64], M.bel⟩
  ·
   have hb62' := ne_of_beq_false hb62
   refine sdc A bin_eql hb62 λa A↦?_
   refine seq_end (hK61 _ _ (wp_cond_false (A.ev rfl) ?_))
   refine wsk fun K70 hK70 => wrl (sdo (v := .pointer (some ⟨g2, 2, none⟩)) A (does_field TrV_fld_30_2 rfl rfl) λa A↦?_)
   refine sdo (v := .pointer (some ⟨g2, 2, none⟩)) A (does_field TrV_fld_27_0 rfl rfl) λa A↦?_
   refine sdo A (m_loadS M TrV_isS_25 rfl 0 rfl (cs := [.bool d.y.q.b1, .slice d.y.o1 d.y.q.t1.length d.y.c1, .slice d.y.o2 d.y.q.q1.length d.y.c2]) rfl rfl) λa A↦?_
   rcases tf (nowB d.y.q.b1 d.y.q.t1.length d.y.q.q1.length) with hb71 | hb71
   ·
    refine gcl A M (ef rfl rfl) (noRat_any hok.len.l1 hok.len.l2 hb71) fun w73 hb72 M a A => ?_
    refine sdo (v := .bool false) A (does_un rfl un_not) λa A↦?_
    refine sdm A λa A↦?_
    refine sdo (v := .pointer (some ⟨g2, 2, none⟩)) A (does_field TrV_fld_30_2 rfl rfl) λa A↦?_
    refine sdo (v := .pointer (some ⟨g2, 5, none⟩)) A (does_field TrV_fld_27_1 rfl rfl) λa A↦?_
    refine sdo A (m_loadS M TrV_isS_25 rfl 0 rfl (cs := [.bool d.y.q.b2, .slice d.y.o3 d.y.q.t2.length d.y.c3, .slice d.y.o4 d.y.q.q2.length d.y.c4]) rfl rfl) λa A↦?_
    rcases tf (nowB d.y.q.b2 d.y.q.t2.length d.y.q.q2.length) with hb74 | hb74
    ·
     refine gcl A M (ef rfl rfl) (noRat_any hok.len.l3 hok.len.l4 hb74) fun w76 hb75 M a A => ?_
     refine sdo (v := .bool false) A (does_un rfl un_not) λa A↦?_
     refine sdk (v := .bool false) A λa A↦?_
     refine seq_end (hK70 _ _ (wp_cond_false (A.ev rfl) ?_))
     refine wp_skip ?_
     exact hJ9 _ _ ⟨⟨fun h => absurd h (by omega), fun _ => ⟨hb71, hb74⟩⟩, A.keep _ ⟨rfl, rfl, trivial⟩, M⟩
    ·
     refine gcl A M (ef rfl rfl) (noRat_any hok.len.l3 hok.len.l4 hb74) fun w78 hb77 M a A => ?_
     refine sdo (v := .bool true) A (does_un rfl un_not) λa A↦?_
     refine sdk (v := .bool true) A λa A↦?_
     refine seq_end (hK70 _ _ (wp_cond_true (A.ev rfl) ?_))
     refine wsk fun K79 hK79 => wrl (sda A λa A↦?_)
     refine seq_end (hK79 _ _ (wp_ret (hret _ _ (en1 A rfl (res_tmp rfl) ?_))))
     exact ⟨by rw [← hr, shape_same, sh3 hSA (by omega) (.inr hb74)], M.bel⟩
   ·
    refine gcl A M (ef rfl rfl) (noRat_any hok.len.l1 hok.len.l2 hb71) fun w81 hb80 M a A => ?_
    refine sdo (v := .bool true) A (does_un rfl un_not) λa A↦?_
    refine sdm A λa A↦?_
    iterate 5 refine seq_skip A rfl rfl rfl λa A↦?_
    refine sdk (v := .bool true) A λa A↦?_
    refine seq_end (hK70 _ _ (wp_cond_true (A.ev rfl) ?_))
    refine wsk fun K82 hK82 => wrl (sda A λa A↦?_)
    refine seq_end (hK82 _ _ (wp_ret (hret _ _ (en1 A rfl (res_tmp rfl) ?_))))
    exact ⟨by rw [← hr, shape_same, sh3 hSA (by omega) (.inl hb71)], M.bel⟩
 refine wsk fun K83 hK83 => wrl (sdo (v := .pointer (some ⟨g2, 0, none⟩)) A (does_field TrV_fld_30_0 rfl rfl) λa A↦?_)
 refine sdo A (m_load1 M TrV_is1_3 rfl 0 rfl rfl) λa A↦?_
 rcases tf (decide (d.k < 1)) with hb84 | hb84
 ·
  have hb84' := of_decide_eq_true hb84
  refine sdc A bin_lss hb84 λa A↦?_
  refine sdm A λa A↦?_
  iterate 3 refine seq_skip A rfl rfl rfl λa A↦?_
  refine sdk (v := .bool true) A λa A↦?_
  refine sdm A λa A↦?_
  iterate 4 refine seq_skip A rfl rfl rfl λa A↦?_
  refine sdk (v := .bool true) A λa A↦?_
  refine seq_end (hK83 _ _ (wp_cond_true (A.ev rfl) ?_))
  refine wsk fun K85 hK85 => wrl (sda A λa A↦?_)
  refine seq_end (hK85 _ _ (wp_ret (hret _ _ (en1 A rfl (res_tmp rfl) ?_))))
  exact ⟨by rw [← hr, shape_same, sh1 (by omega)], M.bel⟩
 ·
  have hb84' := of_decide_eq_false hb84
  refine sdc A bin_lss hb84 λa A↦?_
  refine sdm A λa A↦?_
  refine sdo (v := .pointer (some ⟨g2, 0, none⟩)) A (does_field TrV_fld_30_0 rfl rfl) λa A↦?_
  refine sdo A (m_load1 M TrV_is1_3 rfl 0 rfl rfl) λa A↦?_
  rcases tf (decide (11 < d.k)) with hb86 | hb86
  ·
   have hb86' := of_decide_eq_true hb86
   refine sdc A bin_gtr hb86 λa A↦?_
   refine sdk (v := .bool true) A λa A↦?_
   refine sdm A λa A↦?_
   iterate 4 refine seq_skip A rfl rfl rfl λa A↦?_
   refine sdk (v := .bool true) A λa A↦?_
   refine seq_end (hK83 _ _ (wp_cond_true (A.ev rfl) ?_))
   refine wsk fun K87 hK87 => wrl (sda A λa A↦?_)
   refine seq_end (hK87 _ _ (wp_ret (hret _ _ (en1 A rfl (res_tmp rfl) ?_))))
   exact ⟨by rw [← hr, shape_same, sh1 (by omega)], M.bel⟩
  ·
   have hb86' := of_decide_eq_false hb86
   refine sdc A bin_gtr hb86 λa A↦?_
   refine sdk (v := .bool false) A λa A↦?_
   refine sdm A λa A↦?_
   refine sdo (v := .pointer (some ⟨g2, 8, none⟩)) A (does_field TrV_fld_30_3 rfl rfl) λa A↦?_
   refine sdo A (m_load1 M TrV_is1_9 rfl 0 rfl rfl) λa A↦?_
   rcases tf (okS d.s) with hb88 | hb88
   ·
    refine gcl A M (ef rfl rfl) (rvalid_any hs2 hb88) fun w90 hb89 M a A => ?_
    refine sdo (v := .bool false) A (does_un rfl un_not) λa A↦?_
    refine sdk (v := .bool false) A λa A↦?_
    refine seq_end (hK83 _ _ (wp_cond_false (A.ev rfl) ?_))
    refine wp_skip ?_
    exact hJ5 _ _ ⟨⟨by omega, by omega, hb88⟩, A.keep _ ⟨rfl, rfl, trivial⟩, M⟩
   ·
    refine gcl A M (ef rfl rfl) (rvalid_any hs2 hb88) fun w92 hb91 M a A => ?_
    refine sdo (v := .bool true) A (does_un rfl un_not) λa A↦?_
    refine sdk (v := .bool true) A λa A↦?_
    refine seq_end (hK83 _ _ (wp_cond_true (A.ev rfl) ?_))
    refine wsk fun K93 hK93 => wrl (sda A λa A↦?_)
    refine seq_end (hK93 _ _ (wp_ret (hret _ _ (en1 A rfl (res_tmp rfl) ?_))))
    exact ⟨by rw [← hr, shape_same, sh1 (.inr (.inr hb88))], M.bel⟩
theorem TrW_is1_22 : Is1 Tryz.prog 22 := ⟨⟨_, Tryz.underlying22, rfl⟩, by kernel_rfl⟩
theorem TrW_is1_3 : Is1 Tryz.prog 3 := ⟨⟨_, Tryz.underlying3, rfl⟩, by kernel_rfl⟩
theorem TrW_fld_30_0 : FieldAt Tryz.prog 30 0 0 := ⟨_, _, Tryz.underlying30, rfl, rfl, by kernel_rfl⟩
theorem TrW_fld_30_5 : FieldAt Tryz.prog 30 5 10 := ⟨_, _, Tryz.underlying30, rfl, rfl, by kernel_rfl⟩
theorem TrW_isS_30 : IsS Tryz.prog 30 11 := ⟨⟨_, Tryz.underlying30⟩, by kernel_rfl⟩
def Counts (t : Dt) : Prop := ∀ {w : World} {dp left : Int}, t.rd w → t.tr.bulk ≤ 4000000 → 0 ≤ left → left ≤ 20000 → 0 ≤ dp → dp ≤ 201 → Calls Tryz.prog 59 #[.agg t.cells.toArray, .int .i64 dp, .int .i64 left] w fun e w' => e = .returned (.int .i64 (cntT shapeT dp left t.tr)) ∧ Below w.heap.size w w'
theorem count_all : ∀ t : Dt, Counts t := Dt.indT fun d ts ih => by
 intro w dp left hrd hbk hl0 hl1 hd0 hd1
 have hok := (Dt.rd_iff.1 hrd)
 have hlen : ts.length ≤ 9223372036854775807 := Nat.le_trans hok.2.1 hok.2.2.1
 have M : Mg w w ([]) := Mg.start w
 refine walk_of (l := [(0, .agg (d.cells ts.length).toArray), (1, .int .i64 dp), (2, .int .i64 left)]) Tryz.func59 rfl Tryz.ntmps59 rfl rfl ?_
 intro Q hret hnorm hP a A
 refine wsk fun K1 hK1 => wrl (s_new (vs := [.int .i64 d.k, .int .i64 d.n, .bool d.y.q.b1, .slice d.y.o1 d.y.q.t1.length d.y.c1, .slice d.y.o2 d.y.q.q1.length d.y.c2, .bool d.y.q.b2, .slice d.y.o3 d.y.q.t2.length d.y.c3, .slice d.y.o4 d.y.q.q2.length d.y.c4, .string d.s, .slice d.ro d.rl.length d.rc, .slice d.lo ts.length d.lc]) (t := 30) A M rfl rfl rfl pg (does_box rfl rfl) (by decide) ?_)
 intro g2 w3 M a A
 refine sda A λa A↦?_
 refine seq_end (hK1 _ _ (wsk fun K4 hK4 => wsk fun K5 hK5 => wrl (sdm A λa A↦?_)))
 rcases tf (decide (200 < dp)) with hb6 | hb6
 ·
  have hb6' := of_decide_eq_true hb6
  refine sdc A bin_gtr hb6 λa A↦?_
  refine sdm A λa A↦?_
  iterate 2 refine seq_skip A rfl rfl rfl λa A↦?_
  refine sdk (v := .bool true) A λa A↦?_
  refine sdm A λa A↦?_
  iterate 3 refine seq_skip A rfl rfl rfl λa A↦?_
  refine sdk (v := .bool true) A λa A↦?_
  refine seq_end (hK5 _ _ (wp_cond_true (A.ev rfl) ?_))
  refine wsk fun K7 hK7 => wrl (sda A λa A↦?_)
  refine seq_end (hK7 _ _ (wp_ret (hret _ _ (en1 A rfl (res_tmp rfl) ?_))))
  rw [cntT_no (by omega)]
  exact ⟨rfl, M.bel⟩
 ·
  have hb6' := of_decide_eq_false hb6
  refine sdc A bin_gtr hb6 λa A↦?_
  iterate 2 refine sdm A λa A↦?_
  rcases tf (decide (left ≤ 0)) with hb8 | hb8
  ·
   have hb8' := of_decide_eq_true hb8
   refine sdc A bin_leq hb8 λa A↦?_
   refine sdk (v := .bool true) A λa A↦?_
   refine sdm A λa A↦?_
   iterate 3 refine seq_skip A rfl rfl rfl λa A↦?_
   refine sdk (v := .bool true) A λa A↦?_
   refine seq_end (hK5 _ _ (wp_cond_true (A.ev rfl) ?_))
   refine wsk fun K9 hK9 => wrl (sda A λa A↦?_)
   refine seq_end (hK9 _ _ (wp_ret (hret _ _ (en1 A rfl (res_tmp rfl) ?_))))
   rw [cntT_no (by omega)]
   exact ⟨rfl, M.bel⟩
  ·
   have hb8' := of_decide_eq_false hb8
   refine sdc A bin_leq hb8 λa A↦?_
   refine sdk (v := .bool false) A λa A↦?_
   refine sdm A λa A↦?_
   refine sdo A (m_loadS M TrW_isS_30 rfl 0 rfl (cs := [.int .i64 d.k, .int .i64 d.n, .bool d.y.q.b1, .slice d.y.o1 d.y.q.t1.length d.y.c1, .slice d.y.o2 d.y.q.q1.length d.y.c2, .bool d.y.q.b2, .slice d.y.o3 d.y.q.t2.length d.y.c3, .slice d.y.o4 d.y.q.q2.length d.y.c4, .string d.s, .slice d.ro d.rl.length d.rc, .slice d.lo ts.length d.lc]) rfl rfl) λa A↦?_
   rcases tf (shapeB d.k d.n d.y.q d.s d.rl.length ts.length) with hb10 | hb10
   ·
    refine gcl A M (ef rfl rfl) (rshape_any (hok.1.below M.bel) (Nat.le_trans bulk_text hbk) hlen hb10) fun w12 hb11 M a A => ?_
    refine sdo (v := .bool false) A (does_un rfl un_not) λa A↦?_
    refine sdk (v := .bool false) A λa A↦?_
    refine seq_end (hK5 _ _ (wp_cond_false (A.ev rfl) ?_))
    refine wp_skip (hK4 _ _ (wsk fun K13 hK13 => wrl (sdm A λa A↦?_)))
    refine sdo (v := .int .i64 (left - 1)) A (does_bin rfl rfl (bin_sub (i64In (by omega) (by omega)))) λa A↦?_
    refine sda A λa A↦?_
    refine seq_end (hK13 _ _ (wsk fun K14 hK14 => wsk fun K15 hK15 => wrl (sda A λa A↦?_)))
    refine seq_end (hK15 _ _ (wp_block (wp_loop_n (fun m_ a w1 => ∃ (i : Nat) (m : Int), m_ = 1 + (ts.length - i) ∧ (i ≤ ts.length ∧ cntL shapeT dp (decide (d.k = 8)) 0 (left - 1) ((ts.map Dt.tr).drop 0) = cntL shapeT dp (decide (d.k = 8)) i m ((ts.map Dt.tr).drop i) ∧ -1 ≤ m ∧ m ≤ 20000) ∧ Sl a 52 [(0, .agg (d.cells ts.length).toArray), (1, .int .i64 dp), (2, .int .i64 m), (3, .pointer (some ⟨g2, 0, none⟩)), (6, .int .i64 0), (7, .int .i64 (((i : Nat) : Int))), (9, .int .i64 dp), (10, .bool false), (11, .bool false), (12, .int .i64 left), (13, .bool false), (14, .bool false), (15, .bool false), (16, .agg (d.cells ts.length).toArray), (17, .bool true), (18, .bool false), (19, .bool false), (20, .int .i64 left), (21, .int .i64 (left - 1))] ∧ Mg w w1 (.obj g2 (.cells (d.cells ts.length).toArray 30) :: [])) _ ⟨0, left - 1, rfl, ⟨Nat.zero_le _, rfl, by omega, by omega⟩, A.keep _ ⟨rfl, rfl, rfl, rfl, rfl, rfl, rfl, rfl, rfl, rfl, rfl, rfl, rfl, rfl, rfl, rfl, rfl, rfl, rfl, trivial⟩, M⟩ ?_)))
    clear M A
    rintro m_ a w16 ⟨i, m, rfl, hinv18, A, M⟩ K17 hK17
    obtain ⟨hi0, hin9, hm0, hm1_⟩ := hinv18
    refine wsk fun K19 hK19 => wsk fun K20 hK20 => wrl (sdm A λa A↦?_)
    refine sdo (v := .pointer (some ⟨g2, 10, none⟩)) A (does_field TrW_fld_30_5 rfl rfl) λa A↦?_
    refine sdo A (m_load1 M TrW_is1_22 rfl 0 rfl rfl) λa A↦?_
    refine sdo A (does_len Tryz.underlying22 rfl) λa A↦?_
    rcases tf (decide (((i : Nat) : Int) < ((ts.length : Nat) : Int))) with hb21 | hb21
    ·
     have hb21' := of_decide_eq_true hb21
     refine sdc A bin_lss hb21 λa A↦?_
     iterate 2 refine sdm A λa A↦?_
     rcases tf (decide (0 ≤ m)) with hb22 | hb22
     ·
      have hb22' := of_decide_eq_true hb22
      refine sdc A bin_geq hb22 λa A↦?_
      refine sdk (v := .bool true) A λa A↦?_
      refine seq_end (hK20 _ _ (wp_cond_true (A.ev rfl) ?_))
      refine wp_skip (hK19 _ _ (wsk fun K23 hK23 => wp_block (wsk fun K24 hK24 => wrl (sdm A λa A↦?_))))
      refine sdo (v := .int .i64 (dp + 1)) A (does_bin rfl rfl (bin_add (i64In (by omega) (by omega)))) λa A↦?_
      refine sda A λa A↦?_
      refine seq_end (hK24 _ _ (wsk fun K25 hK25 => wsk fun K26 hK26 => wrl (sdo (v := .pointer (some ⟨g2, 0, none⟩)) A (does_field TrW_fld_30_0 rfl rfl) λa A↦?_)))
      refine sdo A (m_load1 M TrW_is1_3 rfl 0 rfl rfl) λa A↦?_
      rcases tf ((d.k == 8)) with hb27 | hb27
      ·
       have hb27' := eq_of_beq hb27
       refine sdc A bin_eql hb27 λa A↦?_
       iterate 2 refine sdm A λa A↦?_
       rcases tf ((((i : Nat) : Int) == 1)) with hb28 | hb28
       ·
        have hb28' := eq_of_beq hb28
        refine sdc A bin_eql hb28 λa A↦?_
        refine sdk (v := .bool true) A λa A↦?_
        refine seq_end (hK26 _ _ (wp_cond_true (A.ev rfl) ?_))
        refine wrl (sdm A λa A↦?_)
        refine sda A λa A↦?_
        refine seq_end (hK25 _ _ ?_)
        obtain ⟨t1, b1, o1, hi1, hm1, hr1, hl1, hH1⟩ := kid hrd (i := i) (by omega)
        have hD : (if decide (d.k = 8) = true ∧ i = 1 then dp else dp + 1) = dp := if_pos ⟨decide_eq_true hb27', by omega⟩
        refine wrl (sdo (v := .pointer (some ⟨g2, 10, none⟩)) A (does_field TrW_fld_30_5 rfl rfl) λa A↦?_)
        refine sdo A (m_load1 M TrW_is1_22 rfl 0 rfl rfl) λa A↦?_
        refine sdm A λa A↦?_
        refine sdo (v := .pointer (some ⟨b1, o1 + i * 11, none⟩)) A (does_indexD (k := i) Tryz.underlying22 (by kernel_rfl) rfl rfl rfl hl1 (by omega)) λa A↦?_
        refine sdo A (m_loadHS M hH1 TrW_isS_30 rfl rfl) λa A↦?_
        iterate 2 refine sdm A λa A↦?_
        refine gcl A M (ef rfl rfl) (ih t1 hm1 (Dt.keep M.bel _ hr1) (by have := bulk_kid (d := d) hm1; omega) (by omega) (by omega) (by omega) (by omega)) fun w30 hb29 M a A => ?_
        refine sda A λa A↦?_
        refine seq_end (hK23 _ _ (wrl (sdm A λa A↦?_)))
        refine sdo (v := .int .i64 (((i + 1 : Nat) : Int))) A (does_bin rfl rfl (fun w => (bin_add (i64In (by omega) (by omega)) w).trans (by rw [show (((i : Nat) : Int) + 1 : Int) = ((i + 1 : Nat) : Int) from by omega]))) λa A↦?_
        refine sda A λa A↦?_
        refine seq_end ?_
        have hc9 := cnt_le shapeT t1.tr (dp) m (by omega)
        refine hK17 _ _ _ (by omega) ⟨i + 1, cntT shapeT (dp) m t1.tr, rfl, ⟨by omega, by rw [hin9, cntL_go hi1 (by omega) hD], by omega, by omega⟩, A.keep _ ⟨rfl, rfl, rfl, rfl, rfl, rfl, rfl, rfl, rfl, rfl, rfl, rfl, rfl, rfl, rfl, rfl, rfl, rfl, rfl, trivial⟩, M⟩
       ·
        have hb28' := ne_of_beq_false hb28
        refine sdc A bin_eql hb28 λa A↦?_
        refine sdk (v := .bool false) A λa A↦?_
        refine seq_end (hK26 _ _ (wp_cond_false (A.ev rfl) ?_))
        refine wp_skip (hK25 _ _ ?_)
        obtain ⟨t1, b1, o1, hi1, hm1, hr1, hl1, hH1⟩ := kid hrd (i := i) (by omega)
        have hD : (if decide (d.k = 8) = true ∧ i = 1 then dp else dp + 1) = dp + 1 := if_neg (fun e => by omega)
        refine wrl (sdo (v := .pointer (some ⟨g2, 10, none⟩)) A (does_field TrW_fld_30_5 rfl rfl) λa A↦?_)
        refine sdo A (m_load1 M TrW_is1_22 rfl 0 rfl rfl) λa A↦?_
        refine sdm A λa A↦?_
        refine sdo (v := .pointer (some ⟨b1, o1 + i * 11, none⟩)) A (does_indexD (k := i) Tryz.underlying22 (by kernel_rfl) rfl rfl rfl hl1 (by omega)) λa A↦?_
        refine sdo A (m_loadHS M hH1 TrW_isS_30 rfl rfl) λa A↦?_
        iterate 2 refine sdm A λa A↦?_
        refine gcl A M (ef rfl rfl) (ih t1 hm1 (Dt.keep M.bel _ hr1) (by have := bulk_kid (d := d) hm1; omega) (by omega) (by omega) (by omega) (by omega)) fun w32 hb31 M a A => ?_
        refine sda A λa A↦?_
        refine seq_end (hK23 _ _ (wrl (sdm A λa A↦?_)))
        refine sdo (v := .int .i64 (((i + 1 : Nat) : Int))) A (does_bin rfl rfl (fun w => (bin_add (i64In (by omega) (by omega)) w).trans (by rw [show (((i : Nat) : Int) + 1 : Int) = ((i + 1 : Nat) : Int) from by omega]))) λa A↦?_
        refine sda A λa A↦?_
        refine seq_end ?_
        have hc9 := cnt_le shapeT t1.tr (dp + 1) m (by omega)
        refine hK17 _ _ _ (by omega) ⟨i + 1, cntT shapeT (dp + 1) m t1.tr, rfl, ⟨by omega, by rw [hin9, cntL_go hi1 (by omega) hD], by omega, by omega⟩, A.keep _ ⟨rfl, rfl, rfl, rfl, rfl, rfl, rfl, rfl, rfl, rfl, rfl, rfl, rfl, rfl, rfl, rfl, rfl, rfl, rfl, trivial⟩, M⟩
      ·
       have hb27' := ne_of_beq_false hb27
       refine sdc A bin_eql hb27 λa A↦?_
       refine sdm A λa A↦?_
       iterate 2 refine seq_skip A rfl rfl rfl λa A↦?_
       refine sdk (v := .bool false) A λa A↦?_
       refine seq_end (hK26 _ _ (wp_cond_false (A.ev rfl) ?_))
       refine wp_skip (hK25 _ _ ?_)
       obtain ⟨t1, b1, o1, hi1, hm1, hr1, hl1, hH1⟩ := kid hrd (i := i) (by omega)
       have hD : (if decide (d.k = 8) = true ∧ i = 1 then dp else dp + 1) = dp + 1 := if_neg (fun e => hb27' (of_decide_eq_true e.1))
       refine wrl (sdo (v := .pointer (some ⟨g2, 10, none⟩)) A (does_field TrW_fld_30_5 rfl rfl) λa A↦?_)
       refine sdo A (m_load1 M TrW_is1_22 rfl 0 rfl rfl) λa A↦?_
       refine sdm A λa A↦?_
       refine sdo (v := .pointer (some ⟨b1, o1 + i * 11, none⟩)) A (does_indexD (k := i) Tryz.underlying22 (by kernel_rfl) rfl rfl rfl hl1 (by omega)) λa A↦?_
       refine sdo A (m_loadHS M hH1 TrW_isS_30 rfl rfl) λa A↦?_
       iterate 2 refine sdm A λa A↦?_
       refine gcl A M (ef rfl rfl) (ih t1 hm1 (Dt.keep M.bel _ hr1) (by have := bulk_kid (d := d) hm1; omega) (by omega) (by omega) (by omega) (by omega)) fun w34 hb33 M a A => ?_
       refine sda A λa A↦?_
       refine seq_end (hK23 _ _ (wrl (sdm A λa A↦?_)))
       refine sdo (v := .int .i64 (((i + 1 : Nat) : Int))) A (does_bin rfl rfl (fun w => (bin_add (i64In (by omega) (by omega)) w).trans (by rw [show (((i : Nat) : Int) + 1 : Int) = ((i + 1 : Nat) : Int) from by omega]))) λa A↦?_
       refine sda A λa A↦?_
       refine seq_end ?_
       have hc9 := cnt_le shapeT t1.tr (dp + 1) m (by omega)
       refine hK17 _ _ _ (by omega) ⟨i + 1, cntT shapeT (dp + 1) m t1.tr, rfl, ⟨by omega, by rw [hin9, cntL_go hi1 (by omega) hD], by omega, by omega⟩, A.keep _ ⟨rfl, rfl, rfl, rfl, rfl, rfl, rfl, rfl, rfl, rfl, rfl, rfl, rfl, rfl, rfl, rfl, rfl, rfl, rfl, trivial⟩, M⟩
     ·
      have hb22' := of_decide_eq_false hb22
      refine sdc A bin_geq hb22 λa A↦?_
      refine sdk (v := .bool false) A λa A↦?_
      refine seq_end (hK20 _ _ (wp_cond_false (A.ev rfl) ?_))
      refine wp_exit (hK14 _ _ (wsk fun K35 hK35 => wrl (sdm A λa A↦?_)))
      refine sda A λa A↦?_
      refine seq_end (hK35 _ _ (wp_ret (hret _ _ (en1 A rfl (res_tmp rfl) ?_))))
      rw [cntT_mk (by omega) (by omega) (by rw [shapeT_mk]; exact hb10), hin9, cntL_neg (by omega)]
      exact ⟨rfl, M.bel⟩
    ·
     have hb21' := of_decide_eq_false hb21
     refine sdc A bin_lss hb21 λa A↦?_
     refine sdm A λa A↦?_
     iterate 2 refine seq_skip A rfl rfl rfl λa A↦?_
     refine sdk (v := .bool false) A λa A↦?_
     refine seq_end (hK20 _ _ (wp_cond_false (A.ev rfl) ?_))
     refine wp_exit (hK14 _ _ (wsk fun K36 hK36 => wrl (sdm A λa A↦?_)))
     refine sda A λa A↦?_
     refine seq_end (hK36 _ _ (wp_ret (hret _ _ (en1 A rfl (res_tmp rfl) ?_))))
     rw [cntT_mk (by omega) (by omega) (by rw [shapeT_mk]; exact hb10), hin9, drop_kids (by omega), cntL]
     exact ⟨rfl, M.bel⟩
   ·
    refine gcl A M (ef rfl rfl) (rshape_any (hok.1.below M.bel) (Nat.le_trans bulk_text hbk) hlen hb10) fun w38 hb37 M a A => ?_
    refine sdo (v := .bool true) A (does_un rfl un_not) λa A↦?_
    refine sdk (v := .bool true) A λa A↦?_
    refine seq_end (hK5 _ _ (wp_cond_true (A.ev rfl) ?_))
    refine wsk fun K39 hK39 => wrl (sda A λa A↦?_)
    refine seq_end (hK39 _ _ (wp_ret (hret _ _ (en1 A rfl (res_tmp rfl) ?_))))
    rw [cntT_no (.inr (.inr (by rw [shapeT_mk]; exact hb10)))]
    exact ⟨rfl, M.bel⟩
theorem rsound_mk {w : World} {d : Nd} {ts : List Dt} (hrd : (Dt.mk d ts).rd w) (hbk : (Dt.mk d ts).tr.bulk ≤ 4000000) : Calls Tryz.prog 31 #[.agg (d.cells ts.length).toArray] w fun e w' => e = .returned (.bool (soundT shapeT (Dt.mk d ts).tr)) ∧ Below w.heap.size w w' := by
 have M : Mg w w ([]) := Mg.start w
 refine walk_of (l := [(0, .agg (d.cells ts.length).toArray)]) Tryz.func31 rfl Tryz.ntmps31 rfl rfl ?_
 intro Q hret hnorm hP a A
 refine wsk fun K1 hK1 => wrl (s_new (vs := [.int .i64 d.k, .int .i64 d.n, .bool d.y.q.b1, .slice d.y.o1 d.y.q.t1.length d.y.c1, .slice d.y.o2 d.y.q.q1.length d.y.c2, .bool d.y.q.b2, .slice d.y.o3 d.y.q.t2.length d.y.c3, .slice d.y.o4 d.y.q.q2.length d.y.c4, .string d.s, .slice d.ro d.rl.length d.rc, .slice d.lo ts.length d.lc]) (t := 30) A M rfl rfl rfl pg (does_box rfl rfl) (by decide) ?_)
 intro g2 w3 M a A
 refine sda A λa A↦?_
 refine seq_end (hK1 _ _ (wsk fun K4 hK4 => wrl (sdo A (m_loadS M TrW_isS_30 rfl 0 rfl (cs := [.int .i64 d.k, .int .i64 d.n, .bool d.y.q.b1, .slice d.y.o1 d.y.q.t1.length d.y.c1, .slice d.y.o2 d.y.q.q1.length d.y.c2, .bool d.y.q.b2, .slice d.y.o3 d.y.q.t2.length d.y.c3, .slice d.y.o4 d.y.q.q2.length d.y.c4, .string d.s, .slice d.ro d.rl.length d.rc, .slice d.lo ts.length d.lc]) rfl rfl) λa A↦?_)))
 refine gcl A M (ef rfl rfl) (count_all (Dt.mk d ts) (Dt.keep M.bel _ hrd) hbk (by omega) (by omega) (by omega) (by omega)) fun w5 hb9 M a A => ?_
 refine sdo (v := .bool (decide (0 ≤ cntT shapeT 1 20000 (Dt.mk d ts).tr))) A (does_bin rfl rfl bin_geq) λa A↦?_
 refine sda A λa A↦?_
 refine seq_end (hK4 _ _ (wp_ret (hret _ _ (en1 A rfl (res_tmp rfl) ?_))))
 exact ⟨by rw [← count_sound], M.bel⟩
theorem rsound_any {w : World} {t : Dt} (hrd : t.rd w) (hbk : t.tr.bulk ≤ 4000000) : Calls Tryz.prog 31 #[.agg t.cells.toArray] w fun e w' => e = .returned (.bool (soundT shapeT t.tr)) ∧ Below w.heap.size w w' := by
 obtain ⟨d, ts⟩ := t
 exact rsound_mk hrd hbk



theorem LiJ_is1_22 : Is1 Tryz.prog 22 := ⟨⟨_, Tryz.underlying22, rfl⟩, by kernel_rfl⟩
theorem LiJ_is1_3 : Is1 Tryz.prog 3 := ⟨⟨_, Tryz.underlying3, rfl⟩, by kernel_rfl⟩
theorem LiJ_fld_30_0 : FieldAt Tryz.prog 30 0 0 := ⟨_, _, Tryz.underlying30, rfl, rfl, by kernel_rfl⟩
theorem LiJ_fld_30_5 : FieldAt Tryz.prog 30 5 10 := ⟨_, _, Tryz.underlying30, rfl, rfl, by kernel_rfl⟩
theorem LiJ_isS_30 : IsS Tryz.prog 30 11 := ⟨⟨_, Tryz.underlying30⟩, by kernel_rfl⟩
theorem awake_any {w : World} (hT : Tabs8 w) : Calls Tryz.prog 16 #[] w fun e w' => e = .returned (.bool true) ∧ Below w.heap.size w w' := by
 have hM : Mg w w ([]) := Mg.start w
 refine walk_of (l := []) Tryz.func16 rfl Tryz.ntmps16 rfl rfl ?_
 intro Q hret hnorm hP a hA
 refine wp_seq_k (fun K1 hK1 => ?_)
 refine wp_region_lit ?_
 refine seq_do hA rfl rfl rfl (does_assign rfl) ?_
 intro a hA
 refine seq_end ?_
 refine hK1 _ _ ?_
 refine wp_seq_k (fun K2 hK2 => ?_)
 refine wp_region_lit ?_
 refine seq_do (v := .agg #[.int .i64 2, .int .i64 0, .bool false, .slice none 0 0, .slice none 0 0, .bool false, .slice none 0 0, .slice none 0 0, .string (⟨#[]⟩), .slice none 0 0, .slice none 0 0]) hA rfl rfl rfl (does_build rfl (fun w => by kernel_rfl)) ?_
 intro a hA
 refine seq_do (v := .agg #[.int .i64 10, .int .i64 0, .bool false, .slice none 0 0, .slice none 0 0, .bool false, .slice none 0 0, .slice none 0 0, .string (⟨#[]⟩), .slice none 0 0, .slice none 0 0]) hA rfl rfl rfl (does_build rfl (fun w => by kernel_rfl)) ?_
 intro a hA
 refine s_litE (e := 30) (sz := 11) (m := 2) (vs := cellsOf [bareD 2, bareD 10]) hA hM rfl rfl rfl (does_buildSlice rfl (by kernel_rfl)) rfl rfl (.inl (by decide)) ?_
 intro g3 w4 hM a hA
 refine seq_call hA rfl rfl rfl (enters_func rfl rfl (fun w => by kernel_rfl)) (of_any (ts := [bareD 2, bareD 10]) (rt_own (hM.has 0 rfl)).1 (two_bare _) (by decide) (hT.below hM.bel)) ?_
 rintro _ w6 ⟨x, rfl, ⟨hrx, -, htx⟩, hb5⟩
 have hbx := of_bulk [(bareD 2).tr, (bareD 10).tr]
 have hbx9 : Tr.bulks [(bareD 2).tr, (bareD 10).tr] = 2 := by rfl
 replace hM := hM.call hb5
 refine ⟨_, rfl, ?_⟩
 intro a hA
 have hB1 := hM.bel
 replace hT := hT.below hM.bel
 replace hM : Mg w6 w6 [] := Mg.start w6
 refine s_new (vs := [.int .i64 0, .int .i64 0, .bool false, .slice none 0 0, .slice none 0 0, .bool false, .slice none 0 0, .slice none 0 0, .string (⟨#[]⟩), .slice none 0 0, .slice none 0 0]) (t := 30) hA hM rfl rfl rfl (fun g => .pointer (some ⟨g, 0, none⟩)) (does_alloc (z := .agg #[.int .i64 0, .int .i64 0, .bool false, .slice none 0 0, .slice none 0 0, .bool false, .slice none 0 0, .slice none 0 0, .string (⟨#[]⟩), .slice none 0 0, .slice none 0 0]) (by kernel_rfl) rfl) (by decide) ?_
 intro g7 w8 hM a hA
 refine s_store (us := [.int .i64 x.d.k, .int .i64 x.d.n, .bool x.d.y.q.b1, .slice x.d.y.o1 x.d.y.q.t1.length x.d.y.c1, .slice x.d.y.o2 x.d.y.q.q1.length x.d.y.c2, .bool x.d.y.q.b2, .slice x.d.y.o3 x.d.y.q.t2.length x.d.y.c3, .slice x.d.y.o4 x.d.y.q.q2.length x.d.y.c4, .string x.d.s, .slice x.d.ro x.d.rl.length x.d.rc, .slice x.d.lo x.ts.length x.d.lc]) (L' := (.obj g7 (.cells (x.d.cells x.ts.length).toArray 30) :: [])) hA hM rfl rfl (m_store rfl rfl rfl (by kernel_rfl) hM 0 rfl rfl rfl) 0 rfl rfl rfl ?_
 intro w9 hM
 refine seq_end ?_
 refine hK2 _ _ ?_
 refine wp_seq_k (fun K10 hK10 => ?_)
 refine wp_region_lit ?_
 refine seq_do hA rfl rfl rfl (m_loadS hM LiJ_isS_30 rfl 0 rfl (cs := [.int .i64 x.d.k, .int .i64 x.d.n, .bool x.d.y.q.b1, .slice x.d.y.o1 x.d.y.q.t1.length x.d.y.c1, .slice x.d.y.o2 x.d.y.q.q1.length x.d.y.c2, .bool x.d.y.q.b2, .slice x.d.y.o3 x.d.y.q.t2.length x.d.y.c3, .slice x.d.y.o4 x.d.y.q.q2.length x.d.y.c4, .string x.d.s, .slice x.d.ro x.d.rl.length x.d.rc, .slice x.d.lo x.ts.length x.d.lc]) rfl rfl) ?_
 intro a hA
 refine seq_call hA rfl rfl rfl (enters_func rfl rfl (fun w => by kernel_rfl)) (reverse_any (t := x) (Dt.keep hM.bel _ hrx) (by have h9 : x.tr.bulk ≤ 6 := (by rw [htx]; show (ofS [(bareD 2).tr, (bareD 10).tr]).bulk ≤ 6; omega); omega) (hT.below hM.bel)) ?_
 rintro _ w12 ⟨r, kr, rfl, ⟨hrr, -, htr⟩, hb11⟩
 replace hM := hM.call hb11
 refine ⟨_, rfl, ?_⟩
 intro a hA
 have hB2 := hB1.trans (hM.bel.mono hB1.size)
 replace hT := hT.below hM.bel
 replace hrx := Dt.keep hM.bel _ hrx
 have hHg7 := hM.here 0 (cs := [.int .i64 x.d.k, .int .i64 x.d.n, .bool x.d.y.q.b1, .slice x.d.y.o1 x.d.y.q.t1.length x.d.y.c1, .slice x.d.y.o2 x.d.y.q.q1.length x.d.y.c2, .bool x.d.y.q.b2, .slice x.d.y.o3 x.d.y.q.t2.length x.d.y.c3, .slice x.d.y.o4 x.d.y.q.q2.length x.d.y.c4, .string x.d.s, .slice x.d.ro x.d.rl.length x.d.rc, .slice x.d.lo x.ts.length x.d.lc]) rfl
 replace hM : Mg w12 w12 [] := Mg.start w12
 refine seq_do hA rfl rfl rfl (does_move rfl) ?_
 intro a hA
 refine seq_do (v := .agg (r.d.cells r.ts.length).toArray) hA rfl rfl rfl (does_extract (vs := [.agg (r.d.cells r.ts.length).toArray, .int .i64 kr]) rfl rfl) ?_
 intro a hA
 refine seq_do (v := .int .i64 kr) hA rfl rfl rfl (does_extract (vs := [.agg (r.d.cells r.ts.length).toArray, .int .i64 kr]) rfl rfl) ?_
 intro a hA
 refine s_new (vs := [.int .i64 0, .int .i64 0, .bool false, .slice none 0 0, .slice none 0 0, .bool false, .slice none 0 0, .slice none 0 0, .string (⟨#[]⟩), .slice none 0 0, .slice none 0 0]) (t := 30) hA hM rfl rfl rfl (fun g => .pointer (some ⟨g, 0, none⟩)) (does_alloc (z := .agg #[.int .i64 0, .int .i64 0, .bool false, .slice none 0 0, .slice none 0 0, .bool false, .slice none 0 0, .slice none 0 0, .string (⟨#[]⟩), .slice none 0 0, .slice none 0 0]) (by kernel_rfl) rfl) (by decide) ?_
 intro g13 w14 hM a hA
 refine s_store (us := [.int .i64 r.d.k, .int .i64 r.d.n, .bool r.d.y.q.b1, .slice r.d.y.o1 r.d.y.q.t1.length r.d.y.c1, .slice r.d.y.o2 r.d.y.q.q1.length r.d.y.c2, .bool r.d.y.q.b2, .slice r.d.y.o3 r.d.y.q.t2.length r.d.y.c3, .slice r.d.y.o4 r.d.y.q.q2.length r.d.y.c4, .string r.d.s, .slice r.d.ro r.d.rl.length r.d.rc, .slice r.d.lo r.ts.length r.d.lc]) (L' := (.obj g13 (.cells (r.d.cells r.ts.length).toArray 30) :: [])) hA hM rfl rfl (m_store rfl rfl rfl (by kernel_rfl) hM 0 rfl rfl rfl) 0 rfl rfl rfl ?_
 intro w15 hM
 refine seq_do hA rfl rfl rfl (does_assign rfl) ?_
 intro a hA
 refine seq_end ?_
 refine hK10 _ _ ?_
 refine wp_seq_k (fun K16 hK16 => ?_)
 have e9 : (r.tr, kr) = (linkT [(bareD 10).tr, (bareD 2).tr] nilT, 0) := htr.trans (by rw [htx]; exact awake_of)
 obtain ⟨f1, f2, f3⟩ := pair_form (congrArg Prod.fst e9)
 have f4 : kr = 0 := congrArg Prod.snd e9
 obtain ⟨r0, br0, or0, ir0, mr0, rr0_, lr0, Hr0⟩ := kidT hrr (i := 0) (by omega)
 have f5 : r0.d.k = 10 := by rw [← tr_k, f3 _ ir0]; rfl
 refine wp_region_lit ?_
 refine seq_do hA rfl rfl rfl (does_move rfl) ?_
 intro a hA
 refine seq_do (v := .bool true) hA rfl rfl rfl (does_bin rfl rfl (fun w => (bin_eql w).trans (by rw [show ((kr == 0)) = true from (beq_iff_eq.2 f4)]))) ?_
 intro a hA
 refine seq_do hA rfl rfl rfl (does_move rfl) ?_
 intro a hA
 refine seq_do (v := .pointer (some ⟨g13, 0, none⟩)) hA rfl rfl rfl (does_field LiJ_fld_30_0 rfl rfl) ?_
 intro a hA
 refine seq_do hA rfl rfl rfl (m_load1 hM LiJ_is1_3 rfl 0 rfl rfl) ?_
 intro a hA
 refine seq_do (v := .bool true) hA rfl rfl rfl (does_bin rfl rfl (fun w => (bin_eql w).trans (by rw [show ((r.d.k == 8)) = true from (beq_iff_eq.2 f1)]))) ?_
 intro a hA
 refine seq_do (v := .bool true) hA rfl rfl rfl (does_pick rfl rfl rfl rfl) ?_
 intro a hA
 refine seq_do hA rfl rfl rfl (does_move rfl) ?_
 intro a hA
 refine seq_do (v := .pointer (some ⟨g13, 10, none⟩)) hA rfl rfl rfl (does_field LiJ_fld_30_5 rfl rfl) ?_
 intro a hA
 refine seq_do hA rfl rfl rfl (m_load1 hM LiJ_is1_22 rfl 0 rfl rfl) ?_
 intro a hA
 refine seq_do (v := .int .i64 (((r.ts.length : Nat) : Int))) hA rfl rfl rfl (does_len Tryz.underlying22 rfl) ?_
 intro a hA
 refine seq_do (v := .bool true) hA rfl rfl rfl (does_bin rfl rfl (fun w => (bin_eql w).trans (by rw [show ((((r.ts.length : Nat) : Int) == 2)) = true from (beq_iff_eq.2 (by omega))]))) ?_
 intro a hA
 refine seq_do (v := .bool true) hA rfl rfl rfl (does_pick rfl rfl rfl rfl) ?_
 intro a hA
 refine seq_do hA rfl rfl rfl (does_move rfl) ?_
 intro a hA
 refine seq_do (v := .pointer (some ⟨g13, 10, none⟩)) hA rfl rfl rfl (does_field LiJ_fld_30_5 rfl rfl) ?_
 intro a hA
 refine seq_do hA rfl rfl rfl (m_load1 hM LiJ_is1_22 rfl 0 rfl rfl) ?_
 intro a hA
 refine seq_do (v := .pointer (some ⟨br0, or0 + 0 * 11, none⟩)) hA rfl rfl rfl (does_indexD (k := 0) Tryz.underlying22 (by kernel_rfl) rfl rfl rfl lr0 (by omega)) ?_
 intro a hA
 refine seq_do (v := .pointer (some ⟨br0, or0 + 0 * 11, none⟩)) hA rfl rfl rfl (does_field LiJ_fld_30_0 rfl rfl) ?_
 intro a hA
 refine seq_do hA rfl rfl rfl (m_loadH (j := 0) hM Hr0 LiJ_is1_3 rfl rfl rfl) ?_
 intro a hA
 refine seq_do (v := .bool true) hA rfl rfl rfl (does_bin rfl rfl (fun w => (bin_eql w).trans (by rw [show ((r0.d.k == 10)) = true from (beq_iff_eq.2 f5)]))) ?_
 intro a hA
 refine seq_do (v := .bool true) hA rfl rfl rfl (does_pick rfl rfl rfl rfl) ?_
 intro a hA
 refine seq_do hA rfl rfl rfl (does_assign rfl) ?_
 intro a hA
 refine seq_end ?_
 refine hK16 _ _ ?_
 refine wp_ret ?_
 refine hret _ _ ?_
 refine ends (v := .bool true) hA rfl (.cons (res_tmp rfl) .nil) rfl ?_
 exact ⟨rfl, hB2.trans (hM.bel.mono hB2.size)⟩
theorem LiO_isS_30 : IsS Tryz.prog 30 11 := ⟨⟨_, Tryz.underlying30⟩, by kernel_rfl⟩
theorem items_any {w : World} {t : Dt} (ht : t.rd w) (hb : t.tr.bulk ≤ 300000000) (hT : Tabs8 w) : Calls Tryz.prog 8 #[.agg (t.d.cells t.ts.length).toArray] w fun e w' => ∃ so' ca' ys k, e = .returned (.tuple #[.slice so' (ys : List Dt).length ca', .int .i64 k]) ∧ ((ys.map Dt.tr, k) = itemS t.tr ∧ Rt w' so' ys ∧ (∀ x ∈ ys, x.rd w')) ∧ Below w.heap.size w w' := by
 have hM : Mg w w ([]) := Mg.start w
 refine walk_of (l := [(0, .agg (t.d.cells t.ts.length).toArray)]) Tryz.func8 rfl Tryz.ntmps8 rfl rfl ?_
 intro Q hret hnorm hP a hA
 refine wp_seq_k (fun K1 hK1 => ?_)
 refine wp_region_lit ?_
 refine s_new (vs := [.int .i64 t.d.k, .int .i64 t.d.n, .bool t.d.y.q.b1, .slice t.d.y.o1 t.d.y.q.t1.length t.d.y.c1, .slice t.d.y.o2 t.d.y.q.q1.length t.d.y.c2, .bool t.d.y.q.b2, .slice t.d.y.o3 t.d.y.q.t2.length t.d.y.c3, .slice t.d.y.o4 t.d.y.q.q2.length t.d.y.c4, .string t.d.s, .slice t.d.ro t.d.rl.length t.d.rc, .slice t.d.lo t.ts.length t.d.lc]) (t := 30) hA hM rfl rfl rfl (fun g => .pointer (some ⟨g, 0, none⟩)) (does_box rfl rfl) (by decide) ?_
 intro g2 w3 hM a hA
 refine seq_do hA rfl rfl rfl (does_assign rfl) ?_
 intro a hA
 refine seq_do hA rfl rfl rfl (does_assign rfl) ?_
 intro a hA
 refine seq_end ?_
 refine hK1 _ _ ?_
 refine wp_seq_k (fun K4 hK4 => ?_)
 refine wp_region_lit ?_
 refine seq_do hA rfl rfl rfl (m_loadS hM LiO_isS_30 rfl 0 rfl (cs := [.int .i64 t.d.k, .int .i64 t.d.n, .bool t.d.y.q.b1, .slice t.d.y.o1 t.d.y.q.t1.length t.d.y.c1, .slice t.d.y.o2 t.d.y.q.q1.length t.d.y.c2, .bool t.d.y.q.b2, .slice t.d.y.o3 t.d.y.q.t2.length t.d.y.c3, .slice t.d.y.o4 t.d.y.q.q2.length t.d.y.c4, .string t.d.s, .slice t.d.ro t.d.rl.length t.d.rc, .slice t.d.lo t.ts.length t.d.lc]) rfl rfl) ?_
 intro a hA
 rcases Bool.eq_false_or_eq_true (soundT shapeT t.tr) with hb5 | hb5
 · rcases Bool.eq_false_or_eq_true ((asList t.tr).isSome) with hb7 | hb7
   · refine seq_call hA rfl rfl rfl (enters_func rfl rfl (fun w => by kernel_rfl)) (items_some hM.bel ht (by omega) (hT.below hM.bel) hb5 hb7) ?_
     rintro _ w9 ⟨so7, ca7, ys, rfl, ⟨hy1, hy2, hy3⟩, hM7⟩
     have hyb := asList_bulk hy1
     replace hM : Mg w w9 (.row 30 11 (.slice so7 ys.length ca7) ys.length (cellsOf ys) :: .obj g2 (.cells (t.d.cells t.ts.length).toArray 30) :: []) := (hM.both hM7 (noBld_cons (by simp) (noBld_quiet quietL_nil)) (noBld_cons (by simp) (noBld_quiet quietL_nil)))
     refine ⟨_, rfl, ?_⟩
     intro a hA
     refine seq_do hA rfl rfl rfl (does_move rfl) ?_
     intro a hA
     refine seq_do (v := .slice so7 ys.length ca7) hA rfl rfl rfl (does_extract (vs := [.slice so7 ys.length ca7, .int .i64 0]) rfl rfl) ?_
     intro a hA
     refine seq_do (v := .int .i64 0) hA rfl rfl rfl (does_extract (vs := [.slice so7 ys.length ca7, .int .i64 0]) rfl rfl) ?_
     intro a hA
     refine seq_do hA rfl rfl rfl (does_assign rfl) ?_
     intro a hA
     refine seq_do hA rfl rfl rfl (does_assign rfl) ?_
     intro a hA
     refine seq_end ?_
     refine hK4 _ _ ?_
     refine wp_seq_k (fun K10 hK10 => ?_)
     refine wp_seq_k (fun K11 hK11 => ?_)
     refine wp_region_lit ?_
     refine seq_do hA rfl rfl rfl (does_move rfl) ?_
     intro a hA
     refine seq_do (v := .bool false) hA rfl rfl rfl (does_bin rfl rfl (fun w => by kernel_rfl)) ?_
     intro a hA
     refine seq_end ?_
     refine hK11 _ _ ?_
     refine wp_cond_false (hA.ev rfl) ?_
     refine wp_skip ?_
     refine hK10 _ _ ?_
     refine wp_seq_k (fun K12 hK12 => ?_)
     refine wp_region_lit ?_
     refine seq_do hA rfl rfl rfl (does_move rfl) ?_
     intro a hA
     refine seq_call hA rfl rfl rfl (enters_func rfl rfl (fun w => by kernel_rfl)) (callA_any (fun t _ => copies_all t) (rt_own (hM.has 0 rfl)).1 (fun t ht => Dt.keep hM.bel _ (hy2 t ht)) (by omega)) ?_
     rintro _ w13 ⟨v8, us, rfl, ⟨hu1, hu2⟩, hM8⟩
     obtain ⟨so8, ca8, rfl⟩ := owns_any (hM8.has 0 rfl)
     have hR8 := (rt_own (hM8.has 0 rfl)).1
     replace hM := hM.call hM8.bel
     refine ⟨_, rfl, ?_⟩
     intro a hA
     refine seq_do hA rfl rfl rfl (does_assign rfl) ?_
     intro a hA
     refine seq_do hA rfl rfl rfl (does_assign rfl) ?_
     intro a hA
     refine seq_end ?_
     refine hK12 _ _ ?_
     refine wp_ret ?_
     refine hret _ _ ?_
     refine ends (v := .tuple #[.slice so8 us.length ca8, .int .i64 0]) hA rfl (.cons (res_tmp rfl) (.cons (res_tmp rfl) .nil)) rfl ?_
     exact ⟨so8, ca8, us, 0, rfl, ⟨by rw [itemS_some hb5 hy1, hu1], hR8, fun x hx => (hu2 x hx).1⟩, hM.bel⟩
   · refine seq_call hA rfl rfl rfl (enters_func rfl rfl (fun w => by kernel_rfl)) (items_none hM.bel ht (by omega) (hT.below hM.bel) hb5 hb7) ?_
     rintro _ w15 ⟨rfl, hb14⟩
     replace hM := hM.call hb14
     refine ⟨_, rfl, ?_⟩
     intro a hA
     refine seq_do hA rfl rfl rfl (does_move rfl) ?_
     intro a hA
     refine seq_do (v := .slice none 0 0) hA rfl rfl rfl (does_extract (vs := [.slice none 0 0, .int .i64 10]) rfl rfl) ?_
     intro a hA
     refine seq_do (v := .int .i64 10) hA rfl rfl rfl (does_extract (vs := [.slice none 0 0, .int .i64 10]) rfl rfl) ?_
     intro a hA
     refine seq_do hA rfl rfl rfl (does_assign rfl) ?_
     intro a hA
     refine seq_do hA rfl rfl rfl (does_assign rfl) ?_
     intro a hA
     refine seq_end ?_
     refine hK4 _ _ ?_
     refine wp_seq_k (fun K16 hK16 => ?_)
     refine wp_seq_k (fun K17 hK17 => ?_)
     refine wp_region_lit ?_
     refine seq_do hA rfl rfl rfl (does_move rfl) ?_
     intro a hA
     refine seq_do (v := .bool true) hA rfl rfl rfl (does_bin rfl rfl (fun w => by kernel_rfl)) ?_
     intro a hA
     refine seq_end ?_
     refine hK17 _ _ ?_
     refine wp_cond_true (hA.ev rfl) ?_
     refine wp_seq_k (fun K18 hK18 => ?_)
     refine wp_region_lit ?_
     refine seq_do hA rfl rfl rfl (does_move rfl) ?_
     intro a hA
     refine seq_do hA rfl rfl rfl (does_assign rfl) ?_
     intro a hA
     refine seq_do hA rfl rfl rfl (does_assign rfl) ?_
     intro a hA
     refine seq_end ?_
     refine hK18 _ _ ?_
     refine wp_ret ?_
     refine hret _ _ ?_
     refine ends (v := .tuple #[.slice none 0 0, .int .i64 10]) hA rfl (.cons (res_tmp rfl) (.cons (res_tmp rfl) .nil)) rfl ?_
     exact ⟨none, 0, [], 10, rfl, ⟨(itemS_none hb5 (none_of hb7)).symm, (fun h => absurd rfl h), (fun x h => by cases h)⟩, hM.bel⟩
 · refine seq_call hA rfl rfl rfl (enters_func rfl rfl (fun w => by kernel_rfl)) (items_bad hM.bel ht (by omega) (hT.below hM.bel) hb5) ?_
   rintro _ w20 ⟨rfl, hb19⟩
   replace hM := hM.call hb19
   refine ⟨_, rfl, ?_⟩
   intro a hA
   refine seq_do hA rfl rfl rfl (does_move rfl) ?_
   intro a hA
   refine seq_do (v := .slice none 0 0) hA rfl rfl rfl (does_extract (vs := [.slice none 0 0, .int .i64 2]) rfl rfl) ?_
   intro a hA
   refine seq_do (v := .int .i64 2) hA rfl rfl rfl (does_extract (vs := [.slice none 0 0, .int .i64 2]) rfl rfl) ?_
   intro a hA
   refine seq_do hA rfl rfl rfl (does_assign rfl) ?_
   intro a hA
   refine seq_do hA rfl rfl rfl (does_assign rfl) ?_
   intro a hA
   refine seq_end ?_
   refine hK4 _ _ ?_
   refine wp_seq_k (fun K21 hK21 => ?_)
   refine wp_seq_k (fun K22 hK22 => ?_)
   refine wp_region_lit ?_
   refine seq_do hA rfl rfl rfl (does_move rfl) ?_
   intro a hA
   refine seq_do (v := .bool true) hA rfl rfl rfl (does_bin rfl rfl (fun w => by kernel_rfl)) ?_
   intro a hA
   refine seq_end ?_
   refine hK22 _ _ ?_
   refine wp_cond_true (hA.ev rfl) ?_
   refine wp_seq_k (fun K23 hK23 => ?_)
   refine wp_region_lit ?_
   refine seq_do hA rfl rfl rfl (does_move rfl) ?_
   intro a hA
   refine seq_do hA rfl rfl rfl (does_assign rfl) ?_
   intro a hA
   refine seq_do hA rfl rfl rfl (does_assign rfl) ?_
   intro a hA
   refine seq_end ?_
   refine hK23 _ _ ?_
   refine wp_ret ?_
   refine hret _ _ ?_
   refine ends (v := .tuple #[.slice none 0 0, .int .i64 2]) hA rfl (.cons (res_tmp rfl) (.cons (res_tmp rfl) .nil)) rfl ?_
   exact ⟨none, 0, [], 2, rfl, ⟨(itemS_bad hb5).symm, (fun h => absurd rfl h), (fun x h => by cases h)⟩, hM.bel⟩
theorem LiY_is1_22 : Is1 Tryz.prog 22 := ⟨⟨_, Tryz.underlying22, rfl⟩, by kernel_rfl⟩
theorem LiY_is1_3 : Is1 Tryz.prog 3 := ⟨⟨_, Tryz.underlying3, rfl⟩, by kernel_rfl⟩
theorem LiY_is1_5 : Is1 Tryz.prog 5 := ⟨⟨_, Tryz.underlying5, rfl⟩, by kernel_rfl⟩
theorem LiY_fld_30_0 : FieldAt Tryz.prog 30 0 0 := ⟨_, _, Tryz.underlying30, rfl, rfl, by kernel_rfl⟩
theorem LiY_fld_30_1 : FieldAt Tryz.prog 30 1 1 := ⟨_, _, Tryz.underlying30, rfl, rfl, by kernel_rfl⟩
theorem LiY_fld_30_5 : FieldAt Tryz.prog 30 5 10 := ⟨_, _, Tryz.underlying30, rfl, rfl, by kernel_rfl⟩
theorem LiY_isS_30 : IsS Tryz.prog 30 11 := ⟨⟨_, Tryz.underlying30⟩, by kernel_rfl⟩
set_option maxHeartbeats 1000000 in
theorem listsStable_any {w : World} {sk : Option Addr} {ck : Nat} {l : List UInt8} (hb : Rb w sk l) (hl : l.length ≤ 140737488351232) (hT : Tabs8 w) : Calls Tryz.prog 7 #[.slice sk l.length ck] w fun e w' => e = .returned (.bool true) ∧ Below w.heap.size w w' := by
 have hM : Mg w w ([]) := Mg.start w
 refine walk_of (l := [(0, .slice sk l.length ck)]) Tryz.func7 rfl Tryz.ntmps7 rfl rfl ?_
 intro Q hret hnorm hP a hA
 refine wp_seq_k (fun K1 hK1 => ?_)
 refine wp_region_lit ?_
 refine seq_do hA rfl rfl rfl (does_assign rfl) ?_
 intro a hA
 refine seq_end ?_
 refine hK1 _ _ ?_
 refine wp_seq_k (fun K2 hK2 => ?_)
 refine wp_region_lit ?_
 refine s_litE (e := 30) (sz := 11) (m := 0) (vs := cellsOf []) hA hM rfl rfl rfl (does_buildSlice rfl (by kernel_rfl)) rfl rfl (.inl (by decide)) ?_
 intro g3 w4 hM a hA
 refine seq_do hA rfl rfl rfl (does_assign rfl) ?_
 intro a hA
 refine seq_end ?_
 refine hK2 _ _ ?_
 refine wp_seq_k (fun K5 hK5 => ?_)
 have hJ6 : ∀ a w1, (∃ (i : Nat) (ys : List Dt) (gs : List (Nat × Nat × Nat)) (so_ : Option Addr) (ca_ : Nat), (i ≤ l.length ∧ i ≤ 250 ∧ ys = (gs.map mkP).reverse ∧ (∀ q ∈ gs, q.2.1 ≤ 1000 ∧ q.2.2 ≤ 1000) ∧ ys.map Dt.tr = PX l i) ∧ Sl a 130 [(2, .bool false), (3, .slice so_ ys.length ca_), (12, .slice (some ⟨g3, 0, none⟩) 0 0)] ∧ Mg w w1 (.row 30 11 (.slice so_ ys.length ca_) ys.length (cellsOf ys) :: (pcs gs))) → K5 a w1 := by
   clear hA hM
   rintro a w7 ⟨i, ys, gs, so_, ca_, hf8, hA, hM⟩
   obtain ⟨hi0, hi1, hyg, hgs, hyt⟩ := hf8
   refine hK5 _ _ ?_
   refine wp_seq_k (fun K9 hK9 => ?_)
   have hB1 := hM.bel
   have hyl : ys.length = i := by have := congrArg List.length hyt; rwa [List.length_map, PX_len] at this
   have hRi := (rt_own (hM.has 0 rfl)).1
   have hDi : ∀ t ∈ ys, t.rd w7 := fun t ht => by
     rw [hyg] at ht
     obtain ⟨q, hq, rfl⟩ := List.mem_map.1 (List.mem_reverse.1 ht)
     exact pcs_rd (L := [_]) hM hgs q hq
   replace hT := hT.below hM.bel
   have hXm := PX_all (l := l) hi1
   have hXo := okP hXm (by rw [PX_len]; omega)
   have hXb := PX_bulk (l := l) hi1
   have hnb : nilT.bulk = 1 := rfl
   replace hM : Mg w7 w7 [] := Mg.start w7
   refine wp_region_lit ?_
   refine seq_do hA rfl rfl rfl (does_move rfl) ?_
   intro a hA
   refine seq_call hA rfl rfl rfl (enters_func rfl rfl (fun w => by kernel_rfl)) (of_any (hRi.below hM.bel) (fun t ht => Dt.keep hM.bel _ (hDi t ht)) (by rw [hyt]; omega) (hT.below hM.bel)) ?_
   rintro _ w11 ⟨p, rfl, ⟨hrp, -, htp⟩, hb10⟩
   have hpe : p.tr = linkT (PX l i) nilT := by rw [htp, hyt, ofS_yes hXo]
   replace hM := hM.call hb10
   refine ⟨_, rfl, ?_⟩
   intro a hA
   have hB2 := hB1.trans (hM.bel.mono hB1.size)
   replace hT := hT.below hM.bel
   replace hRi := hRi.below hM.bel
   replace hDi := fun t ht => Dt.keep hM.bel _ (hDi t ht)
   replace hM : Mg w11 w11 [] := Mg.start w11
   refine seq_call hA rfl rfl rfl (enters_func rfl rfl (fun w => by kernel_rfl)) (sortByL_any (t := p) (Dt.keep hM.bel _ hrp) (by rw [hpe, link_bulk, PX_len]; omega) (hT.below hM.bel) (by rw [hpe]; exact (okL_iff _).2 hXo) (by rw [hpe]; exact asList_link _) (pairsP hXm)) ?_
   rintro _ w13 ⟨s, ks, rfl, ⟨hrs, -, hts⟩, hb12⟩
   have hse : s.tr = linkT (isort ltT (PX l i)) nilT := congrArg Prod.fst hts
   have hSo : OkL (isort ltT (PX l i)) := okP (fun x hx => hXm x ((isort_perm _).mem_iff.1 hx)) (by rw [isort_len, PX_len]; omega)
   replace hM := hM.call hb12
   refine ⟨_, rfl, ?_⟩
   intro a hA
   have hB3 := hB2.trans (hM.bel.mono hB2.size)
   replace hT := hT.below hM.bel
   replace hRi := hRi.below hM.bel
   replace hDi := fun t ht => Dt.keep hM.bel _ (hDi t ht)
   replace hrp := Dt.keep hM.bel _ hrp
   replace hM : Mg w13 w13 [] := Mg.start w13
   refine seq_do hA rfl rfl rfl (does_move rfl) ?_
   intro a hA
   refine seq_do (v := .agg (s.d.cells s.ts.length).toArray) hA rfl rfl rfl (does_extract (vs := [.agg (s.d.cells s.ts.length).toArray, .int .i64 ks]) rfl rfl) ?_
   intro a hA
   refine seq_do (v := .int .i64 ks) hA rfl rfl rfl (does_extract (vs := [.agg (s.d.cells s.ts.length).toArray, .int .i64 ks]) rfl rfl) ?_
   intro a hA
   refine s_new (vs := [.int .i64 0, .int .i64 0, .bool false, .slice none 0 0, .slice none 0 0, .bool false, .slice none 0 0, .slice none 0 0, .string (⟨#[]⟩), .slice none 0 0, .slice none 0 0]) (t := 30) hA hM rfl rfl rfl (fun g => .pointer (some ⟨g, 0, none⟩)) (does_alloc (z := .agg #[.int .i64 0, .int .i64 0, .bool false, .slice none 0 0, .slice none 0 0, .bool false, .slice none 0 0, .slice none 0 0, .string (⟨#[]⟩), .slice none 0 0, .slice none 0 0]) (by kernel_rfl) rfl) (by decide) ?_
   intro g14 w15 hM a hA
   refine s_store (us := [.int .i64 s.d.k, .int .i64 s.d.n, .bool s.d.y.q.b1, .slice s.d.y.o1 s.d.y.q.t1.length s.d.y.c1, .slice s.d.y.o2 s.d.y.q.q1.length s.d.y.c2, .bool s.d.y.q.b2, .slice s.d.y.o3 s.d.y.q.t2.length s.d.y.c3, .slice s.d.y.o4 s.d.y.q.q2.length s.d.y.c4, .string s.d.s, .slice s.d.ro s.d.rl.length s.d.rc, .slice s.d.lo s.ts.length s.d.lc]) (L' := (.obj g14 (.cells (s.d.cells s.ts.length).toArray 30) :: [])) hA hM rfl rfl (m_store rfl rfl rfl (by kernel_rfl) hM 0 rfl rfl rfl) 0 rfl rfl rfl ?_
   intro w16 hM
   refine seq_do hA rfl rfl rfl (does_assign rfl) ?_
   intro a hA
   refine seq_end ?_
   refine hK9 _ _ ?_
   refine wp_seq_k (fun K17 hK17 => ?_)
   refine wp_region_lit ?_
   refine seq_do hA rfl rfl rfl (m_loadS hM LiY_isS_30 rfl 0 rfl (cs := [.int .i64 s.d.k, .int .i64 s.d.n, .bool s.d.y.q.b1, .slice s.d.y.o1 s.d.y.q.t1.length s.d.y.c1, .slice s.d.y.o2 s.d.y.q.q1.length s.d.y.c2, .bool s.d.y.q.b2, .slice s.d.y.o3 s.d.y.q.t2.length s.d.y.c3, .slice s.d.y.o4 s.d.y.q.q2.length s.d.y.c4, .string s.d.s, .slice s.d.ro s.d.rl.length s.d.rc, .slice s.d.lo s.ts.length s.d.lc]) rfl rfl) ?_
   intro a hA
   refine seq_call hA rfl rfl rfl (enters_func rfl rfl (fun w => by kernel_rfl)) (items_any (t := s) (Dt.keep hM.bel _ hrs) (by rw [hse, link_bulk, bulks_perm (isort_perm _), isort_len, PX_len]; omega) (hT.below hM.bel)) ?_
   rintro _ w19 ⟨sv, cv, lv, kv, rfl, ⟨htv, hRv, hDv⟩, hb18⟩
   have hvp : (lv.map Dt.tr, kv) = (isort ltT (PX l i), 0) := by rw [htv, itemS_some (by rw [hse]; exact (okL_iff _).2 hSo) (by rw [hse]; exact asList_link _)]
   have hve : lv.map Dt.tr = isort ltT (PX l i) := congrArg Prod.fst hvp
   have hvk : kv = 0 := congrArg Prod.snd hvp
   have hvl : lv.length = i := by have := congrArg List.length hve; rwa [List.length_map, isort_len, PX_len] at this
   replace hM := hM.call hb18
   refine ⟨_, rfl, ?_⟩
   intro a hA
   have hB4 := hB3.trans (hM.bel.mono hB3.size)
   replace hT := hT.below hM.bel
   replace hRi := hRi.below hM.bel
   replace hDi := fun t ht => Dt.keep hM.bel _ (hDi t ht)
   replace hrp := Dt.keep hM.bel _ hrp
   replace hrs := Dt.keep hM.bel _ hrs
   have hHg14 := hM.here 0 (cs := [.int .i64 s.d.k, .int .i64 s.d.n, .bool s.d.y.q.b1, .slice s.d.y.o1 s.d.y.q.t1.length s.d.y.c1, .slice s.d.y.o2 s.d.y.q.q1.length s.d.y.c2, .bool s.d.y.q.b2, .slice s.d.y.o3 s.d.y.q.t2.length s.d.y.c3, .slice s.d.y.o4 s.d.y.q.q2.length s.d.y.c4, .string s.d.s, .slice s.d.ro s.d.rl.length s.d.rc, .slice s.d.lo s.ts.length s.d.lc]) rfl
   replace hM : Mg w19 w19 [] := Mg.start w19
   refine seq_do hA rfl rfl rfl (does_move rfl) ?_
   intro a hA
   refine seq_do (v := .slice sv lv.length cv) hA rfl rfl rfl (does_extract (vs := [.slice sv lv.length cv, .int .i64 kv]) rfl rfl) ?_
   intro a hA
   refine seq_do (v := .int .i64 kv) hA rfl rfl rfl (does_extract (vs := [.slice sv lv.length cv, .int .i64 kv]) rfl rfl) ?_
   intro a hA
   refine seq_do hA rfl rfl rfl (does_assign rfl) ?_
   intro a hA
   refine seq_do hA rfl rfl rfl (does_assign rfl) ?_
   intro a hA
   refine seq_end ?_
   refine hK17 _ _ ?_
   refine wp_seq_k (fun K20 hK20 => ?_)
   refine wp_seq_k (fun K21 hK21 => ?_)
   refine wp_region_lit ?_
   refine seq_call hA rfl rfl rfl (enters_func rfl rfl (fun w => by kernel_rfl)) (awake_any (hT.below hM.bel)) ?_
   rintro _ w23 ⟨rfl, hb22⟩
   replace hM := hM.call hb22
   refine ⟨_, rfl, ?_⟩
   intro a hA
   refine seq_do (v := .bool false) hA rfl rfl rfl (does_un rfl un_not) ?_
   intro a hA
   refine seq_do hA rfl rfl rfl (does_move rfl) ?_
   intro a hA
   refine seq_do hA rfl rfl rfl (does_move rfl) ?_
   intro a hA
   refine seq_do (v := .bool false) hA rfl rfl rfl (does_bin rfl rfl (fun w => (bin_neq w).trans (by rw [show ((ks != 0)) = false from (bne_eq_false_iff_eq.2 (congrArg Prod.snd hts))]))) ?_
   intro a hA
   refine seq_do (v := .bool false) hA rfl rfl rfl (does_pick rfl rfl rfl rfl) ?_
   intro a hA
   refine seq_do hA rfl rfl rfl (does_move rfl) ?_
   intro a hA
   refine seq_do hA rfl rfl rfl (does_move rfl) ?_
   intro a hA
   refine seq_do (v := .bool false) hA rfl rfl rfl (does_bin rfl rfl (fun w => (bin_neq w).trans (by rw [show ((kv != 0)) = false from (bne_eq_false_iff_eq.2 hvk)]))) ?_
   intro a hA
   refine seq_do (v := .bool false) hA rfl rfl rfl (does_pick rfl rfl rfl rfl) ?_
   intro a hA
   refine seq_do hA rfl rfl rfl (does_move rfl) ?_
   intro a hA
   refine seq_do hA rfl rfl rfl (does_move rfl) ?_
   intro a hA
   refine seq_do (v := .int .i64 (((lv.length : Nat) : Int))) hA rfl rfl rfl (does_len Tryz.underlying22 rfl) ?_
   intro a hA
   refine seq_do hA rfl rfl rfl (does_move rfl) ?_
   intro a hA
   refine seq_do (v := .int .i64 (((ys.length : Nat) : Int))) hA rfl rfl rfl (does_len Tryz.underlying22 rfl) ?_
   intro a hA
   refine seq_do (v := .bool false) hA rfl rfl rfl (does_bin rfl rfl (fun w => (bin_neq w).trans (by rw [show ((((lv.length : Nat) : Int) != ((ys.length : Nat) : Int))) = false from (bne_eq_false_iff_eq.2 (by omega))]))) ?_
   intro a hA
   refine seq_do (v := .bool false) hA rfl rfl rfl (does_pick rfl rfl rfl rfl) ?_
   intro a hA
   refine seq_end ?_
   refine hK21 _ _ ?_
   refine wp_cond_false (hA.ev rfl) ?_
   refine wp_skip ?_
   refine hK20 _ _ ?_
   refine wp_seq_k (fun K24 hK24 => ?_)
   refine wp_seq_k (fun K25 hK25 => ?_)
   refine wp_region_lit ?_
   refine seq_do hA rfl rfl rfl (does_assign rfl) ?_
   intro a hA
   refine seq_end ?_
   refine hK25 _ _ ?_
   refine wp_block ?_
   refine wp_loop_n (fun m_ a w1 => ∃ (j : Nat), m_ = 1 + (lv.length - j) ∧ (j ≤ lv.length) ∧ Sl a 130 [(3, .slice so_ ys.length ca_), (5, .pointer (some ⟨g14, 0, none⟩)), (6, .int .i64 ks), (7, .slice sv lv.length cv), (8, .int .i64 kv), (9, .int .i64 (((j : Nat) : Int))), (12, .slice (some ⟨g3, 0, none⟩) 0 0), (37, .tuple #[.agg (s.d.cells s.ts.length).toArray, .int .i64 ks]), (38, .slice so_ ys.length ca_), (39, .agg (p.d.cells p.ts.length).toArray), (40, .tuple #[.agg (s.d.cells s.ts.length).toArray, .int .i64 ks]), (41, .agg (s.d.cells s.ts.length).toArray), (42, .int .i64 ks), (43, .tuple #[.slice sv lv.length cv, .int .i64 kv]), (44, .agg (s.d.cells s.ts.length).toArray), (45, .tuple #[.slice sv lv.length cv, .int .i64 kv]), (46, .slice sv lv.length cv), (47, .int .i64 kv), (48, .bool true), (49, .bool false), (50, .bool false), (51, .int .i64 ks), (52, .bool false), (53, .bool false), (54, .bool false), (55, .int .i64 kv), (56, .bool false), (57, .bool false), (58, .bool false), (59, .slice sv lv.length cv), (60, .int .i64 (((lv.length : Nat) : Int))), (61, .slice so_ ys.length ca_), (62, .int .i64 (((ys.length : Nat) : Int))), (63, .bool false), (64, .bool false)] ∧ Mg w19 w1 ([])) _ ⟨0, rfl, (Nat.zero_le _), hA.keep _ ⟨rfl, rfl, rfl, rfl, rfl, rfl, rfl, rfl, rfl, rfl, rfl, rfl, rfl, rfl, rfl, rfl, rfl, rfl, rfl, rfl, rfl, rfl, rfl, rfl, rfl, rfl, rfl, rfl, rfl, rfl, rfl, rfl, rfl, rfl, rfl, trivial⟩, hM⟩ ?_
   clear hM hA
   rintro m_ a w26 ⟨j, rfl, hinv28, hA, hM⟩ K27 hK27
   have hj0 := hinv28
   refine wp_seq_k (fun K29 hK29 => ?_)
   refine wp_seq_k (fun K30 hK30 => ?_)
   refine wp_region_lit ?_
   refine seq_do hA rfl rfl rfl (does_move rfl) ?_
   intro a hA
   refine seq_do hA rfl rfl rfl (does_move rfl) ?_
   intro a hA
   refine seq_do (v := .int .i64 (((lv.length : Nat) : Int))) hA rfl rfl rfl (does_len Tryz.underlying22 rfl) ?_
   intro a hA
   rcases Bool.eq_false_or_eq_true (decide (((j : Nat) : Int) < ((lv.length : Nat) : Int))) with hb31 | hb31
   · have hb31' := of_decide_eq_true hb31
     refine seq_do (v := .bool true) hA rfl rfl rfl (does_bin rfl rfl (fun w => (bin_lss w).trans (by rw [hb31]))) ?_
     intro a hA
     refine seq_end ?_
     refine hK30 _ _ ?_
     refine wp_cond_true (hA.ev rfl) ?_
     refine wp_skip ?_
     refine hK29 _ _ ?_
     refine wp_seq_k (fun K32 hK32 => ?_)
     refine wp_block ?_
     refine wp_seq_k (fun K33 hK33 => ?_)
     refine wp_seq_k (fun K34 hK34 => ?_)
     obtain ⟨t1, bt1, ot1, it1, mt1, rt1_, lt1, Ht1⟩ := kidL hRv hDv (i := j) (by omega)
     obtain ⟨hs1, k1, n1, hp1⟩ := sorted_at hi1 hve it1
     obtain ⟨f1, f2, -⟩ := pair_form hp1
     refine wp_region_lit ?_
     refine seq_do hA rfl rfl rfl (does_move rfl) ?_
     intro a hA
     refine seq_do hA rfl rfl rfl (does_move rfl) ?_
     intro a hA
     refine seq_do (v := .pointer (some ⟨bt1, ot1 + j * 11, none⟩)) hA rfl rfl rfl (does_indexD (k := j) Tryz.underlying22 (by kernel_rfl) rfl rfl rfl lt1 (by omega)) ?_
     intro a hA
     refine seq_do (v := .pointer (some ⟨bt1, ot1 + j * 11, none⟩)) hA rfl rfl rfl (does_field LiY_fld_30_0 rfl rfl) ?_
     intro a hA
     refine seq_do hA rfl rfl rfl (m_loadH (j := 0) hM Ht1 LiY_is1_3 rfl rfl rfl) ?_
     intro a hA
     refine seq_do (v := .bool false) hA rfl rfl rfl (does_bin rfl rfl (fun w => (bin_neq w).trans (by rw [show ((t1.d.k != 8)) = false from (bne_eq_false_iff_eq.2 f1)]))) ?_
     intro a hA
     refine seq_do hA rfl rfl rfl (does_move rfl) ?_
     intro a hA
     refine seq_do hA rfl rfl rfl (does_move rfl) ?_
     intro a hA
     refine seq_do hA rfl rfl rfl (does_move rfl) ?_
     intro a hA
     refine seq_do (v := .pointer (some ⟨bt1, ot1 + j * 11, none⟩)) hA rfl rfl rfl (does_indexD (k := j) Tryz.underlying22 (by kernel_rfl) rfl rfl rfl lt1 (by omega)) ?_
     intro a hA
     refine seq_do (v := .pointer (some ⟨bt1, ot1 + j * 11 + 10, none⟩)) hA rfl rfl rfl (does_field LiY_fld_30_5 rfl rfl) ?_
     intro a hA
     refine seq_do hA rfl rfl rfl (m_loadH (j := 10) hM Ht1 LiY_is1_22 rfl rfl rfl) ?_
     intro a hA
     refine seq_do (v := .int .i64 (((t1.ts.length : Nat) : Int))) hA rfl rfl rfl (does_len Tryz.underlying22 rfl) ?_
     intro a hA
     refine seq_do (v := .bool false) hA rfl rfl rfl (does_bin rfl rfl (fun w => (bin_neq w).trans (by rw [show ((((t1.ts.length : Nat) : Int) != 2)) = false from (bne_eq_false_iff_eq.2 (by omega))]))) ?_
     intro a hA
     refine seq_do (v := .bool false) hA rfl rfl rfl (does_pick rfl rfl rfl rfl) ?_
     intro a hA
     refine seq_end ?_
     refine hK34 _ _ ?_
     refine wp_cond_false (hA.ev rfl) ?_
     refine wp_skip ?_
     refine hK33 _ _ ?_
     refine wp_seq_k (fun K35 hK35 => ?_)
     refine wp_seq_k (fun K36 hK36 => ?_)
     refine wp_region_lit ?_
     refine seq_do hA rfl rfl rfl (does_move rfl) ?_
     intro a hA
     rcases Bool.eq_false_or_eq_true ((((j : Nat) : Int) == 0)) with hb37 | hb37
     · have hb37' := eq_of_beq hb37
       refine seq_do (v := .bool true) hA rfl rfl rfl (does_bin rfl rfl (fun w => (bin_eql w).trans (by rw [hb37]))) ?_
       intro a hA
       refine seq_end ?_
       refine hK36 _ _ ?_
       refine wp_cond_true (hA.ev rfl) ?_
       refine wp_exit ?_
       refine hK32 _ _ ?_
       refine wp_region_lit ?_
       refine seq_do hA rfl rfl rfl (does_move rfl) ?_
       intro a hA
       refine seq_do (v := .int .i64 (((j + 1 : Nat) : Int))) hA rfl rfl rfl (does_bin rfl rfl (fun w => (bin_add (i64In (by omega) (by omega)) w).trans (by rw [show (((j : Nat) : Int) + 1 : Int) = ((j + 1 : Nat) : Int) from by omega]))) ?_
       intro a hA
       refine seq_do hA rfl rfl rfl (does_assign rfl) ?_
       intro a hA
       refine seq_end ?_
       refine hK27 _ _ _ (by omega) ⟨j + 1, rfl, (by omega), hA.keep _ ⟨rfl, rfl, rfl, rfl, rfl, rfl, rfl, rfl, rfl, rfl, rfl, rfl, rfl, rfl, rfl, rfl, rfl, rfl, rfl, rfl, rfl, rfl, rfl, rfl, rfl, rfl, rfl, rfl, rfl, rfl, rfl, rfl, rfl, rfl, rfl, trivial⟩, hM⟩
     · have hb37' := ne_of_beq_false hb37
       refine seq_do (v := .bool false) hA rfl rfl rfl (does_bin rfl rfl (fun w => (bin_eql w).trans (by rw [hb37]))) ?_
       intro a hA
       refine seq_end ?_
       refine hK36 _ _ ?_
       refine wp_cond_false (hA.ev rfl) ?_
       refine wp_skip ?_
       refine hK35 _ _ ?_
       refine wp_seq_k (fun K38 hK38 => ?_)
       obtain ⟨t3, bt3, ot3, it3, mt3, rt3_, lt3, Ht3⟩ := kidL hRv hDv (i := (j - 1)) (by omega)
       obtain ⟨hs3, k3, n3, hp3⟩ := sorted_at hi1 hve it3
       obtain ⟨f3, f4, -⟩ := pair_form hp3
       have hnn := neighbours (i := j - 1) hs3 (by rw [show j - 1 + 1 = j by omega]; exact hs1) hp3 hp1
       refine wp_draw (S := fun w1 => Mg w19 w1 ([])) (by kernel_rfl) ?_
       replace hM := hM.drew
       refine any_tk hA 0 rfl rfl rfl rfl hP (hM.sub (List.nil_sublist _)) (fun w1 hM => does_move rfl) ?_
       intro a hA
       refine any_tk hA 1 rfl rfl rfl rfl hP (hM.sub (List.nil_sublist _)) (fun w1 hM => does_move rfl) ?_
       intro a hA
       refine any_tk (v := .int .i64 (((j - 1 : Nat) : Int))) hA 2 rfl rfl rfl rfl hP (hM.sub (List.nil_sublist _)) (fun w1 hM => does_bin rfl rfl (ar_sub ((in_i64 (by omega) (by omega)).trans (by omega)))) ?_
       intro a hA
       refine any_tk (v := .pointer (some ⟨bt3, ot3 + (j - 1) * 11, none⟩)) hA 3 rfl rfl rfl rfl hP (hM.sub (List.nil_sublist _)) (fun w1 hM => does_indexD (k := (j - 1)) Tryz.underlying22 (by kernel_rfl) rfl rfl rfl lt3 (by omega)) ?_
       intro a hA
       refine any_tk (v := .pointer (some ⟨bt3, ot3 + (j - 1) * 11 + 10, none⟩)) hA 4 rfl rfl rfl rfl hP (hM.sub (List.nil_sublist _)) (fun w1 hM => does_field LiY_fld_30_5 rfl rfl) ?_
       intro a hA
       refine any_tk hA 5 rfl rfl rfl rfl hP (hM.sub (List.nil_sublist _)) (fun w1 hM => m_loadH (j := 10) hM Ht3 LiY_is1_22 rfl rfl rfl) ?_
       intro a hA
       refine any_tk hA 6 rfl rfl rfl rfl hP (hM.sub (List.nil_sublist _)) (fun w1 hM => does_move rfl) ?_
       intro a hA
       refine any_tk hA 7 rfl rfl rfl rfl hP (hM.sub (List.nil_sublist _)) (fun w1 hM => does_move rfl) ?_
       intro a hA
       refine any_tk (v := .pointer (some ⟨bt1, ot1 + j * 11, none⟩)) hA 8 rfl rfl rfl rfl hP (hM.sub (List.nil_sublist _)) (fun w1 hM => does_indexD (k := j) Tryz.underlying22 (by kernel_rfl) rfl rfl rfl lt1 (by omega)) ?_
       intro a hA
       refine any_tk (v := .pointer (some ⟨bt1, ot1 + j * 11 + 10, none⟩)) hA 9 rfl rfl rfl rfl hP (hM.sub (List.nil_sublist _)) (fun w1 hM => does_field LiY_fld_30_5 rfl rfl) ?_
       intro a hA
       refine any_tk hA 10 rfl rfl rfl rfl hP (hM.sub (List.nil_sublist _)) (fun w1 hM => m_loadH (j := 10) hM Ht1 LiY_is1_22 rfl rfl rfl) ?_
       intro a hA
       refine any_tk hA 11 rfl rfl rfl rfl hP (hM.sub (List.nil_sublist _)) (fun w1 hM => does_assign rfl) ?_
       intro a hA
       refine any_tk hA 12 rfl rfl rfl rfl hP (hM.sub (List.nil_sublist _)) (fun w1 hM => does_assign rfl) ?_
       intro a hA
       refine any_end (by kernel_rfl) ?_
       refine hK38 _ _ ?_
       refine wp_seq_k (fun K39 hK39 => ?_)
       obtain ⟨u0, bu0, ou0, iu0, mu0, ru0_, lu0, Hu0⟩ := kidT rt3_ (i := 0) (by omega)
       obtain ⟨u1, bu1, ou1, iu1, mu1, ru1_, lu1, Hu1⟩ := kidT rt3_ (i := 1) (by omega)
       obtain ⟨v0, bv0, ov0, iv0, mv0, rv0_, lv0, Hv0⟩ := kidT rt1_ (i := 0) (by omega)
       obtain ⟨v1, bv1, ov1, iv1, mv1, rv1_, lv1, Hv1⟩ := kidT rt1_ (i := 1) (by omega)
       obtain ⟨m1, m2⟩ := pair_nums hp3 iu0 iu1
       obtain ⟨m3, m4⟩ := pair_nums hp1 iv0 iv1
       refine wp_draw (S := fun w1 => Mg w19 w1 ([])) (by kernel_rfl) ?_
       replace hM := hM.drew
       refine any_tk hA 0 rfl rfl rfl rfl hP (hM.sub (List.nil_sublist _)) (fun w1 hM => does_move rfl) ?_
       intro a hA
       refine any_tk (v := .pointer (some ⟨bu0, ou0 + 0 * 11, none⟩)) hA 1 rfl rfl rfl rfl hP (hM.sub (List.nil_sublist _)) (fun w1 hM => does_indexD (k := 0) Tryz.underlying22 (by kernel_rfl) rfl rfl rfl lu0 (by omega)) ?_
       intro a hA
       refine any_tk (v := .pointer (some ⟨bu0, ou0 + 0 * 11 + 1, none⟩)) hA 2 rfl rfl rfl rfl hP (hM.sub (List.nil_sublist _)) (fun w1 hM => does_field LiY_fld_30_1 rfl rfl) ?_
       intro a hA
       refine any_tk hA 3 rfl rfl rfl rfl hP (hM.sub (List.nil_sublist _)) (fun w1 hM => m_loadH (j := 1) hM Hu0 LiY_is1_3 rfl rfl rfl) ?_
       intro a hA
       refine any_tk hA 4 rfl rfl rfl rfl hP (hM.sub (List.nil_sublist _)) (fun w1 hM => does_move rfl) ?_
       intro a hA
       refine any_tk (v := .pointer (some ⟨bv0, ov0 + 0 * 11, none⟩)) hA 5 rfl rfl rfl rfl hP (hM.sub (List.nil_sublist _)) (fun w1 hM => does_indexD (k := 0) Tryz.underlying22 (by kernel_rfl) rfl rfl rfl lv0 (by omega)) ?_
       intro a hA
       refine any_tk (v := .pointer (some ⟨bv0, ov0 + 0 * 11 + 1, none⟩)) hA 6 rfl rfl rfl rfl hP (hM.sub (List.nil_sublist _)) (fun w1 hM => does_field LiY_fld_30_1 rfl rfl) ?_
       intro a hA
       refine any_tk hA 7 rfl rfl rfl rfl hP (hM.sub (List.nil_sublist _)) (fun w1 hM => m_loadH (j := 1) hM Hv0 LiY_is1_3 rfl rfl rfl) ?_
       intro a hA
       refine any_tk (v := .bool false) hA 8 rfl rfl rfl rfl hP (hM.sub (List.nil_sublist _)) (fun w1 hM => does_bin rfl rfl (fun w => (bin_gtr w).trans (by rw [show (decide (v0.d.n < u0.d.n)) = false from (decide_eq_false (by omega))]))) ?_
       intro a hA
       refine any_tk hA 9 rfl rfl rfl rfl hP (hM.sub (List.nil_sublist _)) (fun w1 hM => does_move rfl) ?_
       intro a hA
       refine any_tk hA 10 rfl rfl rfl rfl hP (hM.sub (List.nil_sublist _)) (fun w1 hM => does_move rfl) ?_
       intro a hA
       refine any_tk (v := .pointer (some ⟨bu0, ou0 + 0 * 11, none⟩)) hA 11 rfl rfl rfl rfl hP (hM.sub (List.nil_sublist _)) (fun w1 hM => does_indexD (k := 0) Tryz.underlying22 (by kernel_rfl) rfl rfl rfl lu0 (by omega)) ?_
       intro a hA
       refine any_tk (v := .pointer (some ⟨bu0, ou0 + 0 * 11 + 1, none⟩)) hA 12 rfl rfl rfl rfl hP (hM.sub (List.nil_sublist _)) (fun w1 hM => does_field LiY_fld_30_1 rfl rfl) ?_
       intro a hA
       refine any_tk hA 13 rfl rfl rfl rfl hP (hM.sub (List.nil_sublist _)) (fun w1 hM => m_loadH (j := 1) hM Hu0 LiY_is1_3 rfl rfl rfl) ?_
       intro a hA
       refine any_tk hA 14 rfl rfl rfl rfl hP (hM.sub (List.nil_sublist _)) (fun w1 hM => does_move rfl) ?_
       intro a hA
       refine any_tk (v := .pointer (some ⟨bv0, ov0 + 0 * 11, none⟩)) hA 15 rfl rfl rfl rfl hP (hM.sub (List.nil_sublist _)) (fun w1 hM => does_indexD (k := 0) Tryz.underlying22 (by kernel_rfl) rfl rfl rfl lv0 (by omega)) ?_
       intro a hA
       refine any_tk (v := .pointer (some ⟨bv0, ov0 + 0 * 11 + 1, none⟩)) hA 16 rfl rfl rfl rfl hP (hM.sub (List.nil_sublist _)) (fun w1 hM => does_field LiY_fld_30_1 rfl rfl) ?_
       intro a hA
       refine any_tk hA 17 rfl rfl rfl rfl hP (hM.sub (List.nil_sublist _)) (fun w1 hM => m_loadH (j := 1) hM Hv0 LiY_is1_3 rfl rfl rfl) ?_
       intro a hA
       rcases Bool.eq_false_or_eq_true ((u0.d.n == v0.d.n)) with hb40 | hb40
       · have hb40' := eq_of_beq hb40
         refine any_tk (v := .bool true) hA 18 rfl rfl rfl rfl hP (hM.sub (List.nil_sublist _)) (fun w1 hM => does_bin rfl rfl (fun w => (bin_eql w).trans (by rw [hb40]))) ?_
         intro a hA
         refine any_tk hA 19 rfl rfl rfl rfl hP (hM.sub (List.nil_sublist _)) (fun w1 hM => does_move rfl) ?_
         intro a hA
         refine any_tk hA 20 rfl rfl rfl rfl hP (hM.sub (List.nil_sublist _)) (fun w1 hM => does_move rfl) ?_
         intro a hA
         refine any_tk (v := .pointer (some ⟨bu1, ou1 + 1 * 11, none⟩)) hA 21 rfl rfl rfl rfl hP (hM.sub (List.nil_sublist _)) (fun w1 hM => does_indexD (k := 1) Tryz.underlying22 (by kernel_rfl) rfl rfl rfl lu1 (by omega)) ?_
         intro a hA
         refine any_tk (v := .pointer (some ⟨bu1, ou1 + 1 * 11 + 1, none⟩)) hA 22 rfl rfl rfl rfl hP (hM.sub (List.nil_sublist _)) (fun w1 hM => does_field LiY_fld_30_1 rfl rfl) ?_
         intro a hA
         refine any_tk hA 23 rfl rfl rfl rfl hP (hM.sub (List.nil_sublist _)) (fun w1 hM => m_loadH (j := 1) hM Hu1 LiY_is1_3 rfl rfl rfl) ?_
         intro a hA
         refine any_tk hA 24 rfl rfl rfl rfl hP (hM.sub (List.nil_sublist _)) (fun w1 hM => does_move rfl) ?_
         intro a hA
         refine any_tk (v := .pointer (some ⟨bv1, ov1 + 1 * 11, none⟩)) hA 25 rfl rfl rfl rfl hP (hM.sub (List.nil_sublist _)) (fun w1 hM => does_indexD (k := 1) Tryz.underlying22 (by kernel_rfl) rfl rfl rfl lv1 (by omega)) ?_
         intro a hA
         refine any_tk (v := .pointer (some ⟨bv1, ov1 + 1 * 11 + 1, none⟩)) hA 26 rfl rfl rfl rfl hP (hM.sub (List.nil_sublist _)) (fun w1 hM => does_field LiY_fld_30_1 rfl rfl) ?_
         intro a hA
         refine any_tk hA 27 rfl rfl rfl rfl hP (hM.sub (List.nil_sublist _)) (fun w1 hM => m_loadH (j := 1) hM Hv1 LiY_is1_3 rfl rfl rfl) ?_
         intro a hA
         refine any_tk (v := .bool false) hA 28 rfl rfl rfl rfl hP (hM.sub (List.nil_sublist _)) (fun w1 hM => does_bin rfl rfl (fun w => (bin_geq w).trans (by rw [show (decide (v1.d.n ≤ u1.d.n)) = false from (decide_eq_false (by omega))]))) ?_
         intro a hA
         refine any_tk (v := .bool false) hA 29 rfl rfl rfl rfl hP (hM.sub (List.nil_sublist _)) (fun w1 hM => does_pick rfl rfl rfl rfl) ?_
         intro a hA
         refine any_tk (v := .bool false) hA 30 rfl rfl rfl rfl hP (hM.sub (List.nil_sublist _)) (fun w1 hM => does_pick rfl rfl rfl rfl) ?_
         intro a hA
         refine any_end (by kernel_rfl) ?_
         refine hK39 _ _ ?_
         refine wp_cond_false (hA.ev rfl) ?_
         refine wp_skip ?_
         refine hK32 _ _ ?_
         refine wp_region_lit ?_
         refine seq_do hA rfl rfl rfl (does_move rfl) ?_
         intro a hA
         refine seq_do (v := .int .i64 (((j + 1 : Nat) : Int))) hA rfl rfl rfl (does_bin rfl rfl (fun w => (bin_add (i64In (by omega) (by omega)) w).trans (by rw [show (((j : Nat) : Int) + 1 : Int) = ((j + 1 : Nat) : Int) from by omega]))) ?_
         intro a hA
         refine seq_do hA rfl rfl rfl (does_assign rfl) ?_
         intro a hA
         refine seq_end ?_
         refine hK27 _ _ _ (by omega) ⟨j + 1, rfl, (by omega), hA.keep _ ⟨rfl, rfl, rfl, rfl, rfl, rfl, rfl, rfl, rfl, rfl, rfl, rfl, rfl, rfl, rfl, rfl, rfl, rfl, rfl, rfl, rfl, rfl, rfl, rfl, rfl, rfl, rfl, rfl, rfl, rfl, rfl, rfl, rfl, rfl, rfl, trivial⟩, hM⟩
       · have hb40' := ne_of_beq_false hb40
         refine any_tk (v := .bool false) hA 18 rfl rfl rfl rfl hP (hM.sub (List.nil_sublist _)) (fun w1 hM => does_bin rfl rfl (fun w => (bin_eql w).trans (by rw [hb40]))) ?_
         intro a hA
         refine any_tk hA 19 rfl rfl rfl rfl hP (hM.sub (List.nil_sublist _)) (fun w1 hM => does_move rfl) ?_
         intro a hA
         refine any_sk hA 20 rfl rfl rfl rfl hP (hM.sub (List.nil_sublist _)) ?_
         intro a hA
         refine any_sk hA 21 rfl rfl rfl rfl hP (hM.sub (List.nil_sublist _)) ?_
         intro a hA
         refine any_sk hA 22 rfl rfl rfl rfl hP (hM.sub (List.nil_sublist _)) ?_
         intro a hA
         refine any_sk hA 23 rfl rfl rfl rfl hP (hM.sub (List.nil_sublist _)) ?_
         intro a hA
         refine any_sk hA 24 rfl rfl rfl rfl hP (hM.sub (List.nil_sublist _)) ?_
         intro a hA
         refine any_sk hA 25 rfl rfl rfl rfl hP (hM.sub (List.nil_sublist _)) ?_
         intro a hA
         refine any_sk hA 26 rfl rfl rfl rfl hP (hM.sub (List.nil_sublist _)) ?_
         intro a hA
         refine any_sk hA 27 rfl rfl rfl rfl hP (hM.sub (List.nil_sublist _)) ?_
         intro a hA
         refine any_sk hA 28 rfl rfl rfl rfl hP (hM.sub (List.nil_sublist _)) ?_
         intro a hA
         refine any_tk (v := .bool false) hA 29 rfl rfl rfl rfl hP (hM.sub (List.nil_sublist _)) (fun w1 hM => does_pick rfl rfl rfl rfl) ?_
         intro a hA
         refine any_tk (v := .bool false) hA 30 rfl rfl rfl rfl hP (hM.sub (List.nil_sublist _)) (fun w1 hM => does_pick rfl rfl rfl rfl) ?_
         intro a hA
         refine any_end (by kernel_rfl) ?_
         refine hK39 _ _ ?_
         refine wp_cond_false (hA.ev rfl) ?_
         refine wp_skip ?_
         refine hK32 _ _ ?_
         refine wp_region_lit ?_
         refine seq_do hA rfl rfl rfl (does_move rfl) ?_
         intro a hA
         refine seq_do (v := .int .i64 (((j + 1 : Nat) : Int))) hA rfl rfl rfl (does_bin rfl rfl (fun w => (bin_add (i64In (by omega) (by omega)) w).trans (by rw [show (((j : Nat) : Int) + 1 : Int) = ((j + 1 : Nat) : Int) from by omega]))) ?_
         intro a hA
         refine seq_do hA rfl rfl rfl (does_assign rfl) ?_
         intro a hA
         refine seq_end ?_
         refine hK27 _ _ _ (by omega) ⟨j + 1, rfl, (by omega), hA.keep _ ⟨rfl, rfl, rfl, rfl, rfl, rfl, rfl, rfl, rfl, rfl, rfl, rfl, rfl, rfl, rfl, rfl, rfl, rfl, rfl, rfl, rfl, rfl, rfl, rfl, rfl, rfl, rfl, rfl, rfl, rfl, rfl, rfl, rfl, rfl, rfl, trivial⟩, hM⟩
   · have hb31' := of_decide_eq_false hb31
     refine seq_do (v := .bool false) hA rfl rfl rfl (does_bin rfl rfl (fun w => (bin_lss w).trans (by rw [hb31]))) ?_
     intro a hA
     refine seq_end ?_
     refine hK30 _ _ ?_
     refine wp_cond_false (hA.ev rfl) ?_
     refine wp_exit ?_
     refine hK24 _ _ ?_
     refine wp_seq_k (fun K41 hK41 => ?_)
     refine wp_region_lit ?_
     refine seq_do hA rfl rfl rfl (does_assign rfl) ?_
     intro a hA
     refine seq_end ?_
     refine hK41 _ _ ?_
     refine wp_ret ?_
     refine hret _ _ ?_
     refine ends (v := .bool true) hA rfl (.cons (res_tmp rfl) .nil) rfl ?_
     exact ⟨rfl, hB4.trans (hM.bel.mono hB4.size)⟩
 refine wp_seq_k (fun K42 hK42 => ?_)
 refine wp_region_lit ?_
 refine seq_do hA rfl rfl rfl (does_assign rfl) ?_
 intro a hA
 refine seq_end ?_
 refine hK42 _ _ ?_
 refine wp_block ?_
 refine wp_loop_n (fun m_ a w1 => ∃ (i : Nat) (ys : List Dt) (gs : List (Nat × Nat × Nat)) (so_ : Option Addr) (ca_ : Nat), m_ = 1 + (250 - i) ∧ (i ≤ l.length ∧ i ≤ 250 ∧ ys = (gs.map mkP).reverse ∧ (∀ q ∈ gs, q.2.1 ≤ 1000 ∧ q.2.2 ≤ 1000) ∧ ys.map Dt.tr = PX l i) ∧ Sl a 130 [(0, .slice sk l.length ck), (2, .bool false), (3, .slice so_ ys.length ca_), (4, .int .i64 (((i : Nat) : Int))), (12, .slice (some ⟨g3, 0, none⟩) 0 0)] ∧ Mg w w1 (.row 30 11 (.slice so_ ys.length ca_) ys.length (cellsOf ys) :: (pcs gs))) _ ⟨0, [], [], (some ⟨g3, 0, none⟩), 0, rfl, ⟨Nat.zero_le _, Nat.zero_le _, rfl, (fun q h => by cases h), rfl⟩, hA.keep _ ⟨rfl, rfl, rfl, rfl, rfl, trivial⟩, hM⟩ ?_
 clear hM hA
 rintro m_ a w43 ⟨i, ys, gs, so_, ca_, rfl, hinv45, hA, hM⟩ K44 hK44
 obtain ⟨hi0, hi1, hyg, hgs, hyt⟩ := hinv45
 have hyl : ys.length = i := by have := congrArg List.length hyt; rwa [List.length_map, PX_len] at this
 refine wp_seq_k (fun K46 hK46 => ?_)
 refine wp_seq_k (fun K47 hK47 => ?_)
 refine wp_region_lit ?_
 refine seq_do hA rfl rfl rfl (does_move rfl) ?_
 intro a hA
 refine seq_do hA rfl rfl rfl (does_move rfl) ?_
 intro a hA
 refine seq_do (v := .int .i64 (((l.length : Nat) : Int))) hA rfl rfl rfl (does_len Tryz.underlying28 rfl) ?_
 intro a hA
 rcases Bool.eq_false_or_eq_true (decide (((i : Nat) : Int) < ((l.length : Nat) : Int))) with hb48 | hb48
 · have hb48' := of_decide_eq_true hb48
   refine seq_do (v := .bool true) hA rfl rfl rfl (does_bin rfl rfl (fun w => (bin_lss w).trans (by rw [hb48]))) ?_
   intro a hA
   refine seq_do hA rfl rfl rfl (does_move rfl) ?_
   intro a hA
   refine seq_do hA rfl rfl rfl (does_move rfl) ?_
   intro a hA
   rcases Bool.eq_false_or_eq_true (decide (((i : Nat) : Int) < 250)) with hb49 | hb49
   · have hb49' := of_decide_eq_true hb49
     refine seq_do (v := .bool true) hA rfl rfl rfl (does_bin rfl rfl (fun w => (bin_lss w).trans (by rw [hb49]))) ?_
     intro a hA
     refine seq_do (v := .bool true) hA rfl rfl rfl (does_pick rfl rfl rfl rfl) ?_
     intro a hA
     refine seq_end ?_
     refine hK47 _ _ ?_
     refine wp_cond_true (hA.ev rfl) ?_
     refine wp_skip ?_
     refine hK46 _ _ ?_
     refine wp_seq_k (fun K50 hK50 => ?_)
     refine wp_block ?_
     refine wp_region_lit ?_
     refine seq_do hA rfl rfl rfl (does_move rfl) ?_
     intro a hA
     refine seq_do hA rfl rfl rfl (does_move rfl) ?_
     intro a hA
     refine seq_do hA rfl rfl rfl (does_move rfl) ?_
     intro a hA
     obtain ⟨bx, ox, hx1, hx2, hx3⟩ := rb_open (i := i) hb (by omega)
     have hX8 : (l.getD i 0).toNat < 256 := UInt8.toNat_lt _
     obtain ⟨kk, hkk⟩ : ∃ kk, kk = (l.getD i 0).toNat % 5 := ⟨_, rfl⟩
     refine seq_do (v := .pointer (some ⟨bx, ox + i, none⟩)) hA rfl rfl rfl (does_indexRow (k := i) Tryz.underlying28 (by kernel_rfl) rfl rfl rfl hx1 (by omega)) ?_
     intro a hA
     refine seq_do hA rfl rfl rfl (m_loadR hM hx2 (hx3 i (by omega)) LiY_is1_5 rfl) ?_
     intro a hA
     refine seq_do (v := .int .u8 (((kk : Nat) : Int))) hA rfl rfl rfl (does_bin rfl rfl (ar_rem9 (by decide) (by rw [Int.tmod_eq_emod_of_nonneg (by omega)]; omega))) ?_
     intro a hA
     refine seq_do (v := .int .i64 (((kk : Nat) : Int))) hA rfl rfl rfl (does_convert rfl (ar_conv Tryz.underlying5 Tryz.underlying3 (in_i64 (by omega) (by omega)))) ?_
     intro a hA
     refine seq_do (v := .agg ((chD kk).d.cells (chD kk).ts.length).toArray) hA rfl rfl rfl (does_build rfl (fun w => by kernel_rfl)) ?_
     intro a hA
     refine seq_do hA rfl rfl rfl (does_move rfl) ?_
     intro a hA
     refine seq_do (v := .agg ((chD i).d.cells (chD i).ts.length).toArray) hA rfl rfl rfl (does_build rfl (fun w => by kernel_rfl)) ?_
     intro a hA
     refine s_litE (e := 30) (sz := 11) (m := 2) (vs := cellsOf [chD kk, chD i]) hA hM rfl rfl rfl (does_buildSlice rfl (by kernel_rfl)) rfl rfl (.inl (by decide)) ?_
     intro g5 w51 hM a hA
     refine seq_do (v := .agg ((pairD g5 (chD kk) (chD i)).d.cells (pairD g5 (chD kk) (chD i)).ts.length).toArray) hA rfl rfl rfl (does_build rfl (fun w => by kernel_rfl)) ?_
     intro a hA
     refine s_litE (e := 30) (sz := 11) (m := 1) (vs := cellsOf [(pairD g5 (chD kk) (chD i))]) hA hM rfl rfl rfl (does_buildSlice rfl (by kernel_rfl)) rfl rfl (.inl (by decide)) ?_
     intro g52 w53 hM a hA
     refine s_appendE (e := 30) (sz := 11) (k := 2) (q := ys.length) (m := 1) (xs := cellsOf ys) (news := cellsOf [(pairD g5 (chD kk) (chD i))]) (L' := fun v54 => (.row 30 11 (.slice (some ⟨g52, 0, none⟩) 1 1) 1 (cellsOf [(pairD g5 (chD kk) (chD i))]) :: .row 30 11 (.slice (some ⟨g5, 0, none⟩) 2 2) 2 (cellsOf [chD kk, chD i]) :: .row 30 11 (v54) (ys.length + 1) (cellsOf ys ++ cellsOf [(pairD g5 (chD kk) (chD i))]) :: (pcs gs))) hA rfl rfl rfl (m_appX (z := .agg #[.int .i64 0, .int .i64 0, .bool false, .slice none 0 0, .slice none 0 0, .bool false, .slice none 0 0, .slice none 0 0, .string ⟨#[]⟩, .slice none 0 0, .slice none 0 0]) (sz := 11) (by_ := 192) Tryz.underlying22 (by kernel_rfl) rfl rfl rfl hM 2 rfl rfl rfl rfl (rc_own (hM.has 0 rfl)) (cellsOf_oneC [(pairD g5 (chD kk) (chD i))]) (by omega)) (fun _ => rfl) ?_
     intro v54 w55 hM a hA
     replace hM : Mg w w55 (.row 30 11 (.slice (some ⟨g52, 0, none⟩) 1 1) 1 (cellsOf [(pairD g5 (chD kk) (chD i))]) :: .row 30 11 (.slice (some ⟨g5, 0, none⟩) 2 2) 2 (cellsOf [chD kk, chD i]) :: .row 30 11 (v54) ((ys ++ [(pairD g5 (chD kk) (chD i))]).length) (cellsOf (ys ++ [(pairD g5 (chD kk) (chD i))])) :: (pcs gs)) := by
       rw [cellsOf_append, List.length_append]; exact hM
     obtain ⟨so56, ca57, rfl⟩ := owns_any (hM.has 2 rfl)
     refine seq_do hA rfl rfl rfl (does_assign rfl) ?_
     intro a hA
     refine seq_end ?_
     refine hK50 _ _ ?_
     refine wp_region_lit ?_
     refine seq_do hA rfl rfl rfl (does_move rfl) ?_
     intro a hA
     refine seq_do (v := .int .i64 (((i + 1 : Nat) : Int))) hA rfl rfl rfl (does_bin rfl rfl (fun w => (bin_add (i64In (by omega) (by omega)) w).trans (by rw [show (((i : Nat) : Int) + 1 : Int) = ((i + 1 : Nat) : Int) from by omega]))) ?_
     intro a hA
     refine seq_do hA rfl rfl rfl (does_assign rfl) ?_
     intro a hA
     refine seq_end ?_
     replace hM := hM.sub (.cons _ (.cons_cons _ (.cons_cons _ (List.Sublist.refl _))))
     replace hM := hM.perm (List.Perm.swap _ _ _)
     refine hK44 _ _ _ (by omega) ⟨i + 1, ys ++ [pairD g5 (chD kk) (chD i)], (g5, kk, i) :: gs, so56, ca57, rfl, ⟨by omega, by omega, gs_ys hyg, gs_cons hgs (by omega) (by omega), PX_step hyt hkk⟩, hA.keep _ ⟨rfl, rfl, rfl, rfl, rfl, trivial⟩, hM⟩
   · have hb49' := of_decide_eq_false hb49
     refine seq_do (v := .bool false) hA rfl rfl rfl (does_bin rfl rfl (fun w => (bin_lss w).trans (by rw [hb49]))) ?_
     intro a hA
     refine seq_do (v := .bool false) hA rfl rfl rfl (does_pick rfl rfl rfl rfl) ?_
     intro a hA
     refine seq_end ?_
     refine hK47 _ _ ?_
     refine wp_cond_false (hA.ev rfl) ?_
     refine wp_exit ?_
     exact hJ6 _ _ ⟨i, ys, gs, so_, ca_, ⟨hi0, hi1, hyg, hgs, hyt⟩, hA.keep _ ⟨rfl, rfl, rfl, trivial⟩, hM⟩
 · have hb48' := of_decide_eq_false hb48
   refine seq_do (v := .bool false) hA rfl rfl rfl (does_bin rfl rfl (fun w => (bin_lss w).trans (by rw [hb48]))) ?_
   intro a hA
   refine seq_do hA rfl rfl rfl (does_move rfl) ?_
   intro a hA
   refine seq_skip hA rfl rfl rfl ?_
   intro a hA
   refine seq_skip hA rfl rfl rfl ?_
   intro a hA
   refine seq_do (v := .bool false) hA rfl rfl rfl (does_pick rfl rfl rfl rfl) ?_
   intro a hA
   refine seq_end ?_
   refine hK47 _ _ ?_
   refine wp_cond_false (hA.ev rfl) ?_
   refine wp_exit ?_
   exact hJ6 _ _ ⟨i, ys, gs, so_, ca_, ⟨hi0, hi1, hyg, hgs, hyt⟩, hA.keep _ ⟨rfl, rfl, rfl, trivial⟩, hM⟩
open Go.ChangeShapes Go.WideShapes Go.ChangeAt Go.RowKit Go.Joins Go.Deep
section
variable {H : Type} {enc : TypeId × Value → H} {W : World}
end
theorem bytes_row {w : World} {x : Addr} {len cap : Nat} {zs : List Int} (hl : len ≤ cap) (hz : zs.length = cap)
    (hc : ∀ i, i < zs.length → w.cell? (x.add i) = some (.int .u8 (zs.getD i 0))) (hw : ∀ n ∈ zs, (Lit.int .u8 n).wf = true) :
    ∃ l : List UInt8, l.length = len ∧ Rb w (some x) l := by
  have hbd : ∀ n ∈ zs, 0 ≤ n ∧ n < 256 := by
    intro n hn
    have := bounds_u8 (hw n hn)
    omega
  refine ⟨(zs.take len).map b8, by rw [List.length_map, List.length_take]; omega, ⟨fun hne => ?_⟩⟩
  have hlen : ((zs.take len).map b8).length = len := by rw [List.length_map, List.length_take]; omega
  have h0 : 0 < len := by
    apply Classical.byContradiction
    intro h
    have : len = 0 := by omega
    subst this
    simp at hne
  obtain ⟨b, off, spot⟩ := x
  have hspot : spot = none := by
    have := hc 0 (by omega)
    simp only [World.cell?, Addr.add] at this
    split at this
    · cases spot with
      | none => rfl
      | some s => simp at this
    · cases this
  subst hspot
  have hcj : ∀ j, j < len → w.cell? ⟨b, off + j, none⟩ = some (.int .u8 (((((zs.take len).map b8).getD j 0).toNat : Nat) : Int)) := by
    intro j hj
    have h1 := hc j (by omega)
    rw [Addr.add_lit] at h1
    rw [h1]
    have hjz : j < zs.length := by omega
    have h2 := hbd zs[j] (List.getElem_mem hjz)
    have e1 : zs.getD j 0 = zs[j] := by simp [hjz]
    have e2 : ((zs.take len).map b8).getD j 0 = b8 zs[j] := by simp [List.getD_eq_getElem?_getD, hj, hjz]
    rw [e1, e2, b8_val h2.1 h2.2]
  refine ⟨b, off, rfl, ?_, fun j hj => hcj j (by omega)⟩
  have := hcj 0 h0
  apply Classical.byContradiction
  intro h
  simp [World.cell?, Array.getElem?_eq_none (Nat.le_of_not_lt h)] at this
section
variable {H : Type} {enc : TypeId × Value → H} {W : World}
end
theorem Rb.take {w : World} {so : Option Addr} {l : List UInt8} (h : Rb w so l) (n : Nat) : Rb w so (l.take n) := by
  refine ⟨fun hne => ?_⟩
  obtain ⟨b, off, h1, h2, h3⟩ := h.pos (fun k => hne (by rw [k]; simp))
  refine ⟨b, off, h1, h2, fun j hj => ?_⟩
  rw [List.length_take] at hj
  rw [h3 j (by omega), List.getD_eq_getElem?_getD, List.getD_eq_getElem?_getD, List.getElem?_take_of_lt (by omega)]
section
variable {P : Program} {w : World} {l : List (Nat × Value)} {dst : Option Tmp} {ty : TypeId} {pos : String} {after : Array Edge} {guard : Option (Nat × Bool)}
end
end Go.Proofs.YtbnjomifogjdfaaGreatDoor.G
