/- The walk of BytevecCopies. -/
import Derived.Test.YtoeofpncdchicaaDoorPbyteve13c
import Derived.Test.YtoeofpncdchicaaDoorPbyteve13d
namespace Go.Proofs.YtoeofpncdchicaaDoor.G
open Go.RowKit
set_option linter.unusedVariables false
set_option linter.unusedSimpArgs false
set_option maxRecDepth 100000

theorem copies_any {w : World} {so to_ : Option Addr} {ca cb : Nat} {l m : List UInt8} {fr ap n : Int} (hA9 : Rb w so l) (hB : Rb w to_ m) (hl : l.length ≤ 140737488351232) (hm : m.length ≤ 140737488351232) (hca : l.length ≤ ca) (hcb : m.length ≤ cb) (hfr0 : -9223372036854775808 ≤ fr) (hfr1 : fr ≤ 9223372036854775807) (hap0 : -9223372036854775808 ≤ ap) (hap1 : ap ≤ 9223372036854775807) (hn0 : -9223372036854775808 ≤ n) (hn1 : n ≤ 9223372036854775807) : Calls Tryd.prog 4 #[.slice so l.length ca, .int .i64 fr, .slice to_ m.length cb, .int .i64 ap, .int .i64 n] w fun e w' => e = .returned (.bool true) ∧ Below w.heap.size w w' := by
 have hM : Mg w w ([]) := Mg.start w
 refine walk_of (l := [(0, .slice so l.length ca), (1, .int .i64 fr), (2, .slice to_ m.length cb), (3, .int .i64 ap), (4, .int .i64 n)]) Tryd.func4 rfl Tryd.ntmps4 rfl rfl ?_
 intro Q hret hnorm hP a hA
 refine wp_seq_k (fun K1 hK1 => ?_)
 refine wp_region_lit ?_
 refine seq_do hA rfl rfl rfl (does_assign rfl) ?_
 intro a hA
 refine seq_end ?_
 refine hK1 _ _ ?_
 refine wp_seq_k (fun K2 hK2 => ?_)
 refine wp_region_lit ?_
 refine s_lit (vs := []) hA hM rfl rfl rfl (does_buildSlice rfl (by kernel_rfl)) rfl rfl (noBld_quiet quietL_nil) ?_
 intro g3 w4 hM a hA
 refine seq_do hA rfl rfl rfl (does_move rfl) ?_
 intro a hA
 refine s_append (k := 0) (q := 0) (m := l.length) (xs := []) (news := Lib.byteCells l) (L' := fun v5 => (.row BY 1 (v5) ((0 + l.length)) (([] ++ Lib.byteCells l)) :: [])) hA rfl rfl rfl (m_appendA Tryd.underlying22 (by kernel_rfl) hM 0 rfl rfl (show Rb _ _ l from (hA9.below hM.bel)) rfl (by first | omega | (simp only [List.length_nil]; omega) | (simp only [List.length_append, List.length_take, List.length_drop, List.length_nil]; omega))) (fun _ => rfl) ?_
 intro v5 w6 hM a hA
 replace hM : Mg w w6 (.row BY 1 (v5) l.length ((Lib.byteCells l)) :: []) := by
   have h9 := hM
   rw [Nat.zero_add, List.nil_append] at h9
   exact h9
 obtain ⟨so7, ca8, rfl⟩ := owns_slice (hM.has 0 rfl)
 refine s_lit (vs := []) hA hM rfl rfl rfl (does_buildSlice rfl (by kernel_rfl)) rfl rfl (noBld_cons (by simp) (noBld_quiet quietL_nil)) ?_
 intro g9 w10 hM a hA
 refine seq_do hA rfl rfl rfl (does_move rfl) ?_
 intro a hA
 refine s_append (k := 0) (q := 0) (m := m.length) (xs := []) (news := Lib.byteCells m) (L' := fun v11 => (.row BY 1 (v11) ((0 + m.length)) (([] ++ Lib.byteCells m)) :: .row BY 1 (.slice so7 l.length ca8) l.length ((Lib.byteCells l)) :: [])) hA rfl rfl rfl (m_appendA Tryd.underlying22 (by kernel_rfl) hM 0 rfl rfl (show Rb _ _ m from (hB.below hM.bel)) rfl (by first | omega | (simp only [List.length_nil]; omega) | (simp only [List.length_append, List.length_take, List.length_drop, List.length_nil]; omega))) (fun _ => rfl) ?_
 intro v11 w12 hM a hA
 replace hM : Mg w w12 (.row BY 1 (v11) m.length ((Lib.byteCells m)) :: .row BY 1 (.slice so7 l.length ca8) l.length ((Lib.byteCells l)) :: []) := by
   have h9 := hM
   rw [Nat.zero_add, List.nil_append] at h9
   exact h9
 obtain ⟨so13, ca14, rfl⟩ := owns_slice (hM.has 0 rfl)
 refine seq_do hA rfl rfl rfl (does_assign rfl) ?_
 intro a hA
 refine seq_do hA rfl rfl rfl (does_assign rfl) ?_
 intro a hA
 refine seq_end ?_
 refine hK2 _ _ ?_
 refine wp_seq_k (fun K15 hK15 => ?_)
 refine wp_region_lit ?_
 refine seq_do hA rfl rfl rfl (does_move rfl) ?_
 intro a hA
 refine seq_do hA rfl rfl rfl (does_move rfl) ?_
 intro a hA
 refine seq_do hA rfl rfl rfl (does_move rfl) ?_
 intro a hA
 refine seq_do hA rfl rfl rfl (does_move rfl) ?_
 intro a hA
 refine seq_do hA rfl rfl rfl (does_move rfl) ?_
 intro a hA
 refine seq_call hA rfl rfl rfl (enters_func rfl rfl (fun w => by kernel_rfl)) (copy_any (l := l) (m := m) (ca := ca8) (cb := ca14) (rb_row hM 1 rfl).1 (rb_row hM 0 rfl).1 hl hm (own_cap hM 1 rfl) (own_cap hM 0 rfl) hfr0 hfr1 hap0 hap1 hn0 hn1) ?_
 rintro _ w20 ⟨v16, rfl, hM17⟩
 obtain ⟨so18, ca19, rfl⟩ := owns_slice (hM17.has 0 rfl)
 replace hM : Mg w w20 (.row BY 1 (.slice so18 ((cpR l fr m ap n).1.length) ca19) ((cpR l fr m ap n).1.length) ((Lib.byteCells (cpR l fr m ap n).1)) :: .row BY 1 (.slice so13 m.length ca14) m.length ((Lib.byteCells m)) :: .row BY 1 (.slice so7 l.length ca8) l.length ((Lib.byteCells l)) :: []) := (hM.both hM17 (noBld_cons (by simp) (noBld_cons (by simp) (noBld_quiet quietL_nil))) (noBld_cons (by simp) (noBld_quiet quietL_nil)))
 refine ⟨_, rfl, ?_⟩
 intro a hA
 refine seq_do hA rfl rfl rfl (does_move rfl) ?_
 intro a hA
 refine seq_do (v := .slice so18 ((cpR l fr m ap n).1.length) ca19) hA rfl rfl rfl (does_extract (vs := [.slice so18 ((cpR l fr m ap n).1.length) ca19, .int .i64 ((cpR l fr m ap n).2)]) rfl rfl) ?_
 intro a hA
 refine seq_do (v := .int .i64 ((cpR l fr m ap n).2)) hA rfl rfl rfl (does_extract (vs := [.slice so18 ((cpR l fr m ap n).1.length) ca19, .int .i64 ((cpR l fr m ap n).2)]) rfl rfl) ?_
 intro a hA
 refine seq_do hA rfl rfl rfl (does_assign rfl) ?_
 intro a hA
 refine seq_do hA rfl rfl rfl (does_assign rfl) ?_
 intro a hA
 refine seq_end ?_
 refine hK15 _ _ ?_
 refine wp_seq_k (fun K21 hK21 => ?_)
 refine wp_region_lit ?_
 refine seq_do hA rfl rfl rfl (does_move rfl) ?_
 intro a hA
 refine seq_do hA rfl rfl rfl (does_move rfl) ?_
 intro a hA
 refine seq_do hA rfl rfl rfl (does_move rfl) ?_
 intro a hA
 refine seq_do hA rfl rfl rfl (does_move rfl) ?_
 intro a hA
 refine seq_do hA rfl rfl rfl (does_move rfl) ?_
 intro a hA
 refine seq_call hA rfl rfl rfl (enters_func rfl rfl (fun w => by kernel_rfl)) (rcopyB_any (l := l) (m := m) (ca := ca) (cb := cb) (hA9.below hM.bel) (hB.below hM.bel) hl hm hca hcb hfr0 hfr1 hap0 hap1 hn0 hn1) ?_
 rintro _ w26 ⟨v22, rfl, hM23⟩
 obtain ⟨so24, ca25, rfl⟩ := owns_slice (hM23.has 0 rfl)
 replace hM : Mg w w26 (.row BY 1 (.slice so24 ((cpR l fr m ap n).1.length) ca25) ((cpR l fr m ap n).1.length) ((Lib.byteCells (cpR l fr m ap n).1)) :: .row BY 1 (.slice so18 ((cpR l fr m ap n).1.length) ca19) ((cpR l fr m ap n).1.length) ((Lib.byteCells (cpR l fr m ap n).1)) :: .row BY 1 (.slice so13 m.length ca14) m.length ((Lib.byteCells m)) :: .row BY 1 (.slice so7 l.length ca8) l.length ((Lib.byteCells l)) :: []) := (hM.both hM23 (noBld_cons (by simp) (noBld_cons (by simp) (noBld_cons (by simp) (noBld_quiet quietL_nil)))) (noBld_cons (by simp) (noBld_quiet quietL_nil)))
 refine ⟨_, rfl, ?_⟩
 intro a hA
 refine seq_do hA rfl rfl rfl (does_move rfl) ?_
 intro a hA
 refine seq_do (v := .slice so24 ((cpR l fr m ap n).1.length) ca25) hA rfl rfl rfl (does_extract (vs := [.slice so24 ((cpR l fr m ap n).1.length) ca25, .int .i64 ((cpR l fr m ap n).2)]) rfl rfl) ?_
 intro a hA
 refine seq_do (v := .int .i64 ((cpR l fr m ap n).2)) hA rfl rfl rfl (does_extract (vs := [.slice so24 ((cpR l fr m ap n).1.length) ca25, .int .i64 ((cpR l fr m ap n).2)]) rfl rfl) ?_
 intro a hA
 refine seq_do hA rfl rfl rfl (does_assign rfl) ?_
 intro a hA
 refine seq_do hA rfl rfl rfl (does_assign rfl) ?_
 intro a hA
 refine seq_end ?_
 refine hK21 _ _ ?_
 refine wp_seq_k (fun K27 hK27 => ?_)
 refine wp_region_lit ?_
 refine seq_do hA rfl rfl rfl (does_move rfl) ?_
 intro a hA
 refine seq_do hA rfl rfl rfl (does_move rfl) ?_
 intro a hA
 refine seq_do hA rfl rfl rfl (does_move rfl) ?_
 intro a hA
 refine seq_do hA rfl rfl rfl (does_move rfl) ?_
 intro a hA
 refine seq_do hA rfl rfl rfl (does_move rfl) ?_
 intro a hA
 refine seq_call hA rfl rfl rfl (enters_func rfl rfl (fun w => by kernel_rfl)) (copy_any (l := l) (m := l) (ca := ca8) (cb := ca8) (rb_row hM 3 rfl).1 (rb_row hM 3 rfl).1 hl hl (own_cap hM 3 rfl) (own_cap hM 3 rfl) hfr0 hfr1 hap0 hap1 hn0 hn1) ?_
 rintro _ w32 ⟨v28, rfl, hM29⟩
 obtain ⟨so30, ca31, rfl⟩ := owns_slice (hM29.has 0 rfl)
 replace hM : Mg w w32 (.row BY 1 (.slice so30 ((cpR l fr l ap n).1.length) ca31) ((cpR l fr l ap n).1.length) ((Lib.byteCells (cpR l fr l ap n).1)) :: .row BY 1 (.slice so24 ((cpR l fr m ap n).1.length) ca25) ((cpR l fr m ap n).1.length) ((Lib.byteCells (cpR l fr m ap n).1)) :: .row BY 1 (.slice so18 ((cpR l fr m ap n).1.length) ca19) ((cpR l fr m ap n).1.length) ((Lib.byteCells (cpR l fr m ap n).1)) :: .row BY 1 (.slice so13 m.length ca14) m.length ((Lib.byteCells m)) :: .row BY 1 (.slice so7 l.length ca8) l.length ((Lib.byteCells l)) :: []) := (hM.both hM29 (noBld_cons (by simp) (noBld_cons (by simp) (noBld_cons (by simp) (noBld_cons (by simp) (noBld_quiet quietL_nil))))) (noBld_cons (by simp) (noBld_quiet quietL_nil)))
 refine ⟨_, rfl, ?_⟩
 intro a hA
 refine seq_do hA rfl rfl rfl (does_move rfl) ?_
 intro a hA
 refine seq_do (v := .slice so30 ((cpR l fr l ap n).1.length) ca31) hA rfl rfl rfl (does_extract (vs := [.slice so30 ((cpR l fr l ap n).1.length) ca31, .int .i64 ((cpR l fr l ap n).2)]) rfl rfl) ?_
 intro a hA
 refine seq_do (v := .int .i64 ((cpR l fr l ap n).2)) hA rfl rfl rfl (does_extract (vs := [.slice so30 ((cpR l fr l ap n).1.length) ca31, .int .i64 ((cpR l fr l ap n).2)]) rfl rfl) ?_
 intro a hA
 refine seq_do hA rfl rfl rfl (does_assign rfl) ?_
 intro a hA
 refine seq_do hA rfl rfl rfl (does_assign rfl) ?_
 intro a hA
 refine seq_end ?_
 refine hK27 _ _ ?_
 refine wp_seq_k (fun K33 hK33 => ?_)
 refine wp_region_lit ?_
 refine seq_do hA rfl rfl rfl (does_move rfl) ?_
 intro a hA
 refine seq_do hA rfl rfl rfl (does_move rfl) ?_
 intro a hA
 refine seq_do hA rfl rfl rfl (does_move rfl) ?_
 intro a hA
 refine seq_do hA rfl rfl rfl (does_move rfl) ?_
 intro a hA
 refine seq_do hA rfl rfl rfl (does_move rfl) ?_
 intro a hA
 refine seq_call hA rfl rfl rfl (enters_func rfl rfl (fun w => by kernel_rfl)) (rcopyB_any (l := l) (m := l) (ca := ca) (cb := ca) (hA9.below hM.bel) (hA9.below hM.bel) hl hl hca hca hfr0 hfr1 hap0 hap1 hn0 hn1) ?_
 rintro _ w38 ⟨v34, rfl, hM35⟩
 obtain ⟨so36, ca37, rfl⟩ := owns_slice (hM35.has 0 rfl)
 replace hM : Mg w w38 (.row BY 1 (.slice so36 ((cpR l fr l ap n).1.length) ca37) ((cpR l fr l ap n).1.length) ((Lib.byteCells (cpR l fr l ap n).1)) :: .row BY 1 (.slice so30 ((cpR l fr l ap n).1.length) ca31) ((cpR l fr l ap n).1.length) ((Lib.byteCells (cpR l fr l ap n).1)) :: .row BY 1 (.slice so24 ((cpR l fr m ap n).1.length) ca25) ((cpR l fr m ap n).1.length) ((Lib.byteCells (cpR l fr m ap n).1)) :: .row BY 1 (.slice so18 ((cpR l fr m ap n).1.length) ca19) ((cpR l fr m ap n).1.length) ((Lib.byteCells (cpR l fr m ap n).1)) :: .row BY 1 (.slice so13 m.length ca14) m.length ((Lib.byteCells m)) :: .row BY 1 (.slice so7 l.length ca8) l.length ((Lib.byteCells l)) :: []) := (hM.both hM35 (noBld_cons (by simp) (noBld_cons (by simp) (noBld_cons (by simp) (noBld_cons (by simp) (noBld_cons (by simp) (noBld_quiet quietL_nil)))))) (noBld_cons (by simp) (noBld_quiet quietL_nil)))
 refine ⟨_, rfl, ?_⟩
 intro a hA
 refine seq_do hA rfl rfl rfl (does_move rfl) ?_
 intro a hA
 refine seq_do (v := .slice so36 ((cpR l fr l ap n).1.length) ca37) hA rfl rfl rfl (does_extract (vs := [.slice so36 ((cpR l fr l ap n).1.length) ca37, .int .i64 ((cpR l fr l ap n).2)]) rfl rfl) ?_
 intro a hA
 refine seq_do (v := .int .i64 ((cpR l fr l ap n).2)) hA rfl rfl rfl (does_extract (vs := [.slice so36 ((cpR l fr l ap n).1.length) ca37, .int .i64 ((cpR l fr l ap n).2)]) rfl rfl) ?_
 intro a hA
 refine seq_do hA rfl rfl rfl (does_assign rfl) ?_
 intro a hA
 refine seq_do hA rfl rfl rfl (does_assign rfl) ?_
 intro a hA
 refine seq_end ?_
 refine hK33 _ _ ?_
 refine wp_seq_k (fun K39 hK39 => ?_)
 refine wp_region_lit ?_
 refine seq_call hA rfl rfl rfl (enters_func rfl rfl (fun w => by kernel_rfl)) (awake5_any) ?_
 rintro _ w41 ⟨rfl, hb40⟩
 replace hM := hM.call hb40
 refine ⟨_, rfl, ?_⟩
 intro a hA
 refine seq_do hA rfl rfl rfl (does_move rfl) ?_
 intro a hA
 refine seq_do hA rfl rfl rfl (does_move rfl) ?_
 intro a hA
 refine seq_do hA rfl rfl rfl (does_move rfl) ?_
 intro a hA
 refine seq_call hA rfl rfl rfl (enters_func rfl rfl (fun w => by kernel_rfl)) (same_as (xs := (cpR l fr m ap n).1) (ys := (cpR l fr m ap n).1) (ca := ca19) (cb := ca25) (b := true) (rb_row hM 3 rfl).1 (rb_row hM 2 rfl).1 (Nat.le_trans cpR_le hm) (decide_eq_true rfl)) ?_
 rintro _ w43 ⟨rfl, hb42⟩
 replace hM := hM.call hb42
 refine ⟨_, rfl, ?_⟩
 intro a hA
 refine seq_do (v := .bool true) hA rfl rfl rfl (does_pick rfl rfl rfl rfl) ?_
 intro a hA
 refine seq_do hA rfl rfl rfl (does_move rfl) ?_
 intro a hA
 refine seq_do hA rfl rfl rfl (does_move rfl) ?_
 intro a hA
 refine seq_do hA rfl rfl rfl (does_move rfl) ?_
 intro a hA
 refine seq_do (v := .bool true) hA rfl rfl rfl (does_bin rfl rfl (fun w => (bin_eql w).trans (by rw [show (((cpR l fr m ap n).2 == (cpR l fr m ap n).2)) = true from by simp]))) ?_
 intro a hA
 refine seq_do (v := .bool true) hA rfl rfl rfl (does_pick rfl rfl rfl rfl) ?_
 intro a hA
 refine seq_do hA rfl rfl rfl (does_move rfl) ?_
 intro a hA
 refine seq_do hA rfl rfl rfl (does_move rfl) ?_
 intro a hA
 refine seq_do hA rfl rfl rfl (does_move rfl) ?_
 intro a hA
 refine seq_call hA rfl rfl rfl (enters_func rfl rfl (fun w => by kernel_rfl)) (same_as (xs := (cpR l fr l ap n).1) (ys := (cpR l fr l ap n).1) (ca := ca31) (cb := ca37) (b := true) (rb_row hM 1 rfl).1 (rb_row hM 0 rfl).1 (Nat.le_trans cpR_le hl) (decide_eq_true rfl)) ?_
 rintro _ w45 ⟨rfl, hb44⟩
 replace hM := hM.call hb44
 refine ⟨_, rfl, ?_⟩
 intro a hA
 refine seq_do (v := .bool true) hA rfl rfl rfl (does_pick rfl rfl rfl rfl) ?_
 intro a hA
 refine seq_do hA rfl rfl rfl (does_move rfl) ?_
 intro a hA
 refine seq_do hA rfl rfl rfl (does_move rfl) ?_
 intro a hA
 refine seq_do hA rfl rfl rfl (does_move rfl) ?_
 intro a hA
 refine seq_do (v := .bool true) hA rfl rfl rfl (does_bin rfl rfl (fun w => (bin_eql w).trans (by rw [show (((cpR l fr l ap n).2 == (cpR l fr l ap n).2)) = true from by simp]))) ?_
 intro a hA
 refine seq_do (v := .bool true) hA rfl rfl rfl (does_pick rfl rfl rfl rfl) ?_
 intro a hA
 refine seq_do hA rfl rfl rfl (does_move rfl) ?_
 intro a hA
 refine seq_do hA rfl rfl rfl (does_move rfl) ?_
 intro a hA
 refine seq_do hA rfl rfl rfl (does_move rfl) ?_
 intro a hA
 refine seq_call hA rfl rfl rfl (enters_func rfl rfl (fun w => by kernel_rfl)) (same_as (xs := l) (ys := l) (ca := ca8) (cb := ca) (b := true) (rb_row hM 5 rfl).1 (hA9.below hM.bel) hl (decide_eq_true rfl)) ?_
 rintro _ w47 ⟨rfl, hb46⟩
 replace hM := hM.call hb46
 refine ⟨_, rfl, ?_⟩
 intro a hA
 refine seq_do (v := .bool true) hA rfl rfl rfl (does_pick rfl rfl rfl rfl) ?_
 intro a hA
 refine seq_do hA rfl rfl rfl (does_move rfl) ?_
 intro a hA
 refine seq_do hA rfl rfl rfl (does_move rfl) ?_
 intro a hA
 refine seq_do hA rfl rfl rfl (does_move rfl) ?_
 intro a hA
 refine seq_call hA rfl rfl rfl (enters_func rfl rfl (fun w => by kernel_rfl)) (same_as (xs := m) (ys := m) (ca := ca14) (cb := cb) (b := true) (rb_row hM 4 rfl).1 (hB.below hM.bel) hm (decide_eq_true rfl)) ?_
 rintro _ w49 ⟨rfl, hb48⟩
 replace hM := hM.call hb48
 refine ⟨_, rfl, ?_⟩
 intro a hA
 refine seq_do (v := .bool true) hA rfl rfl rfl (does_pick rfl rfl rfl rfl) ?_
 intro a hA
 refine seq_do hA rfl rfl rfl (does_assign rfl) ?_
 intro a hA
 refine seq_end ?_
 refine hK39 _ _ ?_
 refine wp_ret ?_
 refine hret _ _ ?_
 refine ends (v := .bool true) hA rfl (.cons (res_tmp rfl) .nil) rfl ?_
 exact ⟨rfl, hM.bel⟩
end Go.Proofs.YtoeofpncdchicaaDoor.G
